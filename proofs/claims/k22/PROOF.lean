import PyProof.Rows.All
import Wide.All
import OpenK.AllK
import Wide.FinOn
import Lean
import PyProof.EqAt
import PyProof.EqKinds
import PyProof.TupleCall
import PySem.Challenge.RW_twotabs_k22_changes_followed
set_option Elab.async false
set_option linter.all false
set_option genSizeOfSpec false
set_option genSizeOf false
set_option maxRecDepth 100000
namespace My
open PySem PySem.W PyProof.Rows
noncomputable def zvk (tb:String→Option Builtin) (p:Program) (w:World) (n0:Nat) (ann:Option Value):Nat→SharedT→Thread→Option SharedT
 | 0,_,_=>none
 | n+1,s,t=>match through t with
  | true=>some s
  | false=>match stepOk n0 ann t with
   | false=>none
   | true=>match stepT (denote tb) p w s t with
    | some (s',t')=>zvk tb p w n0 ann n s' t'
    | none=>none
theorem zmk {tb:String→Option Builtin} {p:Program} {w:World} {n0:Nat} {ann:Option Value}:∀ {n:Nat} {s s':SharedT} {t:Thread},zvk tb p w n0 ann n s t=some s'→topRun tb p w n0 ann n s.abs t=some s'.abs
 | 0,_,_,_,h=>by cases h
 | n+1,s,s',t,h=>by
  unfold zvk at h
  unfold topRun
  cases he:through t with
  | true=>rw [he] at h;cases h;rfl
  | false =>
   rw [he] at h
   cases hk:stepOk n0 ann t with
   | false=>rw [hk] at h;cases h
   | true =>
    rw [hk] at h
    cases hs:stepT (denote tb) p w s t with
    | none=>rw [hs] at h;cases h
    | some r=>obtain ⟨s2,t2⟩:=r;rw [hs] at h;rw [stepT_spec hs];exact zmk h
noncomputable def treeOf (l:List Obj):BT:=(l.foldl (λ x o=>(x.1.ins x.2 o,x.2+1)) (BT.nil,0)).1
theorem left_tree {p q:Program} {loose:List Str} {Xt:Shared→Bool} {α:Type} {Yf:Shared→α} {Ya:World→α} {N:Nat} {g0:Bool} {m0:Nat} {T0:Params→BT} {L0:Params→Life}
  (e:opening p=plainProg p.main.scope.names) (hN:Nat.ble 600 N=true) (f:∀ s,fenceModules? p s=some s)
  (hT:∀ P:Params,absHeap (T0 P) m0 (L0 P)=boot_heap P)
  (size:∀ P:Params,((boot_heap P).isNs mainGlobals,(boot_heap P).objs.size)=(true,m0))
  (all:∀ w:World,(λ os=>(zvk treeTable p w m0 ((boot_heap w.params).nsMap mainGlobals "__annotations__") N ⟨T0 w.params,m0,L0 w.params,Array.mk [],boot_drawn,boot_toks,os⟩ (topStub p)).map λ s=>(λ r:Shared=>((staticsOk (importedModules p.main.body) (boot_heap w.params) r.heap && namesBound p r.heap && gensDone r && laidKept (boot_heap w.params) r.heap),openSeen q loose (importedModules p.main.body) Xt g0 r,Yf r)) s.abs)=λ _=>some (true,openGood q loose,Ya w)) :
  LeftO p q loose Xt Yf Ya N g0:=λ w=>by
 obtain ⟨⟨h,gs,d,k,os⟩,e1,e2⟩:=Option.map_eq_some_iff.mp (boot_open e hN f w)
 obtain ⟨rfl,rfl,rfl,rfl⟩:h=boot_heap w.params∧gs=Array.mk []∧d=boot_drawn∧k=boot_toks:=by simpa using e2
 obtain ⟨z1,z2⟩:_∧_:=by simpa only [Prod.mk.injEq] using size w.params
 obtain ⟨s,h1,h2⟩:=Option.map_eq_some_iff.mp (congrFun (all w) os)
 obtain ⟨l1,l2,l3⟩:_∧_∧_:=by simpa only [Prod.mk.injEq] using h2
 have r:=zmk h1
 have r:topRun treeTable p w m0 ((boot_heap w.params).nsMap mainGlobals "__annotations__") N ⟨boot_heap w.params,Array.mk [],boot_drawn,boot_toks,os⟩ (topStub p)=some s.abs:=by
  have e3:(⟨T0 w.params,m0,L0 w.params,Array.mk [],boot_drawn,boot_toks,os⟩:SharedT).abs=⟨boot_heap w.params,Array.mk [],boot_drawn,boot_toks,os⟩:=by
   show (⟨absHeap (T0 w.params) m0 (L0 w.params),_,_,_,_⟩:Shared)=_
   rw [hT]
  rw [← e3]
  exact r
 have t:topFrom treeTable p w N ⟨boot_heap w.params,Array.mk [],boot_drawn,boot_toks,os⟩=some s.abs:=by
  unfold topFrom
  dsimp only
  rw [z1,z2,r]
  show (match staticsOk (importedModules p.main.body) (boot_heap w.params) s.abs.heap && namesBound p s.abs.heap && gensDone s.abs && laidKept (boot_heap w.params) s.abs.heap with | true=>_ | false=>_)=_
  rw [l1]
 unfold openEnds
 rw [e1]
 show (topFrom treeTable p w N _).map _=_
 rw [t]
 exact congrArg some (Prod.ext l2 l3)
end My
section
open PySem PySem.W PyProof.Rows
noncomputable def My.viewQ:Program:={ PySem.Challenge.pw_twotabs_k22_changes_followed with main:={ PySem.Challenge.pw_twotabs_k22_changes_followed.main with body:=[0,2,3,4,5,6,7,9,11,12,14,15,16,17,19,20,21,22,23,24,25,26,27,28,29].filterMap (PySem.Challenge.pw_twotabs_k22_changes_followed.main.body[·]?) } }
open Lean in
local macro_rules
 | `(tactic| o_head $H)=>do
  let (hl,hw,hc):=(mkIdent `hl,mkIdent `hw,mkIdent `hc)
  `(tactic| refine W.holds_open (q:=My.viewQ) (loose:=[]) (Xt:=λ s=>xlAt My.viewQ [] s && recOk (RowW.records PySem.Challenge.rw_twotabs_k22_changes_followed.row.toRowW) s) (XP:=XL My.viewQ []) (Yf:=Hook.obs $H) (Ya:=Hook.val $H) (YP:=Hook.says $H) (N:=4770) ?$hl (Hook.of $H) (Hook.keeps $H) (λ s e=>xl_of s (Bool.and_eq_true_iff.mp e).1) XL.keeps (by rfl) (by rfl) (by rfl) (λ s e=>recFacts_of (Bool.and_eq_true_iff.mp e).2) (by rfl) (by assumption) (by decide +kernel) ⟨rfl,rfl,rfl,rfl,rfl,by decide +kernel⟩ ?$hw ?$hc)
local macro_rules | `(tactic| walk_at "fn") => `(tactic| (refine' L2.fun_mk ?l ?c ?k; (case l=>k_is); (case c=>k_is); (case k=>k_is)))
set_option maxRecDepth 100000 in
set_option maxHeartbeats 0 in
theorem My.dummy (hF:False):PySem.Challenge.rw_twotabs_k22_changes_followed.Holds:=by
 w_on;o_law;k_head
 all_goals exact hF.elim
set_option maxRecDepth 100000 in
set_option maxHeartbeats 0 in
theorem My.hlQ:LeftO PySem.Challenge.rw_twotabs_k22_changes_followed.row.prog My.viewQ [] (λ s=>xlAt My.viewQ [] s && recOk (RowW.records PySem.Challenge.rw_twotabs_k22_changes_followed.row.toRowW) s) (kHook My.dummy.heap_39 [2,3,15,17,18,20,21,22,29,30,31,32,35,42,43,44,47,54,55,56,59,66,67,68,71,78,79,80,83,90,91,92,95,97,98,100,101,109,111,112,114,115,116,118,119,121,122,123,125,126,128,129,130,132,133,135,136,137,139,140,142,143,144,146,147,149,150,151,153,154,156,157,158,160,161,163,164,165,167,168,170,171,172,174,175,177,178,179,180,181,182,183,186,189,190,191,194,195,196,199,200,201,204,205,206,209,210,211,213,214,216,217,218,220,221,223,224,225,228,229,230,232,233,235,236,237,239,240,242,243,244,247,248,249,252,253,254,256,257,259,260,261,264,265,266,268,269,271,272,273,276,277] (λ _=>rfl)).obs (kHook My.dummy.heap_39 [2,3,15,17,18,20,21,22,29,30,31,32,35,42,43,44,47,54,55,56,59,66,67,68,71,78,79,80,83,90,91,92,95,97,98,100,101,109,111,112,114,115,116,118,119,121,122,123,125,126,128,129,130,132,133,135,136,137,139,140,142,143,144,146,147,149,150,151,153,154,156,157,158,160,161,163,164,165,167,168,170,171,172,174,175,177,178,179,180,181,182,183,186,189,190,191,194,195,196,199,200,201,204,205,206,209,210,211,213,214,216,217,218,220,221,223,224,225,228,229,230,232,233,235,236,237,239,240,242,243,244,247,248,249,252,253,254,256,257,259,260,261,264,265,266,268,269,271,272,273,276,277] (λ _=>rfl)).val 4770:=by
 refine My.left_tree (T0:=λ P=>My.treeOf (boot_heap P).objs.toList) (L0:=λ P=>(boot_heap P).life) (m0:=11) (by kernel_rfl) (by kernel_rfl) (λ s=>by kernel_rfl) (λ P=>by kernel_rfl) (λ P=>by kernel_rfl) (λ w=>?_)
 kernel_rfl
end
namespace L2
open PySem PySem.Spec PyProof.Rows
noncomputable abbrev Key:=Sum Int Str
noncomputable def zaz:Key→Value→Bool
 | .inl k,v=>Value.isInt k v
 | .inr x,v=>Value.isStrOf x v
noncomputable def keyH (w:World):Key→Int
 | .inl k=>hashInt k
 | .inr x=>hashStr w x
theorem zsa:∀ {k:Key} {v:Value},zaz k v=true→(∃ i t,k=Sum.inl i∧v=Value.int i t) ∨ (∃ x t,k=Sum.inr x∧v=Value.str x t)
 | .inl i,v,h=>by
  obtain ⟨t,e⟩:=Value.isInt_shape (k:=i) (v:=v) h
  exact .inl ⟨i,t,rfl,e⟩
 | .inr x,v,h=>by
  obtain ⟨t,e⟩:=Value.isStrOf_shape (x:=x) (v:=v) h
  exact .inr ⟨x,t,rfl,e⟩
theorem zar (i:Int) (t:Tok):zaz (.inl i) (.int i t)=true:=by simp [zaz,Value.isInt]
theorem zt1 (a b:Int):decide ((Sum.inl a:Key)=Sum.inl b)=(a == b):=by
 by_cases e:a=b
 ·subst e;simp
 ·have h:¬ (Sum.inl a:Key)=Sum.inl b:=λ q=>e (Sum.inl.inj q)
  rw [decide_eq_false h]
  exact (beq_eq_false_iff_ne.mpr e).symm
theorem zb0 (a b:Str):decide ((Sum.inr a:Key)=Sum.inr b)=decide (a=b):=by
 by_cases e:a=b
 ·subst e;simp
 ·have h:¬ (Sum.inr a:Key)=Sum.inr b:=λ q=>e (Sum.inr.inj q)
  rw [decide_eq_false h,decide_eq_false e]
theorem zp2 (a:Int) (b:Str):decide ((Sum.inl a:Key)=Sum.inr b)=false:=decide_eq_false (λ q=>nomatch q)
theorem za2 (a:Str) (b:Int):decide ((Sum.inr a:Key)=Sum.inl b)=false:=decide_eq_false (λ q=>nomatch q)
noncomputable def zqh (prog:Program) (w:World):PySem.KeyKind prog w Key where
 is:=zaz
 hash:=keyH w
 inj:=λ v a b ha hb=>by
  rcases zsa ha with ⟨i,t,rfl,rfl⟩ | ⟨x,t,rfl,rfl⟩
  ·rcases zsa hb with ⟨j,u,rfl,e⟩ | ⟨y,u,rfl,e⟩
   ·injection e with e1 _;rw [e1]
   ·exact nomatch e
  ·rcases zsa hb with ⟨j,u,rfl,e⟩ | ⟨y,u,rfl,e⟩
   ·exact nomatch e
   ·injection e with e1 _;rw [e1]
 byValue:=λ k v h=>by
  rcases zsa h with ⟨i,t,rfl,rfl⟩ | ⟨x,t,rfl,rfl⟩ <;> rfl
 pyHash:=λ hv h=>by
  rcases zsa hv with ⟨i,t,rfl,rfl⟩ | ⟨x,t,rfl,rfl⟩
  ·exact wpAny_pyHash_int h
  ·exact wpAny_pyHash_str h
 eqBool:=λ hu hv h=>by
  rcases zsa hu with ⟨i,t,rfl,rfl⟩ | ⟨x,t,rfl,rfl⟩
  ·rcases zsa hv with ⟨j,u,rfl,rfl⟩ | ⟨y,u,rfl,rfl⟩
   ·rw [zt1] at h;exact wpAny_eqBool_int h
   ·rw [zp2] at h;exact SeqAt.EqAt.int_str i t y u _ _ _ _ h
  ·rcases zsa hv with ⟨j,u,rfl,rfl⟩ | ⟨y,u,rfl,rfl⟩
   ·rw [za2] at h;exact SeqAt.EqAt.str_int x t j u _ _ _ _ h
   ·rw [zb0] at h;exact wpAny_eqBool_str h
 «strs» := λ k x t v h=>by
  rcases zsa h with ⟨i,u,rfl,e⟩ | ⟨y,u,rfl,e⟩
  ·exact nomatch e
  ·injection e with e1 _
   subst e1
   cases v <;> rfl
theorem znf (prog:Program) (w:World) (i:Int) (t:Tok):(zqh prog w).is (.inl i) (.int i t)=true:=zar i t
end L2
namespace L2
open PySem PySem.Spec PyProof.Rows
inductive V where
 | non | bl (b:Bool) | int (i:Int) | str (x:Str) | byt (b:Array UInt8) | flt (b:UInt64) | ref (a:Addr) | ty (n:String)
 deriving DecidableEq
noncomputable def RelV:V→Value→Prop
 | .non,u=>u=Value.none
 | .bl b,u=>u=Value.bool b
 | .int i,u=>∃ t,u=Value.int i t
 | .str x,u=>∃ t,u=Value.str x t
 | .byt b,u=>∃ t,u=Value.bytes b t
 | .flt b,u=>∃ t,u=Value.float b t
 | .ref a,u=>u=Value.ref a
 | .ty n,u=>u=Value.type n
noncomputable abbrev Vals:List V→List Value→Prop:=Paired RelV
theorem Vals.length {xs:List V} {us:List Value} (r:Vals xs us):xs.length=us.length:=Paired.length r
theorem Vals.get:∀ {xs:List V} {us:List Value} {i:Nat} {x:V},Vals xs us→xs[i]? = some x→∃ u,us[i]? = some u∧RelV x u
 | _,_,_,_,.nil,e=>by simp at e
 | _,_,0,_,.cons r _,e=>by simp at e;subst e;exact ⟨_,rfl,r⟩
 | _,_,i+1,x,.cons _ t,e=>by
  obtain ⟨u,h1,h2⟩:=Vals.get (i:=i) (x:=x) t (by simpa using e)
  exact ⟨u,by simpa using h1,h2⟩
theorem Vals.append:∀ {xs ys:List V} {us ws:List Value},Vals xs us→Vals ys ws→Vals (xs++ys) (us++ws)
 | _,_,_,_,.nil,s=>s
 | _,_,_,_,.cons r t,s=>.cons r (Vals.append t s)
theorem Vals.take:∀ {xs:List V} {us:List Value} (n:Nat),Vals xs us→Vals (xs.take n) (us.take n)
 | _,_,0,_=>.nil
 | _,_,_+1,.nil=>.nil
 | _,_,n+1,.cons r t=>.cons r (Vals.take n t)
theorem Vals.drop:∀ {xs:List V} {us:List Value} (n:Nat),Vals xs us→Vals (xs.drop n) (us.drop n)
 | _,_,0,r=>r
 | _,_,_+1,.nil=>.nil
 | _,_,n+1,.cons _ t=>Vals.drop n t
noncomputable def RelO:Option V→Option Value→Prop
 | some v,some u=>RelV v u
 | none,none=>True
 | _,_=>False
noncomputable def KV {κ:Type}:List (κ×V)→List (κ×Value)→Prop:=Paired λ (p:κ×V) (q:κ×Value)=>p.1=q.1∧RelV p.2 q.2
noncomputable def kV:Key→V
 | .inl i=>.int i
 | .inr x=>.str x
inductive HO where
 | lst (xs:List V)
 | tup (xs:List V)
 | dK (kvs:List (Key×V)) | dT (kvs:List (List Key×V))
 | set (S:Int→Bool) (n:Nat)
 | ins (C dx:Addr) (fs:List (Str×V))
 | own (x:Addr)
 | xd (fs:List (Str×V))
 | met (f x:Addr)
 | rng (lo hi:Int)
 | frz (o:Obj) (u:HO)
 | tbl (ps:Array Value)
 | ext (φ:Heap→Prop)
noncomputable abbrev Hp:=Addr→Option HO
noncomputable def upd (H:Hp) (a:Addr) (o:HO):Hp:=λ b=>if b=a then some o else H b
theorem upd_same {H:Hp} {a:Addr} {o:HO}:upd H a o a=some o:=by unfold upd;rw [if_pos rfl]
theorem zga {H:Hp} {a b:Addr} {o:HO} (h:b≠a):upd H a o b=H b:=by unfold upd;rw [if_neg h]
theorem zcn {H:Hp} {a:Addr} {o u:HO}:upd (upd H a o) a u=upd H a u:=by
 funext b;unfold upd;split <;> rfl
theorem zcp {H:Hp} {a b:Addr} {o u:HO} (h:H a=some o) (h':H b=some u) (d:o≠u):a≠b:=by
 intro e;subst e;rw [h] at h';exact d (Option.some.inj h')
theorem zba {H:Hp} {a b:Addr} {o:HO} (h:H a=some o) (h':H b=none):a≠b:=by
 intro e;subst e;rw [h] at h';cases h'
section
variable (P:Program) (w:World)
noncomputable def ObjOk (H:Hp) (h:Heap) (a:Addr):HO→Prop
 | .lst xs=>xs.length≤sizeLine∧∃ (its:List Value) (n:Nat),Vals xs its∧h.get? a=some { cls := .type "list",data := .seq its.toArray n }
 | .tup xs=>xs.length≤sizeLine∧∃ its:List Value,Vals xs its∧IsTup h a its.toArray
 | .dK kvs=>kvs.length≤sizeLine∧(a == sysModules)=false∧∃ vs,KV kvs vs∧h.DictOf (zqh P w) a vs
 | .dT kvs=>kvs.length≤sizeLine∧(a == sysModules)=false∧∃ xs:List (List Key×Addr×Value),
   Paired (λ (p:List Key×V) (q:List Key×Addr×Value)=>p.1=q.1∧H q.2.1=some (.tup (p.1.map kV))∧RelV p.2 q.2.2) kvs xs ∧
   ∃ o es ep,h.get? a=some o∧o.ExactDict∧o.data = .dict es ep∧es.toList=xs.map (entryOfKey (tupleKind (zqh P w)))∧(xs.map (·.1)).Nodup
 | .set S n=>h.SetOf (intKind P w) a S n
 | .ins C dx fs=>H dx=some (.own a)∧fs.length≤1000∧dx≠a∧h.get? a=some (W.instObj C dx) ∧
   ∃ mA,h.Ns1 dx mA∧(∀ f,RelO (fs.lookup f) (mA f))∧PySem.Within mA (fs.map (·.1))
 | .own _=>∃ o,h.get? a=some o
 | .xd fs=>∃ mA,h.Ns1 a mA∧∀ f,RelO (fs.lookup f) (mA f)
 | .rng lo hi=>∃ t u v,h.get? a=some { cls := .type "range",data := .fields #[.int lo t,.int hi u,.int 1 v] }
 | .frz o u=>h.get? a=some o∧ObjOk H h a u
 | .tbl ps=>h.get? a=some { cls := .none,data := .fields ps }
 | .met f x=>h.get? a=some (W.methodObj (.ref f) (.ref x))
 | .ext φ=>φ h∧(∃ o,h.get? a=some o)∧∀ h1 h2:Heap,φ h1→(∀ o,h1.get? a=some o→h2.get? a=some o)→φ h2
noncomputable def HOk (H:Hp) (h:Heap):Prop:=∀ a o,H a=some o→ObjOk P w H h a o
end
section
variable {P:Program} {w:World} {H H':Hp} {h h':Heap} {a:Addr} {o:HO}
theorem ObjOk.lt (x:ObjOk P w H h a o):a<h.objs.size:=by
 cases o with
 | lst xs=>obtain ⟨_,_,_,_,e⟩:=x;exact Heap.lt_size e
 | tup xs=>obtain ⟨_,_,_,p⟩:=x;exact p.lt
 | dK kvs=>obtain ⟨_,_,_,_,o,_,_,e,_⟩:=x;exact Heap.lt_size e
 | dT kvs=>obtain ⟨_,_,_,_,o,_,_,e,_⟩:=x;exact Heap.lt_size e
 | set S n=>obtain ⟨o,_,_,_,e,_⟩:=x;exact Heap.lt_size e
 | ins C dx fs=>obtain ⟨_,_,_,e,_⟩:=x;exact Heap.lt_size e
 | own y=>obtain ⟨_,e⟩:=x;exact Heap.lt_size e
 | xd fs=>obtain ⟨_,⟨_,_,_,e,_⟩,_⟩:=x;exact Heap.lt_size e
 | rng lo hi=>obtain ⟨_,_,_,e⟩:=x;exact Heap.lt_size e
 | frz ob u=>obtain ⟨e,_⟩:=x;exact Heap.lt_size e
 | tbl ps=>exact Heap.lt_size (show h.get? a=some _ from x)
 | met f y=>exact Heap.lt_size (show h.get? a=some _ from x)
 | ext φ=>obtain ⟨_,⟨_,e⟩,_⟩:=x;exact Heap.lt_size e
theorem Paired.mapP {α β:Type} {F G:α→β→Prop}:∀ {l₁:List α} {l₂:List β},Paired F l₁ l₂→(∀ a b,F a b→G a b)→Paired G l₁ l₂
 | _,_,.nil,_=>.nil
 | _,_,.cons r t,f=>.cons (f _ _ r) (Paired.mapP t f)
theorem ObjOk.stay (x:ObjOk P w H h a o) (k:∀ b u,(b=a ∨ H b=some (.own a))→h.get? b=some u→h'.get? b=some u)
  (ho:∀ b,H b=some (.own a)→H' b=some (.own a)) (ht:∀ b xs,H b=some (.tup xs)→H' b=some (.tup xs)):ObjOk P w H' h' a o:=by
 induction o with
 | lst xs=>obtain ⟨z,its,n,r,e⟩:=x;exact ⟨z,its,n,r,k _ _ (.inl rfl) e⟩
 | tup xs=>obtain ⟨z,its,r,ob,e,c⟩:=x;exact ⟨z,its,r,ob,k _ _ (.inl rfl) e,c⟩
 | dK kvs=>obtain ⟨z,y,vs,r,ob,es,ep,e,c⟩:=x;exact ⟨z,y,vs,r,ob,es,ep,k _ _ (.inl rfl) e,c⟩
 | dT kvs =>
  obtain ⟨z,y,xs,r,ob,es,ep,e,c⟩:=x
  exact ⟨z,y,xs,Paired.mapP r λ p q z=>⟨z.1,ht _ _ z.2.1,z.2.2⟩,ob,es,ep,k _ _ (.inl rfl) e,c⟩
 | set S n=>obtain ⟨ob,es,ep,t,e,c⟩:=x;exact ⟨ob,es,ep,t,k _ _ (.inl rfl) e,c⟩
 | ins C dx fs =>
  obtain ⟨d,z,ne,e,mA,⟨od,es,ep,e2,c⟩,r⟩:=x
  exact ⟨ho _ d,z,ne,k _ _ (.inl rfl) e,mA,⟨od,es,ep,k _ _ (.inr d) e2,c⟩,r⟩
 | own y=>obtain ⟨ob,e⟩:=x;exact ⟨ob,k _ _ (.inl rfl) e⟩
 | xd fs=>obtain ⟨mA,⟨od,es,ep,e,c⟩,r⟩:=x;exact ⟨mA,⟨od,es,ep,k _ _ (.inl rfl) e,c⟩,r⟩
 | rng lo hi=>obtain ⟨t,u,v,e⟩:=x;exact ⟨t,u,v,k _ _ (.inl rfl) e⟩
 | frz ob u ih=>obtain ⟨e,q⟩:=x;exact ⟨k _ _ (.inl rfl) e,ih q⟩
 | tbl ps =>
  have e:h.get? a=some { cls := .none,data := .fields ps }:=x
  show h'.get? a=some { cls := .none,data := .fields ps }
  exact k a _ (.inl rfl) e
 | met f y =>
  have e:h.get? a=some (W.methodObj (.ref f) (.ref y)):=x
  show h'.get? a=some (W.methodObj (.ref f) (.ref y))
  exact k a _ (.inl rfl) e
 | ext φ=>obtain ⟨p,⟨o,e⟩,st⟩:=x;exact ⟨st _ _ p λ o q=>k _ _ (.inl rfl) q,⟨o,k _ _ (.inl rfl) e⟩,st⟩
theorem HOk.lt (x:HOk P w H h) (e:H a=some o):a<h.objs.size:=(x a o e).lt
theorem HOk.fresh (x:HOk P w H h) (e:h.objs.size≤a):H a=none:=by
 cases q:H a with
 | none=>rfl
 | some u=>exact absurd (Nat.lt_of_lt_of_le (x.lt q) e) (Nat.lt_irrefl _)
theorem HOk.kept (x:HOk P w H h) (k:∀ b u,h.get? b=some u→h'.get? b=some u):HOk P w H h':=λ a o e =>
 (x a o e).stay (λ b u _ q=>k b u q) (λ _ q=>q) λ _ _ q=>q
theorem HOk.laid (x:HOk P w H h) (k:∀ b u,h.get? b=some u→h'.get? b=some u) (hp:h.objs.size≤a) (new:ObjOk P w (upd H a o) h' a o):HOk P w (upd H a o) h':=λ b u e=>by
 have hn:=x.fresh hp
 by_cases hb:b=a
 ·subst hb;rw [upd_same] at e;cases e;exact new
 ·rw [zga hb] at e
  exact (x b u e).stay (λ c v _ q=>k c v q) (λ c q=>by rw [zga (zba q hn)];exact q) λ c xs q=>by rw [zga (zba q hn)];exact q
end
noncomputable def Rd (H:Hp) (a:Addr) (u:HO):Prop:=H a=some u ∨ ∃ o,H a=some (.frz o u)
theorem Rd.ok {P:Program} {w:World} {H:Hp} {h:Heap} {a:Addr} {u:HO} (r:Rd H a u) (x:HOk P w H h):ObjOk P w H h a u:=by
 rcases r with r | ⟨o,r⟩
 ·exact x a u r
 ·obtain ⟨_,q⟩:=x a _ r
  exact q
noncomputable def Mut:Option HO→Prop
 | some (.lst _)=>True
 | some (.dK _)=>True
 | some (.dT _)=>True
 | some (.set _ _)=>True
 | some (.ins _ _ _)=>True
 | some (.ext _)=>True
 | _=>False
section
variable {P:Program} {w:World} {H:Hp} {h h':Heap} {x e:Addr} {o':HO}
theorem HOk.write (ok:HOk P w H h) (mu:Mut (H x)) (he:e=x ∨ H e=some (.own x)) (k:∀ b u,b≠e→h.get? b=some u→h'.get? b=some u) (heo:∃ u,h'.get? e=some u)
  (new:ObjOk P w (upd H x o') h' x o'):HOk P w (upd H x o') h':=λ b u q=>by
 have nown:∀ c y,H c=some (.own y)→c≠x:=λ c y r z=>by subst z;rw [r] at mu;exact mu
 have ntup:∀ c xs,H c=some (.tup xs)→c≠x:=λ c xs r z=>by subst z;rw [r] at mu;exact mu
 by_cases hb:b=x
 ·subst hb;rw [upd_same] at q;cases q;exact new
 ·rw [zga hb] at q
  by_cases hbe:b=e
  ·have q':H b=some (.own x):=by
    rcases he with z | z
    ·exact absurd (hbe.trans z) hb
    ·rw [hbe];exact z
   rw [q] at q';cases q'
   obtain ⟨v,hv⟩:=heo
   exact ⟨v,by rw [hbe];exact hv⟩
  ·refine (ok b u q).stay (λ c v hc r=>k c v ?_ r) (λ c r=>by rw [zga (nown c b r)];exact r) λ c xs r=>by rw [zga (ntup c xs r)];exact r
   rcases hc with rfl | hc
   ·exact hbe
   ·rintro rfl
    rcases he with z | z
    ·exact nown c b hc z
    ·rw [hc] at z;cases z;exact hb rfl
end
structure Un (fs ex:List Addr) (H H':Hp) (h h':Heap):Prop where
 keep:∀ b o,h.get? b=some o→H b=none→b∉fs→b∉ex→h'.get? b=some o
 slot:∀ b o,h.get? b=some o→H b=none→b∈fs→b∉ex→∃ sl,h'.get? b=some { o with slots:=sl }
 free:∀ b o,h.get? b=some o→H b=none→b∉ex→H' b=none
 there:∀ b o,h.get? b=some o→b∉ex→∃ o',h'.get? b=some o'
 tups:∀ b xs,H b=some (.tup xs)→H' b=some (.tup xs)
 frzs:∀ b o u,H b=some (.frz o u)→H' b=some (.frz o u)
 tbls:∀ b ps,H b=some (.tbl ps)→∃ more,H' b=some (.tbl (ps++more))
section
variable {fs fs' ex ex':List Addr} {H H1 H2:Hp} {h h1 h2 h':Heap} {a x e:Addr} {o:HO}
theorem Un.any (u:Un fs ex H H1 h h1) {b:Addr} {ob:Obj} (q:h.get? b=some ob) (n:H b=none) (hx:b∉ex):∃ sl,h1.get? b=some { ob with slots:=sl }:=by
 by_cases hb:b∈fs
 ·exact u.slot b ob q n hb hx
 ·exact ⟨ob.slots,u.keep b ob q n hb hx⟩
theorem Un.kept (k:∀ b u,h.get? b=some u→h'.get? b=some u):Un fs ex H H h h' :=
 ⟨λ b ob q _ _ _=>k b ob q,λ b ob q _ _ _=>⟨ob.slots,k b ob q⟩,λ _ _ _ n _=>n,λ b ob q _=>⟨ob,k b ob q⟩,λ _ _ q=>q,λ _ _ _ q=>q,λ _ ps q=>⟨#[],by rw [q];simp⟩⟩
theorem Un.refl:Un fs ex H H h h:=Un.kept λ _ _ q=>q
theorem Un.laid (k:∀ b u,h.get? b=some u→h'.get? b=some u) (hp:h.objs.size≤a) (hn:H a=none):Un fs ex H (upd H a o) h h' where
 keep:=λ b u q _ _ _=>k b u q
 slot:=λ b u q _ _ _=>⟨u.slots,k b u q⟩
 free:=λ b u q n _=>by rw [zga (Nat.ne_of_lt (Nat.lt_of_lt_of_le (Heap.lt_size q) hp))];exact n
 there:=λ b u q _=>⟨u,k b u q⟩
 tups:=λ b xs q=>by rw [zga (zba q hn)];exact q
 frzs:=λ b u xs q=>by rw [zga (zba q hn)];exact q
 tbls:=λ b ps q=>⟨#[],by rw [zga (zba q hn),q];simp⟩
theorem Un.write (mu:Mut (H x)) (he:e=x ∨ H e=some (.own x)) (k:∀ b u,b≠e→h.get? b=some u→h'.get? b=some u) (heo:∃ u,h'.get? e=some u):Un fs ex H (upd H x o) h h':=by
 have hx:∀ b,H b=none→b≠x:=λ b n z=>by subst z;rw [n] at mu;exact mu
 have hb:∀ b,H b=none→b≠e:=λ b n z=>by
  subst z
  rcases he with r | r
  ·exact hx b n r
  ·rw [n] at r;cases r
 have hm:∀ b u,H b=some u→¬ Mut (some u)→b≠x:=λ b u q nm z=>by subst z;rw [q] at mu;exact nm mu
 refine ⟨λ b u q n _ _=>k b u (hb b n) q,λ b u q n _ _=>⟨u.slots,k b u (hb b n) q⟩,λ b u q n _=>by rw [zga (hx b n)];exact n,λ b u q _=>?_,
  λ b xs q=>by rw [zga (hm b _ q λ z=>z)];exact q,λ b u xs q=>by rw [zga (hm b _ q λ z=>z)];exact q,λ b ps q=>⟨#[],by rw [zga (hm b _ q λ z=>z),q];simp⟩⟩
 by_cases hbe:b=e
 ·subst hbe;exact heo
 ·exact ⟨u,k b u hbe q⟩
end
noncomputable def trk (h:Heap) (H:Hp):List Addr:=(List.range h.objs.size).filter λ a=>(H a).isSome
noncomputable def hidT (h:Heap) (H:Hp):Heap:=W.hideAll h (trk h H)
theorem zrp (h:Heap) (H:Hp):(hidT h H).objs.size=h.objs.size:=W.hideAll_size _ _
theorem zvt {h:Heap} {H:Hp} {b:Addr} {o:Obj} (e:h.get? b=some o) (n:H b=none):(hidT h H).get? b=some o :=
 W.hideAll_get _ e λ hm=>by
  have q:(H b).isSome=true:=(List.mem_filter.mp hm).2
  rw [n] at q;simp at q
theorem zzv {h:Heap} {H:Hp} {b:Addr} {o:Obj} (e:(hidT h H).get? b=some o):h.get? b=some o∧H b=none:=by
 have e':h.get? b=some o:=W.of_hideAll (trk h H) e
 refine ⟨e',?_⟩
 cases q:H b with
 | none=>rfl
 | some x =>
  have hm:b∈trk h H:=List.mem_filter.mpr ⟨List.mem_range.mpr (Heap.lt_size e'),by simp [q]⟩
  have z:(hidT h H).get? b=none:=W.hideAll_none (trk h H) hm
  rw [z] at e;cases e
end L2
namespace L2
open PySem PySem.Spec PyProof.Rows
structure Mod (K:W.Frag) (mg:Str→Option Value) (base:Heap):Prop where
 kin:K.In base
 glob:base.Ns mainGlobals mg
 blt:∃ mb,base.Ns builtinsNs mb∧∀ x:Str,x ≠ "__name__" → mb x=bootBuiltins x
 nolimit:base.NoLimit
structure Cx where
 prog:Program
 w:World
 K:W.Frag
 mg:Str→Option Value
 base:Heap
 A:Around
 N:List Str
 s₀:Shared
 H₀:Hp
 env:Env
 outer:List Env
 stack:List Env
 ex:List Addr
 fn:Str→Bool
 calm:Bool
 pn:List (Addr×Obj)
 xe:Value→Shared→Prop
noncomputable def frs (l:List Env):List Addr:=l.filterMap (·.frame)
noncomputable abbrev Cx.fs (X:Cx):List Addr:=frs X.outer
noncomputable def Vis (sc:Scope) (x:Str):Prop:=sc.names.lookup x=some .local ∨ sc.names.lookup x=some .cell ∨ sc.names.lookup x=some .free
noncomputable def Loc (sc:Scope) (x:Str):Prop:=sc.names.lookup x=some .local ∨ sc.names.lookup x=some .cell
noncomputable def Look (env:Env) (h:Heap) (m:Str→Option Value) (x:Str) (u:Value):Prop :=
 (env.kindOf x=some .local∧m x=some u) ∨ ((env.kindOf x=some .cell ∨ env.kindOf x=some .free)∧∃ c,env.cells.lookup x=some c∧h.IsCell c (some u))
structure Cx.Ok (X:Cx):Prop where
 mod:Mod X.K X.mg X.base
 kind:X.env.scope.kind = .function
 glob:X.env.globals=mainGlobals
 blt:X.env.builtins=builtinsNs
 above:X.s₀.heap.objs.size≤X.env.locals
 inj:∀ x y c,X.env.cells.lookup x=some c→X.env.cells.lookup y=some c→x=y
 has:∀ x,(X.env.kindOf x=some .cell ∨ X.env.kindOf x=some .free)→∃ c,X.env.cells.lookup x=some c
 cab:∀ x c,X.fn x=true→X.env.cells.lookup x=some c→X.s₀.heap.objs.size≤c
 hd:X.calm=true→X.A.handled=none
 frames:X.A.frames=some X.stack
 stk:X.stack=X.outer ∨ (X.stack=X.env::X.outer∧X.env.frame=some X.env.locals)
 exf:∀ b∈X.ex,b≠X.env.locals∧∀ x c,X.env.cells.lookup x=some c→c≠b
 bs:∀ b o,X.base.get? b=some o→X.s₀.heap.get? b=some o∧X.H₀ b=none
 bsz:X.base.objs.size≤X.s₀.heap.objs.size
 noex:∀ b o,X.base.get? b=some o→b∉X.ex
 exfs:∀ b∈X.ex,b∉X.fs
 funs:X.s₀.heap.FunFrames X.base X.outer
 frf:∀ b∈X.fs,X.H₀ b=none
structure Inv (X:Cx) (pins:List (Addr×Obj)) (σ:List (Option V)) (H:Hp) (s:Shared):Prop where
 ok:X.Ok
 os:s.os=X.s₀.os
 bare:AllBare s.gens
 base:Un X.fs X.ex X.H₀ H X.s₀.heap s.heap
 loc:∃ m,s.heap.Ns X.env.locals m∧∀ (i:Nat) (x:Str) (v:V),X.N[i]? = some x→σ[i]? = some (some v)→Vis X.env.scope x→∃ u,RelV v u∧Look X.env s.heap m x u
 cell:∀ x c,X.env.cells.lookup x=some c→∃ v,s.heap.IsCell c v
 free:H X.env.locals=none
 freeC:∀ x c,X.env.cells.lookup x=some c→H c=none
 pin:∀ p∈X.pn++pins,s.heap.get? p.1=some p.2∧H p.1=none∧p.1≠X.env.locals∧p.1∉X.fs∧∀ v,p.2.data ≠ .cell v
 hok:HOk X.prog X.w H s.heap
 len:σ.length=X.N.length
section
variable {X:Cx} {pins:List (Addr×Obj)} {σ:List (Option V)} {H H':Hp} {s:Shared} {h':Heap}
theorem Cx.Ok.nofr (ok:X.Ok) {b:Addr} {o:Obj} (e:X.base.get? b=some o):b∉X.fs:=λ hb=>by
 have:=(ok.funs.mem hb).1
 rw [e] at this;cases this
theorem Inv.bs (I:Inv X pins σ H s):∀ b o,X.base.get? b=some o→s.heap.get? b=some o∧H b=none:=λ b o e =>
 ⟨I.base.keep b o (I.ok.bs b o e).1 (I.ok.bs b o e).2 (I.ok.nofr e) (I.ok.noex b o e),I.base.free b o (I.ok.bs b o e).1 (I.ok.bs b o e).2 (I.ok.noex b o e)⟩
theorem Inv.bk (I:Inv X pins σ H s):∀ b o,X.base.get? b=some o→s.heap.get? b=some o:=λ b o e=>(I.bs b o e).1
theorem Inv.mod (I:Inv X pins σ H s):Mod X.K X.mg X.base:=I.ok.mod
theorem Inv.kIn (I:Inv X pins σ H s):X.K.In s.heap:=I.ok.mod.kin.keeps I.bk
theorem Inv.lt (I:Inv X pins σ H s):X.env.locals<s.heap.objs.size:=let ⟨_,hn,_⟩:=I.loc;hn.lt
theorem Inv.sz (I:Inv X pins σ H s):X.s₀.heap.objs.size≤s.heap.objs.size:=Nat.le_trans I.ok.above (Nat.le_of_lt I.lt)
theorem Inv.nofs (I:Inv X pins σ H s) {a:Addr} (h:s.heap.objs.size≤a):a∉X.fs:=λ hb=>by
 obtain ⟨_,o,ho,_⟩:=I.ok.funs.mem hb
 exact absurd (Nat.lt_of_lt_of_le (Heap.lt_size ho) (Nat.le_trans I.sz h)) (Nat.lt_irrefl _)
theorem Inv.cne (I:Inv X pins σ H s):∀ x c,X.env.cells.lookup x=some c→c≠X.env.locals:=λ x c e z=>by
 obtain ⟨v,o,ho,hd⟩:=I.cell x c e
 obtain ⟨m,⟨o',es,ep,ho',hd',_⟩,_⟩:=I.loc
 rw [z,ho'] at ho;cases ho;rw [hd'] at hd;cases hd
theorem Inv.funs (I:Inv X pins σ H s):s.heap.FunFrames X.base X.outer:=by
 have all:∀ (l:List Env),(∀ b∈frs l,b∈X.fs)→X.s₀.heap.FunFrames X.base l→s.heap.FunFrames X.base l:=by
  intro l
  induction l with
  | nil=>intro _ _;trivial
  | cons env r ih =>
   intro hs hl
   obtain ⟨hk,⟨L,o,hf,hn,ho,hd⟩,hr⟩:=hl
   have hL:L∈X.fs:=hs L (by unfold frs;rw [List.filterMap_cons,hf];exact List.mem_cons_self)
   obtain ⟨sl,e⟩:=I.base.slot L o ho (I.ok.frf L hL) hL λ z=>I.ok.exfs L z hL
   exact ⟨hk,⟨L,_,hf,hn,e,hd⟩,ih (λ b hb=>hs b (by unfold frs;rw [List.filterMap_cons,hf];exact List.mem_cons_of_mem _ hb)) hr⟩
 exact all X.outer (λ _ hb=>hb) I.ok.funs
theorem Inv.stack (I:Inv X pins σ H s):s.heap.FunFrames X.base X.stack:=by
 rcases I.ok.stk with e | ⟨e,hf⟩
 ·rw [e];exact I.funs
 ·rw [e]
  obtain ⟨m,hn,_⟩:=I.loc
  refine .cons (by rw [I.ok.kind];decide) hf hn ?_ I.funs
  exact Heap.get?_none_of_le (Nat.le_trans I.ok.bsz I.ok.above)
theorem Inv.stkSub (I:Inv X pins σ H s):∀ b∈frs X.stack,b∈X.env.locals::X.fs:=λ b hb=>by
 rcases I.ok.stk with e | ⟨e,hf⟩
 ·rw [e] at hb;exact List.mem_cons_of_mem _ hb
 ·rw [e] at hb
  unfold frs at hb
  rw [List.filterMap_cons,hf] at hb
  exact hb
theorem Inv.stkFree (I:Inv X pins σ H s):∀ b∈frs X.stack,H b=none:=λ b hb=>by
 rcases List.mem_cons.mp (I.stkSub b hb) with e | hb
 ·rw [e];exact I.free
 ·obtain ⟨_,o,ho,_⟩:=I.ok.funs.mem hb
  exact I.base.free b o ho (I.ok.frf b hb) λ z=>I.ok.exfs b z hb
theorem Inv.step {g':Array GenState} {t':Nat} {d':Drawn} {ch:List Addr} (I:Inv X pins σ H s)
  (hch:∀ b∈ch,(b∈X.ex ∨ X.s₀.heap.objs.size≤b)∧b≠X.env.locals∧(∀ x c,X.env.cells.lookup x=some c→c≠b)∧∀ p∈X.pn++pins,p.1≠b)
  (keep:∀ b o,b≠X.env.locals→b∉X.fs→b∉ch→s.heap.get? b=some o→H b=none→h'.get? b=some o)
  (slot:∀ b o,b≠X.env.locals→b∈X.fs→b∉ch→s.heap.get? b=some o→H b=none→∃ sl,h'.get? b=some { o with slots:=sl }) (free:∀ b o,b∉ch→s.heap.get? b=some o→H b=none→H' b=none)
  (there:∀ b o,b∉ch→s.heap.get? b=some o→∃ o',h'.get? b=some o')
  (tups:∀ b xs,H b=some (.tup xs)→H' b=some (.tup xs)) (frzs:∀ b o u,H b=some (.frz o u)→H' b=some (.frz o u)) (tbls:∀ b ps,H b=some (.tbl ps)→∃ more,H' b=some (.tbl (ps++more)))
  (ns:∀ m,s.heap.Ns X.env.locals m→h'.Ns X.env.locals m) (hok:HOk X.prog X.w H' h') (hg:AllBare g') :
  Inv X pins σ H' { s with heap:=h',gens:=g',drawn:=d',toks:=t' }:=by
 have neL:∀ b o,X.s₀.heap.get? b=some o→b≠X.env.locals:=λ b o e=>Nat.ne_of_lt (Nat.lt_of_lt_of_le (Heap.lt_size e) I.ok.above)
 have neC:∀ b o,X.s₀.heap.get? b=some o→b∉X.ex→b∉ch:=λ b o e hx hb=>by
  rcases (hch b hb).1 with z | z
  ·exact hx z
  ·exact absurd (Nat.lt_of_lt_of_le (Heap.lt_size e) z) (Nat.lt_irrefl _)
 have cellK:∀ x c,X.env.cells.lookup x=some c→∀ v,s.heap.IsCell c v→h'.IsCell c v:=λ x c e v ⟨o,ho,hd⟩=>by
  have nch:c∉ch:=λ z=>(hch c z).2.2.1 x c e rfl
  by_cases hc:c∈X.fs
  ·obtain ⟨sl,q⟩:=slot c o (I.cne x c e) hc nch ho (I.freeC x c e)
   exact ⟨_,q,hd⟩
  ·exact ⟨o,keep c o (I.cne x c e) hc nch ho (I.freeC x c e),hd⟩
 refine ⟨I.ok,I.os,hg,⟨λ b o e n hb hx=>?_,λ b o e n hb hx=>?_,λ b o e n hx=>?_,λ b o e hx=>?_,λ b xs e=>tups b xs (I.base.tups b xs e),λ b o xs e=>frzs b o xs (I.base.frzs b o xs e),λ b ps e=>?_⟩,?_,λ x c e=>?_,?_,λ x c e=>?_,λ p hp=>?_,hok,I.len⟩
 ·exact keep b o (neL b o e) hb (neC b o e hx) (I.base.keep b o e n hb hx) (I.base.free b o e n hx)
 ·obtain ⟨sl,e1⟩:=I.base.slot b o e n hb hx
  obtain ⟨sl',e2⟩:=slot b _ (neL b o e) hb (neC b o e hx) e1 (I.base.free b o e n hx)
  exact ⟨sl',e2⟩
 ·obtain ⟨o',e1⟩:=I.base.there b o e hx
  exact free b o' (neC b o e hx) e1 (I.base.free b o e n hx)
 ·obtain ⟨o',e1⟩:=I.base.there b o e hx
  exact there b o' (neC b o e hx) e1
 ·obtain ⟨m1,e1⟩:=I.base.tbls b ps e
  obtain ⟨m2,e2⟩:=tbls b _ e1
  exact ⟨m1++m2,by rw [e2,Array.append_assoc]⟩
 ·obtain ⟨m,hn,hl⟩:=I.loc
  refine ⟨m,ns m hn,λ i x v e1 e2 e3=>?_⟩
  obtain ⟨u,r,l⟩:=hl i x v e1 e2 e3
  refine ⟨u,r,?_⟩
  rcases l with l | ⟨k,c,e,z⟩
  ·exact .inl l
  ·exact .inr ⟨k,c,e,cellK x c e _ z⟩
 ·obtain ⟨v,z⟩:=I.cell x c e
  exact ⟨v,cellK x c e v z⟩
 ·obtain ⟨m,⟨o,_,_,ho,_⟩,_⟩:=I.loc
  exact free _ o (λ z=>(hch _ z).2.1 rfl) ho I.free
 ·obtain ⟨v,o,ho,hd⟩:=I.cell x c e
  exact free c o (λ z=>(hch c z).2.2.1 x c e rfl) ho (I.freeC x c e)
 ·obtain ⟨e,n,ne,nf,d⟩:=I.pin p hp
  have nch:p.1∉ch:=λ z=>(hch p.1 z).2.2.2 p hp rfl
  exact ⟨keep p.1 p.2 ne nf nch e n,free p.1 p.2 nch e n,ne,nf,d⟩
theorem Inv.un {t':Nat} (I:Inv X pins σ H s) (u:Un X.fs [] H H' s.heap h') (hok:HOk X.prog X.w H' h'):Inv X pins σ H' { s with heap:=h',toks:=t' }:=by
 obtain ⟨m,⟨o,es,ep,ho,r⟩,_⟩:=id I.loc
 obtain ⟨sl,hL⟩:=u.any ho I.free (by simp)
 exact I.step (g':=s.gens) (d':=s.drawn) (ch:=[]) (λ _ z=>nomatch z) (λ b o _ hb _ e n=>u.keep b o e n hb (by simp)) (λ b o _ hb _ e n=>u.slot b o e n hb (by simp)) (λ b o _ e n=>u.free b o e n (by simp)) (λ b o _ e=>u.there b o e (by simp)) u.tups u.frzs u.tbls (λ m' hm=>by
  obtain ⟨o',es',ep',ho',r'⟩:=hm
  rw [ho] at ho';cases ho'
  exact ⟨_,es',ep',hL,r'⟩) hok I.bare
theorem Inv.call {g':Array GenState} {t':Nat} {d':Drawn} {ch:List Addr} (I:Inv X pins σ H s) (u:Un (frs X.stack) ch H H' s.heap h') (hok:HOk X.prog X.w H' h') (hg:AllBare g')
  (hch:∀ b∈ch,(b∈X.ex ∨ X.s₀.heap.objs.size≤b)∧b≠X.env.locals∧(∀ x c,X.env.cells.lookup x=some c→c≠b)∧∀ p∈X.pn++pins,p.1≠b) :
  Inv X pins σ H' { s with heap:=h',gens:=g',drawn:=d',toks:=t' }:=by
 obtain ⟨m,⟨o,es,ep,ho,r⟩,_⟩:=id I.loc
 obtain ⟨sl,hL⟩:=u.any ho I.free λ z=>(hch _ z).2.1 rfl
 exact I.step (ch:=ch) hch (λ b o hL hb hc e n=>u.keep b o e n (λ z=>(List.mem_cons.mp (I.stkSub b z)).elim hL hb) hc) (λ b o _ _ hc e n=>u.any e n hc) (λ b o hc e n=>u.free b o e n hc) (λ b o hc e=>u.there b o e hc) u.tups u.frzs u.tbls (λ m' hm=>by
  obtain ⟨o',es',ep',ho',r'⟩:=hm
  rw [ho] at ho';cases ho'
  exact ⟨_,es',ep',hL,r'⟩) hok hg
theorem Inv.turned {t':Nat} {it:Addr} (I:Inv X pins σ H s) (k:∀ b o,b≠it→s.heap.get? b=some o→h'.get? b=some o) (hn:H it=none) (hL:it≠X.env.locals)
  (h1:it∈X.ex ∨ X.s₀.heap.objs.size≤it) (h2:∀ x c,X.env.cells.lookup x=some c→c≠it) (h3:∀ p∈X.pn++pins,p.1≠it):Inv X pins σ H { s with heap:=h',toks:=t' }:=by
 have nit:∀ b u,H b=some u→b≠it:=λ b u e z=>by rw [z,hn] at e;cases e
 refine I.step (g':=s.gens) (d':=s.drawn) (ch:=[it]) (λ b hb=>?_) (λ b o _ _ hc e _=>k b o (λ z=>hc (by simp [z])) e) (λ b o _ _ hc e _=>⟨o.slots,k b o (λ z=>hc (by simp [z])) e⟩) (λ _ _ _ _ n=>n)
  (λ b o hc e=>⟨o,k b o (λ z=>hc (by simp [z])) e⟩) (λ _ _ e=>e) (λ _ _ _ e=>e) (λ b ps e=>⟨#[],by rw [e];simp⟩) (λ m hm=>?_) (λ b u e=>?_) I.bare
 ·have e:b=it:=by simpa using hb
  subst e
  exact ⟨h1,hL,h2,h3⟩
 ·obtain ⟨o,es,ep,ho,r⟩:=hm
  exact ⟨o,es,ep,k _ o (Ne.symm hL) ho,r⟩
 ·refine (I.hok b u e).stay (λ c v hc q=>k c v ?_ q) (λ _ q=>q) λ _ _ q=>q
  rcases hc with z | z
  ·rw [z];exact nit b u e
  ·exact nit c _ z
theorem Inv.tok (I:Inv X pins σ H s) (t:Nat):Inv X pins σ H { s with toks:=t }:=I.un (h':=s.heap) (t':=t) Un.refl I.hok
theorem Inv.kept {t':Nat} (I:Inv X pins σ H s) (k:∀ b u,s.heap.get? b=some u→h'.get? b=some u):Inv X pins σ H { s with heap:=h',toks:=t' }:=I.un (Un.kept k) (I.hok.kept k)
theorem Inv.laid {a:Addr} {o:HO} {t':Nat} (I:Inv X pins σ H s) (k:∀ b u,s.heap.get? b=some u→h'.get? b=some u) (hp:s.heap.objs.size≤a) (new:ObjOk X.prog X.w (upd H a o) h' a o) :
  Inv X pins σ (upd H a o) { s with heap:=h',toks:=t' }:=I.un (Un.laid k hp (I.hok.fresh hp)) (I.hok.laid k hp new)
theorem Inv.write {x e:Addr} {o:HO} {t':Nat} (I:Inv X pins σ H s) (mu:Mut (H x)) (he:e=x ∨ H e=some (.own x)) (k:∀ b u,b≠e→s.heap.get? b=some u→h'.get? b=some u) (heo:∃ u,h'.get? e=some u)
  (new:ObjOk X.prog X.w (upd H x o) h' x o):Inv X pins σ (upd H x o) { s with heap:=h',toks:=t' }:=I.un (Un.write mu he k heo) (I.hok.write mu he k heo new)
theorem Inv.weak {σ':List (Option V)} (I:Inv X pins σ H s) (hl:σ'.length=σ.length) (w:∀ (i:Nat) v,σ'[i]? = some (some v)→σ[i]? = some (some v)):Inv X pins σ' H s :=
 ⟨I.ok,I.os,I.bare,I.base,let ⟨m,hn,hl'⟩:=I.loc; ⟨m,hn,λ i x v e1 e2 e3=>hl' i x v e1 (w i v e2) e3⟩,I.cell,I.free,I.freeC,I.pin,I.hok,hl.trans I.len⟩
theorem Inv.pins_of {pins':List (Addr×Obj)} (I:Inv X pins σ H s) (h:∀ p∈pins',s.heap.get? p.1=some p.2∧H p.1=none∧p.1≠X.env.locals∧p.1∉X.fs∧∀ v,p.2.data ≠ .cell v):Inv X pins' σ H s :=
 ⟨I.ok,I.os,I.bare,I.base,I.loc,I.cell,I.free,I.freeC,λ p hp=>(List.mem_append.mp hp).elim (λ z=>I.pin p (List.mem_append_left _ z)) (h p),I.hok,I.len⟩
theorem zpi {N:List Str} (hN:N.Nodup) {i j:Nat} {x:Str} (a:N[i]? = some x) (b:N[j]? = some x):i=j:=by
 obtain ⟨h1,e1⟩:=List.getElem?_eq_some_iff.mp a
 obtain ⟨h2,e2⟩:=List.getElem?_eq_some_iff.mp b
 exact (List.getElem_inj hN).mp (e1.trans e2.symm)
theorem zog {M:Model} {A:Around} {E:Value→Shared→Prop} {i:Nat} {x:Str} {v:V} {u:Value} {Q:Unit→Shared→Prop} (I:Inv X pins σ H s) (hN:X.N.Nodup) (hi:X.N[i]? = some x) (hx:Loc X.env.scope x) (r:RelV v u)
  (h:∀ s',Inv X pins (σ.set i (some v)) H s'→(∃ a,Heap.SameBut a s.heap s'.heap∧(a=X.env.locals ∨ X.env.cells.lookup x=some a))→Q () s') (hf:X.fn x=true ∨ X.env.scope.names.lookup x=some .local:=by first | exact .inl rfl | exact .inr rfl | assumption):wpAny M A (storeName X.env x u) Q E s:=by
 obtain ⟨m,hn,hl⟩:=id I.loc
 have hcls:(X.env.scope.kind == .class || (X.env.scope.kind == .module && X.env.locals != X.env.globals))=false:=by rw [I.ok.kind];rfl
 have hiσ:i<σ.length:=by rw [I.len];exact (List.getElem?_eq_some_iff.mp hi).1
 have cne:=I.cne
 have tracked:∀ {a:Addr} {h':Heap},(∃ o,s.heap.get? a=some o∧H a=none)→Heap.SameBut a s.heap h'→HOk X.prog X.w H h':=fun {a h'} ha hs b ob e=>by
  obtain ⟨_,_,hfree⟩:=ha
  refine (I.hok b ob e).stay (λ c w' hc q=>(hs.2 c ?_).trans q) (λ _ q=>q) λ _ _ q=>q
  rintro rfl
  rcases hc with rfl | hc
  ·rw [hfree] at e;cases e
  ·rw [hfree] at hc;cases hc
 rcases hx with hk | hk
 ·refine wpAny_storeName_local hk hn (λ h' hn' hs=>?_) hcls
  obtain ⟨oL,_,_,hoL,_⟩:=id hn
  refine h _ ⟨I.ok,I.os,I.bare,⟨λ b o e n hb hx=>?_,λ b o e n hb hx=>?_,I.base.free,λ b o e hx=>?_,I.base.tups,I.base.frzs,I.base.tbls⟩,⟨_,hn',λ j y v' e1 e2 e3=>?_⟩,λ y c e=>?_,I.free,I.freeC,λ p hp=>?_,tracked ⟨oL,hoL,I.free⟩ hs,by simpa using I.len⟩ ⟨_,hs,.inl rfl⟩
  ·exact (hs.2 b (Nat.ne_of_lt (Nat.lt_of_lt_of_le (Heap.lt_size e) I.ok.above))).trans (I.base.keep b o e n hb hx)
  ·obtain ⟨sl,e1⟩:=I.base.slot b o e n hb hx
   exact ⟨sl,(hs.2 b (Nat.ne_of_lt (Nat.lt_of_lt_of_le (Heap.lt_size e) I.ok.above))).trans e1⟩
  ·obtain ⟨o',e1⟩:=I.base.there b o e hx
   exact ⟨o',(hs.2 b (Nat.ne_of_lt (Nat.lt_of_lt_of_le (Heap.lt_size e) I.ok.above))).trans e1⟩
  ·by_cases hj:j=i
   ·subst hj
    rw [hi] at e1;cases e1
    rw [List.getElem?_set_self hiσ] at e2
    cases e2
    exact ⟨u,r,.inl ⟨hk,by simp⟩⟩
   ·rw [List.getElem?_set_ne (Ne.symm hj)] at e2
    obtain ⟨u',r',q⟩:=hl j y v' e1 e2 e3
    refine ⟨u',r',?_⟩
    rcases q with ⟨k,e⟩ | ⟨k,c,e,z⟩
    ·refine .inl ⟨k,?_⟩
     have:y≠x:=λ e=>hj (zpi hN e1 (e ▸ hi))
     simp [this,e]
    ·exact .inr ⟨k,c,e,z.sameBut hs (cne y c e)⟩
  ·obtain ⟨w',z⟩:=I.cell y c e
   exact ⟨w',z.sameBut hs (cne y c e)⟩
  ·obtain ⟨e,n,ne,nf,d⟩:=I.pin p hp
   exact ⟨(hs.2 p.1 ne).trans e,n,ne,nf,d⟩
 ·have hfn:X.fn x=true:=by
   rcases hf with z | z
   ·exact z
   ·rw [z] at hk;cases hk
  obtain ⟨c,hc⟩:=I.ok.has x (.inl hk)
  obtain ⟨w',z⟩:=I.cell x c hc
  refine wpAny_storeName_cell I.ok.kind hk hc z (λ h' hc' hs=>?_)
  obtain ⟨oc,hoc,hocd⟩:=id z
  refine h { s with heap:=h' } ⟨I.ok,I.os,I.bare,⟨λ b o e n hb hx=>?_,λ b o e n hb hx=>?_,I.base.free,λ b o e hx=>?_,I.base.tups,I.base.frzs,I.base.tbls⟩,⟨m,hn.sameBut hs (Ne.symm (cne x c hc)),λ j y v' e1 e2 e3=>?_⟩,λ y c' e=>?_,I.free,I.freeC,λ p hp=>?_,tracked ⟨oc,hoc,I.freeC x c hc⟩ hs,by simpa using I.len⟩ ⟨c,hs,.inr hc⟩
  ·exact (hs.2 b (Nat.ne_of_lt (Nat.lt_of_lt_of_le (Heap.lt_size e) (I.ok.cab x c hfn hc)))).trans (I.base.keep b o e n hb hx)
  ·obtain ⟨sl,e1⟩:=I.base.slot b o e n hb hx
   exact ⟨sl,(hs.2 b (Nat.ne_of_lt (Nat.lt_of_lt_of_le (Heap.lt_size e) (I.ok.cab x c hfn hc)))).trans e1⟩
  ·obtain ⟨o',e1⟩:=I.base.there b o e hx
   exact ⟨o',(hs.2 b (Nat.ne_of_lt (Nat.lt_of_lt_of_le (Heap.lt_size e) (I.ok.cab x c hfn hc)))).trans e1⟩
  ·by_cases hj:j=i
   ·subst hj
    rw [hi] at e1;cases e1
    rw [List.getElem?_set_self hiσ] at e2
    cases e2
    exact ⟨u,r,.inr ⟨.inl hk,c,hc,hc'⟩⟩
   ·rw [List.getElem?_set_ne (Ne.symm hj)] at e2
    obtain ⟨u',r',q⟩:=hl j y v' e1 e2 e3
    refine ⟨u',r',?_⟩
    rcases q with q | ⟨k,c',e,z'⟩
    ·exact .inl q
    ·refine .inr ⟨k,c',e,z'.sameBut hs ?_⟩
     rintro rfl
     exact hj (zpi hN e1 (I.ok.inj _ _ _ e hc ▸ hi))
  ·by_cases hcc:c'=c
   ·subst hcc;exact ⟨_,hc'⟩
   ·obtain ⟨w2,z2⟩:=I.cell y c' e
    exact ⟨w2,z2.sameBut hs hcc⟩
  ·obtain ⟨e,n,ne,nf,d⟩:=I.pin p hp
   refine ⟨(hs.2 p.1 ?_).trans e,n,ne,nf,d⟩
   intro q
   rw [q,hoc] at e
   have q':oc=p.2:=Option.some.inj e
   exact d w' (by rw [← q'];exact hocd)
theorem zri {M:Model} {A:Around} {E:Value→Shared→Prop} {i:Nat} {x:Str} {v:V} {u:Value} {Q:Unit→Shared→Prop} (I:Inv X pins σ H s) (hN:X.N.Nodup) (hi:X.N[i]? = some x) (hx:Loc X.env.scope x) (r:RelV v u)
  (h:∀ s',Inv X pins (σ.set i (some v)) H s'→Q () s') (hf:X.fn x=true ∨ X.env.scope.names.lookup x=some .local:=by first | exact .inl rfl | exact .inr rfl | assumption):wpAny M A (storeName X.env x u) Q E s :=
 zog I hN hi hx r (λ s' I' _=>h s' I') hf
theorem Inv.call' {s':Shared} {ch:List Addr} (I:Inv X pins σ H s) (ho:s'.os=s.os) (u:Un (frs X.stack) ch H H' s.heap s'.heap) (hok:HOk X.prog X.w H' s'.heap) (hg:AllBare s'.gens)
  (hch:∀ b∈ch,(b∈X.ex ∨ X.s₀.heap.objs.size≤b)∧b≠X.env.locals∧(∀ x c,X.env.cells.lookup x=some c→c≠b)∧∀ p∈X.pn++pins,p.1≠b):Inv X pins σ H' s':=by
 obtain ⟨h',g',d',t',o'⟩:=s'
 have e:o'=s.os:=ho
 subst e
 exact I.call (g':=g') (t':=t') (d':=d') u hok hg hch
end
noncomputable abbrev XK:=Value→Option Addr→Hp→Prop
noncomputable abbrev St:=List (Option V)
noncomputable abbrev VK:=V→Hp→Prop
noncomputable abbrev TE:=St→Hp→VK→Prop
noncomputable abbrev TT:=St→Hp→(Bool→Hp→Prop)→Prop
noncomputable abbrev TA:=St→Hp→(List V→Hp→Prop)→Prop
structure Ends where
 nx:St→Hp→Prop
 rt:VK
 bk:St→Hp→Prop:=λ _ _=>False
 ct:St→Hp→Prop:=λ _ _=>False
noncomputable abbrev TS:=Ends→St→Hp→Prop
noncomputable def EP (X:Cx) (pins:List (Addr×Obj)) (σ:St) (Q:VK) (u:Value) (s':Shared):Prop:=∃ v H',Inv X pins σ H' s'∧RelV v u∧Q v H'
noncomputable def TP (X:Cx) (pins:List (Addr×Obj)) (σ:St) (Q:Bool→Hp→Prop) (b:Bool) (s':Shared):Prop:=∃ H',Inv X pins σ H' s'∧Q b H'
noncomputable def AP (X:Cx) (pins:List (Addr×Obj)) (σ:St) (Q:List V→Hp→Prop) (us:List Value) (s':Shared):Prop:=∃ vs H',Inv X pins σ H' s'∧Vals vs us∧Q vs H'
noncomputable def SP (X:Cx) (pins:List (Addr×Obj)) (D:Ends) (f:Flow) (s':Shared):Prop :=
 match f with
 | .next=>∃ σ' H',Inv X pins σ' H' s'∧D.nx σ' H'
 | .brk=>∃ σ' H',Inv X pins σ' H' s'∧D.bk σ' H'
 | .cont=>∃ σ' H',Inv X pins σ' H' s'∧D.ct σ' H'
 | .ret u=>∃ v σ' H',Inv X pins σ' H' s'∧RelV v u∧D.rt v H'
structure PE (X:Cx) (e:Expr) (t:TE):Prop where
 run :
 ∀ (pins:List (Addr×Obj)) (s:Shared) (σ:St) (H:Hp) (Q:VK),Inv X pins σ H s→t σ H Q→wpAny (model X.prog X.w) X.A (eval e X.env) (EP X pins σ Q) X.xe s
noncomputable instance {X:Cx} {e:Expr} {t:TE}:CoeFun (PE X e t) (λ _ =>
 ∀ (pins:List (Addr×Obj)) (s:Shared) (σ:St) (H:Hp) (Q:VK),Inv X pins σ H s→t σ H Q→wpAny (model X.prog X.w) X.A (eval e X.env) (EP X pins σ Q) X.xe s
 ):=⟨λ h=>h.run⟩
structure PT (X:Cx) (e:Expr) (t:TT):Prop where
 run :
 ∀ (pins:List (Addr×Obj)) (s:Shared) (σ:St) (H:Hp) (Q:Bool→Hp→Prop),Inv X pins σ H s→t σ H Q→wpAny (model X.prog X.w) X.A (isTrue e X.env (eval e X.env)) (TP X pins σ Q) X.xe s
noncomputable instance {X:Cx} {e:Expr} {t:TT}:CoeFun (PT X e t) (λ _ =>
 ∀ (pins:List (Addr×Obj)) (s:Shared) (σ:St) (H:Hp) (Q:Bool→Hp→Prop),Inv X pins σ H s→t σ H Q→wpAny (model X.prog X.w) X.A (isTrue e X.env (eval e X.env)) (TP X pins σ Q) X.xe s
 ):=⟨λ h=>h.run⟩
structure PW (X:Cx) (e:Expr) (t:TT):Prop where
 run :
 ∀ (whole:Sem Value) (pins:List (Addr×Obj)) (s:Shared) (σ:St) (H:Hp) (Q:Bool→Hp→Prop),Inv X pins σ H s→t σ H Q→wpAny (model X.prog X.w) X.A (isTrue e X.env whole) (TP X pins σ Q) X.xe s
noncomputable instance {X:Cx} {e:Expr} {t:TT}:CoeFun (PW X e t) (λ _ =>
 ∀ (whole:Sem Value) (pins:List (Addr×Obj)) (s:Shared) (σ:St) (H:Hp) (Q:Bool→Hp→Prop),Inv X pins σ H s→t σ H Q→wpAny (model X.prog X.w) X.A (isTrue e X.env whole) (TP X pins σ Q) X.xe s
 ):=⟨λ h=>h.run⟩
theorem PW.pt {X:Cx} {e:Expr} {t:TT} (h:PW X e t):PT X e t := .mk (h _)
structure PA (X:Cx) (es:List Expr) (t:TA):Prop where
 run :
 ∀ (pos:Pos) (pins:List (Addr×Obj)) (s:Shared) (σ:St) (H:Hp) (Q:List V→Hp→Prop),Inv X pins σ H s→t σ H Q→wpAny (model X.prog X.w) X.A (spliced (backTo pos (starEach es X.env))) (AP X pins σ Q) X.xe s
noncomputable instance {X:Cx} {es:List Expr} {t:TA}:CoeFun (PA X es t) (λ _ =>
 ∀ (pos:Pos) (pins:List (Addr×Obj)) (s:Shared) (σ:St) (H:Hp) (Q:List V→Hp→Prop),Inv X pins σ H s→t σ H Q→wpAny (model X.prog X.w) X.A (spliced (backTo pos (starEach es X.env))) (AP X pins σ Q) X.xe s
 ):=⟨λ h=>h.run⟩
structure PS (X:Cx) (st:Stmt) (t:TS):Prop where
 run :
 ∀ (pins:List (Addr×Obj)) (s:Shared) (σ:St) (H:Hp) (D:Ends),Inv X pins σ H s→t D σ H→wpAny (model X.prog X.w) X.A (exec st X.env) (SP X pins D) X.xe s
noncomputable instance {X:Cx} {st:Stmt} {t:TS}:CoeFun (PS X st t) (λ _ =>
 ∀ (pins:List (Addr×Obj)) (s:Shared) (σ:St) (H:Hp) (D:Ends),Inv X pins σ H s→t D σ H→wpAny (model X.prog X.w) X.A (exec st X.env) (SP X pins D) X.xe s
 ):=⟨λ h=>h.run⟩
structure PSs (X:Cx) (st:List Stmt) (t:TS):Prop where
 run :
 ∀ (pins:List (Addr×Obj)) (s:Shared) (σ:St) (H:Hp) (D:Ends),Inv X pins σ H s→t D σ H→wpAny (model X.prog X.w) X.A (execs st X.env) (SP X pins D) X.xe s
noncomputable instance {X:Cx} {st:List Stmt} {t:TS}:CoeFun (PSs X st t) (λ _ =>
 ∀ (pins:List (Addr×Obj)) (s:Shared) (σ:St) (H:Hp) (D:Ends),Inv X pins σ H s→t D σ H→wpAny (model X.prog X.w) X.A (execs st X.env) (SP X pins D) X.xe s
 ):=⟨λ h=>h.run⟩
theorem thn {α:Type} {t:Sem α} {Q Q':α→Shared→Prop} {M:Model} {A:Around} {E:Value→Shared→Prop} {s:Shared} (h:wpAny M A t Q E s) (hQ:∀ a s,Q a s→Q' a s):wpAny M A t Q' E s:=wpAny_mono h hQ λ _ _ x=>x
end L2
namespace L2
open PySem PySem.Spec PyProof.Rows
section
variable {X:Cx}
noncomputable def tVar (i:Nat):TE:=λ σ H Q=>∃ v,σ[i]? = some (some v)∧Q v H
noncomputable def tC (v:V):TE:=λ _ H Q=>Q v H
theorem zjz {i:Nat} {x:Str} {pos:Pos} (hN:X.N[i]? = some x) (hv:Vis X.env.scope x) (hd:(x == ("__debug__" : Str))=false:=by decide) (hcd:(x == ("__classdict__" : Str))=false:=by decide):PE X (.Name x pos) (tVar i) := .mk <| by
 intro pins s σ H Q I h
 obtain ⟨v,e,h⟩:=h
 obtain ⟨m,hn,hl⟩:=I.loc
 obtain ⟨u,r,l⟩:=hl i x v hN e hv
 have fin:EP X pins σ Q u s:=⟨v,H,I,r,h⟩
 rcases l with ⟨hk,hm⟩ | ⟨hk,c,hc,hcell⟩
 ·exact wpAny_Name (wpAny_loadName_local I.ok.kind hk hn hm fin) hd
 ·rcases hk with hk | hk
  ·exact wpAny_Name (wpAny_loadName_cell I.ok.kind hk hc hcell fin) hd
  ·exact wpAny_Name (wpAny_loadName_free I.ok.kind hk hc hcell fin hcd) hd
theorem zea {i j pos}:PE X (.Constant (.int i) j pos) (tC (.int i)) := .mk <| λ _ _ _ H _ I h=>wpAny_Constant_int ⟨.int i,H,I.tok _,⟨_,rfl⟩,h⟩
theorem zcv {b j pos}:PE X (.Constant (.bool b) j pos) (tC (.bl b)) := .mk <| λ _ _ _ H _ I h=>Constant_bool ⟨.bl b,H,I,rfl,h⟩
theorem zmm {j pos}:PE X (.Constant .none j pos) (tC .non) := .mk <| λ _ _ _ H _ I h=>Constant_none ⟨.non,H,I,rfl,h⟩
theorem zfg {x j pos}:PE X (.Constant (.str x) j pos) (tC (.str x)) := .mk <| λ _ _ _ H _ I h=>Calls.Constant_str ⟨.str x,H,I.tok _,⟨_,rfl⟩,h⟩
noncomputable def Gl (X:Cx) (x:Str):Prop:=X.env.kindOf x=some .globalImplicit
theorem zte {E:Value→Shared→Prop} {pins:List (Addr×Obj)} {s:Shared} {σ:St} {H:Hp} {x:Str} {u:Value} {pos:Pos} {Q:Value→Shared→Prop} (I:Inv X pins σ H s) (hg:Gl X x) (hm:X.mg x=some u) (h:Q u s)
  (hd:(x == ("__debug__" : Str))=false:=by decide):wpAny (model X.prog X.w) X.A (eval (.Name x pos) X.env) Q E s :=
 Calls.Name_function_global I.ok.kind hg (Calls.loadGlobal_global (by rw [I.ok.glob];exact I.mod.glob.keeps I.bk) hm h) hd
theorem zll {E:Value→Shared→Prop} {pins:List (Addr×Obj)} {s:Shared} {σ:St} {H:Hp} {x:Str} {u:Value} {pos:Pos} {Q:Value→Shared→Prop} (I:Inv X pins σ H s) (hg:Gl X x) (hm:X.mg x=none) (hv:bootBuiltins x=some u) (h:Q u s)
  (hn:x ≠ "__name__" := by decide) (hd:(x == ("__debug__" : Str))=false:=by decide):wpAny (model X.prog X.w) X.A (eval (.Name x pos) X.env) Q E s:=by
 obtain ⟨mb,h1,h2⟩:=I.mod.blt
 exact Calls.Name_function_global I.ok.kind hg (Calls.loadGlobal_builtin (by rw [I.ok.glob];exact I.mod.glob.keeps I.bk) hm (by rw [I.ok.blt];exact h1.keeps I.bk) ((h2 x hn).trans hv) h) hd
theorem zyj {x:Str} {v:V} {u:Value} {pos:Pos} (hg:Gl X x) (hm:X.mg x=some u) (r:RelV v u) (hd:(x == ("__debug__" : Str))=false:=by decide):PE X (.Name x pos) (tC v) := .mk <| λ _ _ _ H _ I h=>zte I hg hm ⟨v,H,I,r,h⟩ hd
theorem zct {x:Str} {v:V} {u:Value} {pos:Pos} (hg:Gl X x) (hm:X.mg x=none) (hv:bootBuiltins x=some u) (r:RelV v u) (hn:x ≠ "__name__" := by decide) (hd:(x == ("__debug__" : Str))=false:=by decide):PE X (.Name x pos) (tC v) := .mk <| λ _ _ _ H _ I h=>zll I hg hm hv ⟨v,H,I,r,h⟩ hn hd
variable {a b:Expr} {ta tb:TE} {pos:Pos}
noncomputable def tB (t:TE):TT:=λ σ H Q=>t σ H λ x H1=>∃ c,x = .bl c∧Q c H1
theorem ztq {e:Expr} {t:TE} (h:PE X e t) (he:∀ whole,isTrue e X.env whole=(do let v ← whole;standAt e.pos;holding [v] (truthy v)):=by intro _;rfl):PT X e (tB t) := .mk <| by
 intro pins s σ H Q I hw
 refine isTrue_plain (thn (h pins s σ H _ I hw) λ v s1 ⟨x,H1,I1,r1,q1⟩=>?_) (he _)
 obtain ⟨d,rfl,q⟩:=q1
 cases r1
 exact wpAny_truthy_bool ⟨H1,I1,q⟩
variable {tA tB':TT} {rest:List Expr}
noncomputable def tAnd (t u:TT):TT:=λ σ H Q=>t σ H λ c H1=>if c=true then u σ H1 Q else Q false H1
noncomputable def tOr (t u:TT):TT:=λ σ H Q=>t σ H λ c H1=>if c=true then Q true H1 else u σ H1 Q
noncomputable def tNot (t:TT):TT:=λ σ H Q=>t σ H λ c H1=>Q (!c) H1
theorem zhs (ha:PT X a tA):PW X (.BoolOp .And [a] pos) tA := .mk <| by
 intro wh pins s σ H Q I h
 refine isTrue_and (thn (ha pins s σ H Q I h) λ c s1 e=>?_)
 cases c with
 | true=>exact isTrue_and_nil e
 | false=>exact e
theorem zfw (ha:PT X a tA):PW X (.BoolOp .Or [a] pos) tA := .mk <| by
 intro wh pins s σ H Q I h
 refine isTrue_or (thn (ha pins s σ H Q I h) λ c s1 e=>?_)
 cases c with
 | false=>exact isTrue_or_nil e
 | true=>exact e
theorem zgw (ha:PT X a tA) (hb:PW X (.BoolOp .And (b::rest) pos) tB'):PW X (.BoolOp .And (a::b::rest) pos) (tAnd tA tB') := .mk <| by
 intro wh pins s σ H Q I h
 refine isTrue_and (thn (ha pins s σ H _ I h) λ c s1 ⟨H1,I1,q1⟩=>?_)
 cases c with
 | true=>exact hb wh pins s1 σ H1 Q I1 q1
 | false=>exact ⟨H1,I1,q1⟩
theorem zfz (ha:PT X a tA) (hb:PW X (.BoolOp .Or (b::rest) pos) tB'):PW X (.BoolOp .Or (a::b::rest) pos) (tOr tA tB') := .mk <| by
 intro wh pins s σ H Q I h
 refine isTrue_or (thn (ha pins s σ H _ I h) λ c s1 ⟨H1,I1,q1⟩=>?_)
 cases c with
 | true=>exact ⟨H1,I1,q1⟩
 | false=>exact hb wh pins s1 σ H1 Q I1 q1
theorem zeu (ha:PT X a tA):PT X (.UnaryOp .Not a pos) (tNot tA) := .mk <| by
 intro pins s σ H Q I h
 exact isTrue_not (ha pins s σ H (λ c H1=>Q (!c) H1) I h)
noncomputable def zi4 (ta tb:TE):TE:=λ σ H Q=>ta σ H λ x H1=>∃ c,x = .bl c∧if c=true then tb σ H1 Q else Q (.bl false) H1
noncomputable def tOrV (ta tb:TE):TE:=λ σ H Q=>ta σ H λ x H1=>∃ c,x = .bl c∧if c=true then Q (.bl true) H1 else tb σ H1 Q
noncomputable def zo3 (ta:TE):TE:=λ σ H Q=>ta σ H λ x H1=>∃ c,x = .bl c∧Q (.bl (!c)) H1
theorem zwy {op} {t:TE} (h:PE X a t):PE X (.BoolOp op [a] pos) t := .mk <| λ pins s σ H Q I hw=>BoolOp_one (h pins s σ H Q I hw)
theorem zl1 (ha:PE X a ta) (hb:PE X (.BoolOp .And (b::rest) pos) tb):PE X (.BoolOp .And (a::b::rest) pos) (zi4 ta tb) := .mk <| by
 intro pins s σ H Q I h
 refine BoolOp_and (thn (ha pins s σ H _ I h) λ v s1 ⟨x,H1,I1,r1,q1⟩=>?_)
 obtain ⟨c,rfl,q1⟩:=q1
 cases r1
 refine wpAny_truthy_bool ?_
 cases c with
 | true=>exact hb pins s1 σ H1 Q I1 q1
 | false=>exact ⟨.bl false,H1,I1,rfl,q1⟩
theorem zk3 (ha:PE X a ta) (hb:PE X (.BoolOp .Or (b::rest) pos) tb):PE X (.BoolOp .Or (a::b::rest) pos) (tOrV ta tb) := .mk <| by
 intro pins s σ H Q I h
 refine BoolOp_or (thn (ha pins s σ H _ I h) λ v s1 ⟨x,H1,I1,r1,q1⟩=>?_)
 obtain ⟨c,rfl,q1⟩:=q1
 cases r1
 refine wpAny_truthy_bool ?_
 cases c with
 | false=>exact hb pins s1 σ H1 Q I1 q1
 | true=>exact ⟨.bl true,H1,I1,rfl,q1⟩
theorem zv1 (ha:PE X a ta):PE X (.UnaryOp .Not a pos) (zo3 ta) := .mk <| by
 intro pins s σ H Q I h
 refine UnaryOp_ (thn (ha pins s σ H _ I h) λ v s1 ⟨x,H1,I1,r1,q1⟩=>?_)
 obtain ⟨c,rfl,q1⟩:=q1
 cases r1
 exact not_of (wpAny_truthy_bool ⟨.bl (!c),H1,I1,rfl,q1⟩)
end
end L2
namespace L2
open PySem PySem.Spec PyProof.Rows
noncomputable def SqL (K:W.Frag) (H:Hp) (a:Addr) (xs:List V):Prop :=
 Rd H a (.lst xs) ∨
  ∃ (o:Obj) (its:Array Value) (n:Nat),K.lookup a=some o∧o.cls = .type "list" ∧ o.dict=none∧o.data = .seq its n∧its.size≤sizeLine∧Vals xs its.toList
noncomputable def SqT (K:W.Frag) (H:Hp) (a:Addr) (xs:List V):Prop :=
 Rd H a (.tup xs) ∨
  ∃ (o:Obj) (its:Array Value) (n:Nat),K.lookup a=some o∧o.cls = .type "tuple" ∧ o.data = .seq its n∧its.size≤sizeLine∧Vals xs its.toList
noncomputable def absV:Value→Option V
 | .none=>some .non
 | .bool b=>some (.bl b)
 | .int i _=>some (.int i)
 | .str x _=>some (.str x)
 | .bytes b _=>some (.byt b)
 | .float b _=>some (.flt b)
 | .ref a=>some (.ref a)
 | .type n=>some (.ty n)
 | _=>none
theorem RelV.abs {x:V} {u:Value} (r:RelV x u):absV u=some x:=by
 cases x with
 | non=>cases r;rfl
 | bl _=>cases r;rfl
 | int _=>obtain ⟨t,rfl⟩:=r;rfl
 | str _=>obtain ⟨t,rfl⟩:=r;rfl
 | byt _=>obtain ⟨t,rfl⟩:=r;rfl
 | flt _=>obtain ⟨t,rfl⟩:=r;rfl
 | ref _=>cases r;rfl
 | ty _=>cases r;rfl
theorem RelV.inj {x y:V} {u:Value} (r:RelV x u) (q:RelV y u):x=y:=Option.some.inj (r.abs.symm.trans q.abs)
theorem Vals.inj:∀ {xs ys:List V} {us:List Value},Vals xs us→Vals ys us→xs=ys
 | _,_,_,.nil,.nil=>rfl
 | _,_,_,.cons r t,.cons r' t'=>by rw [r.inj r',Vals.inj t t']
section
variable {X:Cx} {pins:List (Addr×Obj)} {σ:St} {H:Hp} {s:Shared} {a:Addr} {xs ys:List V}
theorem SqL.of {K:W.Frag} (h:H a=some (.lst xs)):SqL K H a xs := .inl (.inl h)
theorem SqT.of {K:W.Frag} (h:H a=some (.tup xs)):SqT K H a xs := .inl (.inl h)
theorem Inv.list (I:Inv X pins σ H s) (h:SqL X.K H a xs):∃ its:List Value,Vals xs its∧PlainL s.heap a its.toArray∧xs.length≤sizeLine:=by
 rcases h with h | ⟨o,its,n,hk,hc,hd,hs,hz,r⟩
 ·obtain ⟨z,its,n,r,e⟩:=h.ok I.hok
  exact ⟨its,r,⟨_,n,e,rfl,rfl,rfl⟩,z⟩
 ·refine ⟨its.toList,r,⟨o,n,I.kIn a o hk,hc,hd,by simpa using hs⟩,?_⟩
  have e:=r.length
  simp only [Array.length_toList] at e
  omega
theorem Inv.tuple (I:Inv X pins σ H s) (h:SqT X.K H a xs):∃ its:List Value,Vals xs its∧IsTup s.heap a its.toArray∧xs.length≤sizeLine:=by
 rcases h with h | ⟨o,its,n,hk,hc,hs,hz,r⟩
 ·obtain ⟨z,its,r,p⟩:=h.ok I.hok
  exact ⟨its,r,p,z⟩
 ·refine ⟨its.toList,r,⟨o,I.kIn a o hk,hc,n,by simpa using hs⟩,?_⟩
  have e:=r.length
  simp only [Array.length_toList] at e
  omega
theorem Inv.list_inj (I:Inv X pins σ H s) (h:SqL X.K H a xs) (h':SqL X.K H a ys):xs=ys:=by
 obtain ⟨its,r,⟨o,n,e,_,_,d⟩,_⟩:=I.list h
 obtain ⟨its',r',⟨o',n',e',_,_,d'⟩,_⟩:=I.list h'
 rw [e] at e';cases e'
 rw [d] at d'
 injection d' with d1 _
 have:its=its':=by simpa using congrArg Array.toList d1
 subst this
 exact r.inj r'
end
noncomputable abbrev Cx.wish (X:Cx) (E:Value→Shared→Prop):Cx:={ X with xe:=E }
noncomputable abbrev Cx.nox (X:Cx):Cx:=X.wish λ _ _=>False
theorem Cx.Ok.wish {X:Cx} (ok:X.Ok) (E:Value→Shared→Prop):(X.wish E).Ok :=
 ⟨ok.mod,ok.kind,ok.glob,ok.blt,ok.above,ok.inj,ok.has,ok.cab,ok.hd,ok.frames,ok.stk,ok.exf,ok.bs,ok.bsz,ok.noex,ok.exfs,ok.funs,ok.frf⟩
theorem Cx.Ok.unwish {X:Cx} {E:Value→Shared→Prop} (ok:(X.wish E).Ok):X.Ok :=
 ⟨ok.mod,ok.kind,ok.glob,ok.blt,ok.above,ok.inj,ok.has,ok.cab,ok.hd,ok.frames,ok.stk,ok.exf,ok.bs,ok.bsz,ok.noex,ok.exfs,ok.funs,ok.frf⟩
section
variable {X:Cx} {pins:List (Addr×Obj)} {σ:St} {H:Hp} {s:Shared} {E:Value→Shared→Prop}
theorem Inv.wish (I:Inv X pins σ H s) (E:Value→Shared→Prop):Inv (X.wish E) pins σ H s:=⟨I.ok.wish E,I.os,I.bare,I.base,I.loc,I.cell,I.free,I.freeC,I.pin,I.hok,I.len⟩
theorem Inv.unwish (I:Inv (X.wish E) pins σ H s):Inv X pins σ H s:=⟨I.ok.unwish,I.os,I.bare,I.base,I.loc,I.cell,I.free,I.freeC,I.pin,I.hok,I.len⟩
theorem SP.unwish {D:Ends} {f:Flow} {s':Shared} (h:SP (X.wish E) pins D f s'):SP X pins D f s':=by
 cases f with
 | next=>obtain ⟨σ',H',I,q⟩:=h;exact ⟨σ',H',I.unwish,q⟩
 | brk=>obtain ⟨σ',H',I,q⟩:=h;exact ⟨σ',H',I.unwish,q⟩
 | cont=>obtain ⟨σ',H',I,q⟩:=h;exact ⟨σ',H',I.unwish,q⟩
 | ret u=>obtain ⟨v,σ',H',I,r,q⟩:=h;exact ⟨v,σ',H',I.unwish,r,q⟩
theorem PSs.nox {st:List Stmt} {t:TS} (h:PSs X.nox st t):PSs X st t := .mk <| λ pins s σ H D I hw =>
 wpAny_mono (h pins s σ H D (I.wish _) hw) (λ _ _ q=>q.unwish) λ _ _ z=>False.elim z
end
section
variable {X:Cx} {st:Stmt} {rest:List Stmt} {t u:TS} {e:Expr} {te:TE} {pos:Pos}
noncomputable def zl4:TS:=λ D σ H=>D.nx σ H
noncomputable def tSeq (t u:TS):TS:=λ D σ H=>t { D with nx:=u D } σ H
theorem zdb:PSs X [] zl4 := .mk <| λ _ _ σ H _ I h=>wpAny_execs_nil ⟨σ,H,I,h⟩
theorem zda (h1:PS X st t) (h2:PSs X rest u):PSs X (st::rest) (tSeq t u) := .mk <| by
 intro pins s σ H D I h
 refine wpAny_execs_cons (thn (h1 pins s σ H { D with nx:=u D } I h) λ f s1 q=>?_)
 cases f with
 | next =>
  obtain ⟨σ',H',I',q⟩:=q
  exact h2 pins s1 σ' H' D I' q
 | ret v=>exact q
 | brk=>exact q
 | cont=>exact q
theorem zha (h1:PS X st t):PSs X [st] t := .mk <| by
 intro pins s σ H D I h
 refine wpAny_execs_cons (thn (h1 pins s σ H D I h) λ f s1 q=>?_)
 cases f with
 | next=>exact wpAny_execs_nil q
 | ret v=>exact q
 | brk=>exact q
 | cont=>exact q
theorem Inv.quiet {pins:List (Addr×Obj)} {σ:St} {H:Hp} {s:Shared} (I:Inv X pins σ H s):interactive X.env=false:=by simp [interactive,I.ok.kind]
noncomputable def ze4 (te:TE):TS:=λ D σ H=>te σ H λ _ H1=>D.nx σ H1
theorem zzd (he:PE X e te) (hs:swapsWith e none pos.line X.env=pure false:=by rfl):PS X (.Expr e pos) (ze4 te) := .mk <| by
 intro pins s σ H D I h
 exact wpAny_Expr_any (thn (he pins s σ H _ I h) λ v s1 ⟨x,H1,I1,r1,q1⟩=>⟨σ,H1,I1,q1⟩) I.quiet hs
noncomputable def tRet (te:TE):TS:=λ D σ H=>te σ H D.rt
theorem zeb (he:PE X e te):PS X (.Return (some e) pos) (tRet te) := .mk <| by
 intro pins s σ H D I h
 exact wpAny_Return_some (thn (he pins s σ H _ I h) λ v s1 ⟨x,H1,I1,r1,q1⟩=>⟨x,σ,H1,I1,r1,q1⟩)
noncomputable def tIfS (c:TT) (t u:TS):TS:=λ D σ H=>c σ H λ b H1=>if b=true then t D σ H1 else u D σ H1
theorem zkg {c:Expr} {a b:List Stmt} {tc:TT} (hc:PT X c tc) (ha:PSs X a t) (hb:PSs X b u):PS X (.If c a b pos) (tIfS tc t u) := .mk <| by
 intro pins s σ H D I h
 refine wpAny_If (thn (hc pins s σ H _ I h) λ d s1 ⟨H1,I1,q1⟩=>?_)
 cases d with
 | true=>exact ha pins s1 σ H1 D I1 q1
 | false=>exact hb pins s1 σ H1 D I1 q1
end
noncomputable abbrev TG:=V→St→Hp→(St→Hp→Prop)→Prop
noncomputable abbrev TGs:=List V→St→Hp→(St→Hp→Prop)→Prop
structure PG (X:Cx) (target:Expr) (t:TG):Prop where
 run :
 ∀ (pins:List (Addr×Obj)) (s:Shared) (σ:St) (H:Hp) (v:V) (u:Value) (Q:St→Hp→Prop),Inv X pins σ H s→RelV v u→t v σ H Q →
  wpAny (model X.prog X.w) X.A (assign target X.env u) (λ _ s'=>∃ σ' H',Inv X pins σ' H' s'∧Q σ' H') X.xe s
noncomputable instance {X:Cx} {target:Expr} {t:TG}:CoeFun (PG X target t) (λ _ =>
 ∀ (pins:List (Addr×Obj)) (s:Shared) (σ:St) (H:Hp) (v:V) (u:Value) (Q:St→Hp→Prop),Inv X pins σ H s→RelV v u→t v σ H Q →
  wpAny (model X.prog X.w) X.A (assign target X.env u) (λ _ s'=>∃ σ' H',Inv X pins σ' H' s'∧Q σ' H') X.xe s
 ):=⟨λ h=>h.run⟩
structure PGs (X:Cx) (ts:List Expr) (t:TGs):Prop where
 run :
 ∀ (pins:List (Addr×Obj)) (s:Shared) (σ:St) (H:Hp) (vs:List V) (us:List Value) (Q:St→Hp→Prop),Inv X pins σ H s→Vals vs us→t vs σ H Q →
  wpAny (model X.prog X.w) X.A (assignInOrder ((assignEach ts X.env).map (·.2)) us) (λ _ s'=>∃ σ' H',Inv X pins σ' H' s'∧Q σ' H') X.xe s
noncomputable instance {X:Cx} {ts:List Expr} {t:TGs}:CoeFun (PGs X ts t) (λ _ =>
 ∀ (pins:List (Addr×Obj)) (s:Shared) (σ:St) (H:Hp) (vs:List V) (us:List Value) (Q:St→Hp→Prop),Inv X pins σ H s→Vals vs us→t vs σ H Q →
  wpAny (model X.prog X.w) X.A (assignInOrder ((assignEach ts X.env).map (·.2)) us) (λ _ s'=>∃ σ' H',Inv X pins σ' H' s'∧Q σ' H') X.xe s
 ):=⟨λ h=>h.run⟩
section
variable {X:Cx} {pos:Pos}
noncomputable def zfk (i:Nat):TG:=λ v σ H Q=>Q (σ.set i (some v)) H
theorem zja {i:Nat} {x:Str} (hN:X.N.Nodup) (hi:X.N[i]? = some x) (hx:Loc X.env.scope x) (hf:X.fn x=true ∨ X.env.scope.names.lookup x=some .local:=by first | exact .inl rfl | exact .inr rfl | assumption):PG X (.Name x pos) (zfk i) := .mk <| by
 intro pins s σ H v u Q I r h
 exact wpAny_assign_Name (zri I hN hi hx r (λ s' I'=>⟨_,H,I',h⟩) hf)
noncomputable def gNil:TGs:=λ vs σ H Q=>vs=[]∧Q σ H
noncomputable def zep (t:TG) (u:TGs):TGs:=λ vs σ H Q=>∃ v r,vs=v::r∧t v σ H λ σ' H'=>u r σ' H' Q
theorem zhb:PGs X [] gNil := .mk <| by
 intro pins s σ H vs us Q I r h
 obtain ⟨e,h⟩:=h
 subst e
 cases r
 exact assignInOrder_nil ⟨σ,H,I,h⟩
theorem zia {e:Expr} {es:List Expr} {t:TG} {u:TGs} (h1:PG X e t) (h2:PGs X es u)
  (hs:(assignEach (e::es) X.env).map (·.2)=assign e X.env::(assignEach es X.env).map (·.2):=by rfl):PGs X (e::es) (zep t u) := .mk <| by
 intro pins s σ H vs us Q I r h
 obtain ⟨v,vr,e1,h⟩:=h
 subst e1
 cases r with
 | cons r rr =>
  rw [hs]
  refine assignInOrder_cons (thn (h1 pins s σ H _ _ _ I r h) λ _ s1 ⟨σ1,H1,I1,q1⟩=>?_)
  exact h2 pins s1 σ1 H1 _ _ Q I1 rr q1
noncomputable def gTup (K:W.Frag) (n:Nat) (t:TGs):TG:=λ v σ H Q=>∃ a xs,v = .ref a∧SqT K H a xs∧xs.length=n∧t xs σ H Q
theorem zkc {es:List Expr} {k:Nat} {t:TGs} {n:Nat} (hc:X.calm=true) (h:PGs X es t)
  (hn:(assignEach es X.env).length=n:=by rfl) (hst:(assignEach es X.env).findIdx? (·.1)=none:=by rfl):PG X (.Tuple es k pos) (gTup X.K n t) := .mk <| by
 intro pins s σ H v u Q I r hw
 obtain ⟨a,xs,e1,hq,hl,hw⟩:=hw
 subst e1
 cases r
 obtain ⟨its,rv,ht,hz⟩:=I.tuple hq
 refine assign_Tuple_tuple (I.ok.hd hc) ht (by simp [hn,← hl,rv.length]) hst λ h' hx=>?_
 have I1:Inv X pins σ H { s with heap:=h' }:=I.kept (t':=s.toks) λ b o e=>hx b o (Nat.ne_of_lt (Heap.lt_size e)) e
 exact h pins _ σ H xs _ Q I1 (by simpa using rv) hw
noncomputable def tAsg (te:TE) (g:TG):TS:=λ D σ H=>te σ H λ x H1=>g x σ H1 D.nx
theorem zxw {tg e:Expr} {te:TE} {g:TG} (he:PE X e te) (hg:PG X tg g) (hs:swapsWithSole [tg] e pos.line X.env=pure false:=by rfl) (hw:swappedStores [tg] e X.env=pure none:=by rfl)
  (h1:(assignEach [tg] X.env).map (·.2)=[assign tg X.env]:=by rfl):PS X (.Assign [tg] e pos) (tAsg te g) := .mk <| by
 intro pins s σ H D I h
 refine wpAny_Assign_stores (thn (he pins s σ H _ I h) λ v s1 ⟨x,H1,I1,r1,q1⟩=>?_) hs hw
 rw [h1]
 exact thn (hg pins s1 σ H1 x v _ I1 r1 q1) λ _ s2 q=>q
theorem zpa {i:Nat} {x:Str} {e:Expr} {te:TE} {pos':Pos} (hN:X.N.Nodup) (hi:X.N[i]? = some x) (hx:Loc X.env.scope x) (he:PE X e te) (hs:swapsWith e (some (.Name x pos')) pos.line X.env=pure false:=by rfl) (hf:X.fn x=true ∨ X.env.scope.names.lookup x=some .local:=by first | exact .inl rfl | exact .inr rfl | assumption) :
  PS X (.Assign [.Name x pos'] e pos) (tAsg te (zfk i)) := .mk <| by
 intro pins s σ H D I h
 refine wpAny_Assign_Name (thn (he pins s σ H _ I h) λ v s1 ⟨y,H1,I1,r1,q1⟩=>?_) hs
 exact zri I1 hN hi hx r1 (λ s2 I2=>⟨_,H1,I2,q1⟩) hf
end
section
variable {X:Cx} {pos:Pos}
end
structure It where
 go:Nat→Hp→Prop
 yld:Nat→Hp→V→Hp→Prop
 stop:Nat→Hp→Prop
noncomputable def FpOk (X:Cx) (pins:List (Addr×Obj)) (H:Hp) (b:Addr):Prop :=
 H b=none∧b≠X.env.locals∧b∉X.fs∧(b∈X.ex ∨ X.s₀.heap.objs.size≤b)∧(∀ x c,X.env.cells.lookup x=some c→c≠b)∧∀ p∈X.pn++pins,p.1≠b
theorem Inv.fpOk {X:Cx} {pins:List (Addr×Obj)} {σ:St} {H H':Hp} {s:Shared} {b:Addr} (I:Inv X pins σ H s) (hb:s.heap.objs.size≤b) (hn:H' b=none):FpOk X pins H' b:=by
 refine ⟨hn,Nat.ne_of_gt (Nat.lt_of_lt_of_le I.lt hb),I.nofs hb,.inr (Nat.le_trans I.sz hb),λ x c e z=>?_,λ p hp z=>?_⟩
 ·obtain ⟨v,q⟩:=I.cell x c e
  exact absurd (Nat.lt_of_lt_of_le q.lt (by rw [z];exact hb)) (Nat.lt_irrefl _)
 ·exact absurd (Nat.lt_of_lt_of_le (Heap.lt_size (I.pin p hp).1) (by rw [z];exact hb)) (Nat.lt_irrefl _)
structure Turn (P:Program) (w:World) (K:W.Frag) (tg:Expr) (J:It) (fp:List Addr) (it:Addr) (tn:Nat→Heap→Prop):Prop where
 mem:it∈fp
 obj:∀ i h,tn i h→∀ b∈fp,∃ o,h.get? b=some o∧∀ v,o.data ≠ .cell v
 keep:∀ i h h',tn i h→(∀ b∈fp,∀ o,h.get? b=some o→h'.get? b=some o)→tn i h'
 item:∀ (X:Cx),X.prog=P→X.w=w→X.K=K→X.calm=true→∀ (i:Nat) (pins:List (Addr×Obj)) (s:Shared) (σ:St) (H:Hp) (E:Value→Shared→Prop),Inv X pins σ H s→(∀ b∈fp,FpOk X pins H b)→tn i s.heap→J.go i H →
  wpAny (model P w) X.A (pyNext (.ref it)) (λ r s1=>∃ u,r=some u ∧
   wpAny (model P w) X.A (letOwnedTupleGo tg (.ref it) u) (λ _ s2=>∃ x H',Inv X pins σ H' s2∧RelV x u∧J.yld i H x H'∧tn (i+1) s2.heap∧∀ b∈fp,H' b=none) E s1) E s
 done:∀ (X:Cx),X.prog=P→X.w=w→X.K=K→X.calm=true→∀ (i:Nat) (pins:List (Addr×Obj)) (s:Shared) (σ:St) (H:Hp) (E:Value→Shared→Prop),Inv X pins σ H s→(∀ b∈fp,FpOk X pins H b)→tn i s.heap→J.stop i H →
  wpAny (model P w) X.A (pyNext (.ref it)) (λ r s1=>r=none∧Inv X pins σ H s1) E s
 self:∀ (A:Around) (i:Nat) (s:Shared) (Q:Value→Shared→Prop) (E:Value→Shared→Prop),tn i s.heap→Q (.ref it) s→wpAny (model P w) A (pyIter (.ref it)) Q E s
noncomputable abbrev TI:=St→Hp→(It→Hp→Prop)→Prop
noncomputable def PIE (X:Cx) (pins:List (Addr×Obj)) (σ:St) (tg:Expr) (R:It→Hp→Prop) (itv:Value) (s2:Shared):Prop :=
 ∃ (it:Addr) (fp:List Addr) (tn:Nat→Heap→Prop) (J:It) (H':Hp),itv = .ref it∧Inv X pins σ H' s2∧Turn X.prog X.w X.K tg J fp it tn∧tn 0 s2.heap∧(∀ b∈fp,FpOk X pins H' b)∧R J H'
structure PI (X:Cx) (tg iter:Expr) (wi:TI):Prop where
 run :
 ∀ (pins:List (Addr×Obj)) (s:Shared) (σ:St) (H:Hp) (R:It→Hp→Prop),Inv X pins σ H s→wi σ H R →
  wpAny (model X.prog X.w) X.A (eval iter X.env) (λ v s1=>wpAny (model X.prog X.w) X.A (pyIter v) (PIE X pins σ tg R) X.xe s1) X.xe s
noncomputable instance {X:Cx} {tg iter:Expr} {wi:TI}:CoeFun (PI X tg iter wi) (λ _ =>
 ∀ (pins:List (Addr×Obj)) (s:Shared) (σ:St) (H:Hp) (R:It→Hp→Prop),Inv X pins σ H s→wi σ H R →
  wpAny (model X.prog X.w) X.A (eval iter X.env) (λ v s1=>wpAny (model X.prog X.w) X.A (pyIter v) (PIE X pins σ tg R) X.xe s1) X.xe s
 ):=⟨λ h=>h.run⟩
theorem zvz {M:Model} {A:Around} {E:Value→Shared→Prop} {s:Shared} {tg:Expr} {it:Addr} {u:Value} {o:Obj} {n:String} {vs:Array Value} {Q:Unit→Shared→Prop} (ho:s.heap.get? it=some o) (hc:o.cls = .type n) (hd:o.data = .fields vs)
  (hn:["enumerate", "zip", "dict_itemiterator", "dict_reverseitemiterator", "odict_iterator", "itertools.zip_longest", "itertools.pairwise"].contains n=false) (hQ:Q () s):wpAny M A (letOwnedTupleGo tg (.ref it) u) Q E s:=by
 unfold letOwnedTupleGo
 cases tg <;> first
  | exact wpAny_pure hQ
  | (cases u <;> first
    | exact wpAny_pure hQ
    | (refine wpAny_bind (wpAny_load ho ?_)
       rw [hc,hd]
       show wpAny M A (if (["enumerate", "zip", "dict_itemiterator", "dict_reverseitemiterator", "odict_iterator", "itertools.zip_longest", "itertools.pairwise"].contains n && vs[0]? == some (rawInt _))=true then _ else _) Q E s
       rw [if_neg (by intro h;rw [hn,Bool.false_and] at h;cases h)]
       exact wpAny_pure hQ))
noncomputable def Itl (K:W.Frag) (a:Addr):It :=
 ⟨λ i H=>∃ xs x,SqL K H a xs∧xs[i]? = some x,λ i H x H'=>H'=H∧∀ xs,SqL K H a xs→xs[i]? = some x,λ i H=>∃ xs,SqL K H a xs∧xs.length≤i⟩
noncomputable def Itr (lo:Int) (n:Nat):It:=⟨λ i _=>i<n,λ i H x H'=>H'=H∧x = .int (lo+i),λ i _=>n≤i⟩
theorem ziq {P:Program} {w:World} {K:W.Frag} {tg:Expr} (a it:Addr):Turn P w K tg (Itl K a) [it] it (λ i h=>h.IsListIter it a i) where
 mem:=by simp
 obj:=λ i h st b hb=>by
  have e:b=it:=by simpa using hb
  subst e
  obtain ⟨o,e,c,d⟩:=st
  exact ⟨o,e,λ v z=>by rw [d] at z;cases z⟩
 keep:=λ i h h' st k=>st.at λ o e=>k it (by simp) o e
 item:=by
  intro X hP hw hK hc i pins s σ H E I hf st hg
  subst hP hw hK
  obtain ⟨xs,x,hq,hx⟩:=hg
  obtain ⟨its,rv,p,hz⟩:=I.list hq
  obtain ⟨u,hu,ru⟩:=rv.get hx
  obtain ⟨f0,f1,f2,f3,f4,f5⟩:=hf it (by simp)
  refine wpAny_pyNext_list_item st p.isList (x:=u) (by simpa using hu) λ h' st' sb=>?_
  have I1:Inv X pins σ H { s with heap:=h' }:=I.turned (t':=s.toks) (λ b o hb e=>(sb.2 b hb).trans e) f0 f1 f3 f4 f5
  obtain ⟨o,e,c,d⟩:=id st'
  exact ⟨u,rfl,zvz (s:={ s with heap:=h' }) e c d (by decide) ⟨x,H,I1,ru,⟨rfl,λ ys hy=>by rw [I.list_inj hy hq];exact hx⟩,st',λ b hb=>(hf b hb).1⟩⟩
 done:=by
  intro X hP hw hK hc i pins s σ H E I hf st hg
  subst hP hw hK
  obtain ⟨xs,hq,hx⟩:=hg
  obtain ⟨its,rv,p,hz⟩:=I.list hq
  obtain ⟨f0,f1,f2,f3,f4,f5⟩:=hf it (by simp)
  have hl:=rv.length
  exact wpAny_pyNext_list_end (I.ok.hd hc) st p.isList (by simp;omega) λ h' eb=>⟨rfl,I.turned (t':=s.toks) (λ b o hb e=>eb b o hb e) f0 f1 f3 f4 f5⟩
 self:=λ _ _ _ _ _ st h=>wpAny_pyIter_listiter st h
theorem zbn {P:Program} {w:World} {K:W.Frag} {tg:Expr} (it:Addr) (lo:Int) (n:Nat):Turn P w K tg (Itr lo n) [it] it (λ i h=>IsRangeIter h it (lo+(i:Nat) * 1) ((n:Int) - (i:Nat)) 1) where
 mem:=by simp
 obj:=λ i h st b hb=>by
  have e:b=it:=by simpa using hb
  subst e
  exact ⟨_,st,λ v z=>by
   have z':Data.fields _=Data.cell v:=z
   cases z'⟩
 keep:=λ i h h' st k=>k it (by simp) _ st
 item:=by
  intro X hP hw hK hc i pins s σ H E I hf st hg
  subst hP hw hK
  obtain ⟨f0,f1,f2,f3,f4,f5⟩:=hf it (by simp)
  have W:=Walks.range (prog:=X.prog) (w:=X.w) (I.ok.hd hc) it lo 1 n
  refine W.item i s _ _ hg st λ v h' tk hv st' kk=>?_
  obtain ⟨t,rfl⟩:=hv
  have I1:Inv X pins σ H { s with heap:=h',toks:=tk }:=I.turned (λ b o hb e=>kk b o (by simpa using hb) e) f0 f1 f3 f4 f5
  refine ⟨_,rfl,zvz (s:={ s with heap:=h',toks:=tk }) (n := "range_iterator") st' rfl rfl (by decide) ⟨.int (lo+i),H,I1,⟨t,?_⟩,⟨rfl,rfl⟩,st',λ b hb=>(hf b hb).1⟩⟩
  rw [Int.mul_one]
 done:=by
  intro X hP hw hK hc i pins s σ H E I hf st hg
  subst hP hw hK
  obtain ⟨f0,f1,f2,f3,f4,f5⟩:=hf it (by simp)
  exact wpAny_pyNext_range_end (I.ok.hd hc) st (by have:n≤i:=hg;omega) λ h' eb=>⟨rfl,I.turned (t':=s.toks) (λ b o hb e=>eb b o hb e) f0 f1 f3 f4 f5⟩
 self:=λ _ _ _ _ _ st h=>wpAny_pyIter_rangeiter st h
end L2
namespace L2
open PySem PySem.Spec PyProof.Rows
section
variable {X:Cx} {tg:Expr}
noncomputable def zz3 (K:W.Frag) (tl:TE):TI:=λ σ H R=>tl σ H λ x H1=>∃ a,x = .ref a∧(∃ xs,SqL K H1 a xs)∧R (Itl K a) H1
theorem zib {l:Expr} {tl:TE} (hl:PE X l tl):PI X tg l (zz3 X.K tl) := .mk <| by
 intro pins s σ H R I h
 refine thn (hl pins s σ H _ I h) λ v s1 ⟨x,H1,I1,r1,q1⟩=>?_
 obtain ⟨a,e,⟨xs,hq⟩,q⟩:=q1
 subst e
 cases r1
 obtain ⟨its,rv,p,hz⟩:=I1.list hq
 refine wpAny_pyIter_list p.isList ?_
 refine ⟨s1.heap.objs.size,[s1.heap.objs.size],_,_,H1,rfl,I1.kept (t':=s1.toks) λ b o e=>Heap.get?_push_of_some _ e,ziq a _,⟨_,Heap.get?_push_size _ rfl,rfl,rfl⟩,λ b hb=>?_,q⟩
 have e:b=s1.heap.objs.size:=by simpa using hb
 subst e
 exact I1.fpOk (Nat.le_refl _) (I1.hok.fresh (Nat.le_refl _))
theorem zav {pins:List (Addr×Obj)} {σ:St} {H:Hp} {s:Shared} {R:It→Hp→Prop} {E:Value→Shared→Prop} {lo hi:Int} {t u v:Tok} {tk:Nat} (I:Inv X pins σ H s) (h1 : -(2 ^ 62)≤lo) (h2:lo<2 ^ 62) (h3 : -(2 ^ 62)≤hi) (h4:hi<2 ^ 62)
  (q:R (Itr lo (hi - lo).toNat) H):wpAny (model X.prog X.w) X.A (pyIter (.ref s.heap.objs.size)) (PIE X pins σ tg R) E { s with heap:=s.heap.push { cls := .type "range",data := .fields #[.int lo t,.int hi u,.int 1 v] },toks:=tk }:=by
 refine wpAny_pyIter_range (IsRange.new ..) (small_one h1 h2 h3 h4) ?_
 have I1:Inv X pins σ H { s with heap:=s.heap.push { cls := .type "range",data := .fields #[.int lo t,.int hi u,.int 1 v] },toks:=tk }:=I.kept λ b o e=>Heap.get?_push_of_some _ e
 refine ⟨(s.heap.push { cls := .type "range",data := .fields #[.int lo t,.int hi u,.int 1 v] }).objs.size,[(s.heap.push { cls := .type "range",data := .fields #[.int lo t,.int hi u,.int 1 v] }).objs.size],_,_,H,rfl,
  I1.kept (t':=tk) λ b o e=>Heap.get?_push_of_some _ e,zbn _ lo (hi - lo).toNat,?_,λ b hb=>?_,q⟩
 ·have e1:lo+((0:Nat):Int) * 1=lo:=by simp
  have e2:(((hi - lo).toNat:Nat):Int) - ((0:Nat):Int)=Builtin.Range.rangeSize lo hi 1:=by rw [rangeSize_one];split <;> omega
  show IsRangeIter _ _ (lo+((0:Nat):Int) * 1) ((((hi - lo).toNat:Nat):Int) - ((0:Nat):Int)) 1
  rw [e1,e2]
  exact Heap.get?_push_size _ rfl
 ·have e:b=(s.heap.push { cls := .type "range",data := .fields #[.int lo t,.int hi u,.int 1 v] }).objs.size:=by simpa using hb
  subst e
  exact I1.fpOk (Nat.le_refl _) (I1.hok.fresh (Nat.le_refl _))
noncomputable def zr4 (ta:TA):TI:=λ σ H R=>ta σ H λ vs H1=>∃ j:Int,vs=[.int j] ∧ -(2 ^ 62)≤j∧j<2 ^ 62∧R (Itr 0 j.toNat) H1
theorem zcc {a:Expr} {ta:TA} {p pos:Pos} (hg:Gl X "range") (hm:X.mg "range" = none) (ha:PA X [a] ta) (hs:starEach [a] X.env=[(false,eval a X.env)]:=by rfl):PI X tg (.Call (.Name "range" p) [a] [] pos) (zr4 ta) := .mk <| by
 intro pins s σ H R I h
 refine Call_ (zll I hg hm boot_range (PyProof.Rows.callWith_type1 (thn (ha pos pins s σ H _ I h) λ us s1 ⟨vs,H1,I1,r1,q1⟩=>?_) hs rfl))
 obtain ⟨j,e,q1,q2,q⟩:=q1
 subst e
 cases r1 with
 | cons r rr =>
  cases rr
  obtain ⟨t,rfl⟩:=r
  exact call_range_1 (zav I1 (by omega) (by omega) q1 q2 (by simpa using q))
noncomputable def tFor (wi:TI) (g:TG) (tb:TS):TS:=λ D σ H=>wi σ H λ J H1=>∃ W:Nat→Nat→St→Hp→Prop,(∃ m,W 0 m σ H1)∧∀ i m σ H,W i m σ H →
 (J.stop i H∧D.nx σ H) ∨ (J.go i H∧∃ N:St→Hp→Prop,(∀ σ' H',N σ' H'→∃ m',m'<m∧W (i+1) m' σ' H')∧∀ x H',J.yld i H x H'→g x σ H' λ σ2 H2=>tb { D with nx:=N,ct:=N,bk:=D.nx } σ2 H2)
noncomputable def zli (fp:List Addr) (h:Heap):List (Addr×Obj):=fp.filterMap λ b=>(h.get? b).map λ o=>(b,o)
theorem zta {fp:List Addr} {h:Heap} {b:Addr} {o:Obj} (hb:b∈fp) (e:h.get? b=some o):(b,o)∈zli fp h:=List.mem_filterMap.mpr ⟨b,hb,by rw [e];rfl⟩
theorem zpp {fp:List Addr} {h:Heap} {p:Addr×Obj} (hp:p∈zli fp h):p.1∈fp∧h.get? p.1=some p.2:=by
 obtain ⟨b,hb,e⟩:=List.mem_filterMap.mp hp
 cases q:h.get? b with
 | none=>rw [q] at e;cases e
 | some o =>
  rw [q] at e
  have e':(b,o)=p:=Option.some.inj e
  subst e'
  exact ⟨hb,q⟩
theorem Inv.pinned {pins:List (Addr×Obj)} {σ:St} {H:Hp} {s:Shared} {fp:List Addr} (I:Inv X pins σ H s) (hf:∀ b∈fp,FpOk X pins H b) (ho:∀ b∈fp,∃ o,s.heap.get? b=some o∧∀ v,o.data ≠ .cell v):Inv X (pins++zli fp s.heap) σ H s :=
 I.pins_of λ p hp=>(List.mem_append.mp hp).elim (λ z=>I.pin p (List.mem_append_right _ z)) λ z=>by
  obtain ⟨hb,e⟩:=zpp z
  obtain ⟨f0,f1,f2,_⟩:=hf p.1 hb
  obtain ⟨o,e',d⟩:=ho p.1 hb
  rw [e] at e';cases e'
  exact ⟨e,f0,f1,f2,d⟩
theorem Inv.unpinned {pins pl:List (Addr×Obj)} {σ:St} {H:Hp} {s:Shared} (I:Inv X (pins++pl) σ H s):Inv X pins σ H s:=I.pins_of λ p hp=>I.pin p (List.mem_append_right _ (List.mem_append_left _ hp))
theorem zoc {iter:Expr} {body:List Stmt} {wi:TI} {g:TG} {tb:TS} {pos:Pos} (hp:PassesOwn (model X.prog X.w) X.A X.env X.xe) (hc:X.calm=true) (hi:PI X tg iter wi) (hg:PG X tg g) (hb:PSs X body tb)
  (hs:∀ x,foldedSetIterable iter X.env x=pure x:=by intro _;rfl):PS X (.For tg iter body [] pos) (tFor wi g tb) := .mk <| by
 intro pins s σ H D I h
 refine wpAny_For (thn (hi pins s σ H _ I h) λ v s1 h1=>thn h1 λ itv s2 h2=>?_) hs
 obtain ⟨it,fp,tn,J,H2,e,I2,T,st2,f2,W,⟨m0,w0⟩,turn⟩:=h2
 subst e
 have stat:∀ {H':Hp},(∀ b∈fp,H' b=none)→∀ b∈fp,FpOk X pins H' b:=λ hn b hb=>⟨hn b hb,(f2 b hb).2⟩
 refine codeAny_forLoop_any (λ n s'=>∃ i σ' H',Inv X pins σ' H' s'∧tn i s'.heap∧(∀ b∈fp,H' b=none)∧W i n σ' H') ?_ m0 ⟨0,σ,H2,I2,st2,λ b hb=>(f2 b hb).1,w0⟩
 rintro n s3 ⟨i,σ3,H3,I3,st3,fr3,w3⟩
 rcases turn i n σ3 H3 w3 with ⟨stop,qn⟩ | ⟨go,N,hN,step⟩
 ·refine wpAny_passesOwn hp (thn (T.done X rfl rfl rfl hc i pins s3 σ3 H3 X.xe I3 (stat fr3) st3 stop) λ r s4 ⟨hr,I4⟩=>?_)
  subst hr
  exact wpAny_execs_nil ⟨σ3,H3,I4,qn⟩
 ·refine wpAny_passesOwn hp (thn (T.item X rfl rfl rfl hc i pins s3 σ3 H3 X.xe I3 (stat fr3) st3 go) λ r s4 ⟨u,hr,h4⟩=>?_)
  subst hr
  refine wpAny_passesOwn hp (thn h4 λ _ s5 ⟨x,H5,I5,r5,y5,st5,fr5⟩=>?_)
  have I5':=I5.pinned (stat fr5) (T.obj _ _ st5)
  refine wpAny_passesOwn hp (thn (hg _ s5 σ3 H5 x u _ I5' r5 (step x H5 y5)) λ _ s6 ⟨σ6,H6,I6,q6⟩=>?_)
  refine wpAny_passesOwn hp (thn (hb _ s6 σ6 H6 _ I6 q6) λ f s7 q7=>?_)
  have again:∀ {σ7:St} {H7:Hp},Inv X (pins++zli fp s5.heap) σ7 H7 s7→N σ7 H7→∃ m,m<n∧∃ i σ' H',Inv X pins σ' H' s7∧tn i s7.heap∧(∀ b∈fp,H' b=none)∧W i m σ' H':=fun {σ7 H7} I7 n7=>by
   obtain ⟨m',hm,w7⟩:=hN σ7 H7 n7
   refine ⟨m',hm,i+1,σ7,H7,I7.unpinned,T.keep _ _ _ st5 λ b hb o e=>(I7.pin (b,o) (List.mem_append_right _ (List.mem_append_right _ (zta hb e)))).1,λ b hb=>?_,w7⟩
   obtain ⟨o,e,d⟩:=T.obj _ _ st5 b hb
   exact (I7.pin (b,o) (List.mem_append_right _ (List.mem_append_right _ (zta hb e)))).2.1
  cases f with
  | next=>obtain ⟨σ7,H7,I7,n7⟩:=q7;exact again I7 n7
  | cont=>obtain ⟨σ7,H7,I7,n7⟩:=q7;exact again I7 n7
  | brk=>obtain ⟨σ7,H7,I7,q7⟩:=q7;exact ⟨σ7,H7,I7.unpinned,q7⟩
  | ret v=>obtain ⟨x7,σ7,H7,I7,r7,q7⟩:=q7;exact ⟨x7,σ7,H7,I7.unpinned,r7,q7⟩
end
theorem zjc {K:W.Frag} {a:Addr} {xs:List V} {g:TG} {tb:TS} {D:Ends} {σ:St} {H:Hp} (Pv:Nat→St→Hp→Prop) (h0:Pv 0 σ H) (hl:∀ i σ H,i≤xs.length→Pv i σ H→SqL K H a xs)
  (hs:∀ i x σ H,xs[i]? = some x→Pv i σ H→g x σ H λ σ2 H2=>tb { D with nx:=Pv (i+1),ct:=Pv (i+1),bk:=D.nx } σ2 H2) (hd:∀ σ H,Pv xs.length σ H→D.nx σ H) :
  ∃ W:Nat→Nat→St→Hp→Prop,(∃ m,W 0 m σ H)∧∀ i m σ H,W i m σ H →
   ((Itl K a).stop i H∧D.nx σ H) ∨ ((Itl K a).go i H∧∃ N:St→Hp→Prop,(∀ σ' H',N σ' H'→∃ m',m'<m∧W (i+1) m' σ' H')∧∀ x H',(Itl K a).yld i H x H'→g x σ H' λ σ2 H2=>tb { D with nx:=N,ct:=N,bk:=D.nx } σ2 H2):=by
 refine ⟨λ i m σ H=>m=xs.length - i∧i≤xs.length∧Pv i σ H,⟨xs.length,by simp,Nat.zero_le _,h0⟩,?_⟩
 rintro i m σ H ⟨rfl,hi,p⟩
 have q:=hl i σ H hi p
 by_cases hlt:i<xs.length
 ·refine .inr ⟨⟨xs,xs[i],q,by simp [hlt]⟩,Pv (i+1),λ σ' H' p'=>⟨xs.length - (i+1),by omega,rfl,hlt,p'⟩,λ x H' y=>?_⟩
  obtain ⟨e,y⟩:=y
  subst e
  exact hs i x σ _ (y xs q) p
 ·have e:i=xs.length:=by omega
  subst e
  exact .inl ⟨⟨xs,q,Nat.le_refl _⟩,hd σ H p⟩
theorem zzc {lo:Int} {n:Nat} {g:TG} {tb:TS} {D:Ends} {σ:St} {H:Hp} (Pv:Nat→St→Hp→Prop) (h0:Pv 0 σ H)
  (hs:∀ i σ H,i<n→Pv i σ H→g (.int (lo+i)) σ H λ σ2 H2=>tb { D with nx:=Pv (i+1),ct:=Pv (i+1),bk:=D.nx } σ2 H2) (hd:∀ σ H,Pv n σ H→D.nx σ H) :
  ∃ W:Nat→Nat→St→Hp→Prop,(∃ m,W 0 m σ H)∧∀ i m σ H,W i m σ H →
   ((Itr lo n).stop i H∧D.nx σ H) ∨ ((Itr lo n).go i H∧∃ N:St→Hp→Prop,(∀ σ' H',N σ' H'→∃ m',m'<m∧W (i+1) m' σ' H')∧∀ x H',(Itr lo n).yld i H x H'→g x σ H' λ σ2 H2=>tb { D with nx:=N,ct:=N,bk:=D.nx } σ2 H2):=by
 refine ⟨λ i m σ H=>m=n - i∧i≤n∧Pv i σ H,⟨n,by simp,Nat.zero_le _,h0⟩,?_⟩
 rintro i m σ H ⟨rfl,hi,p⟩
 by_cases hlt:i<n
 ·refine .inr ⟨hlt,Pv (i+1),λ σ' H' p'=>⟨n - (i+1),by omega,rfl,hlt,p'⟩,λ x H' y=>?_⟩
  obtain ⟨e,y⟩:=y
  subst e y
  exact hs i σ _ hlt p
 ·have e:i=n:=by omega
  subst e
  exact .inl ⟨Nat.le_refl _,hd σ H p⟩
end L2
namespace L2
open PySem PySem.Spec PyProof.Rows
noncomputable abbrev R2:=V→V→Hp→VK→Prop
noncomputable def OpR (X:Cx) (f:Value→Value→Sem Value) (r:R2):Prop :=
 ∀ (pins:List (Addr×Obj)) (s:Shared) (σ:St) (H:Hp) (x y:V) (v u:Value) (Q:VK),Inv X pins σ H s→RelV x v→RelV y u→r x y H Q →
  wpAny (model X.prog X.w) X.A (f v u) (EP X pins σ Q) X.xe s
noncomputable def UnR (X:Cx) (f:Value→Sem Value) (r:V→Hp→VK→Prop):Prop :=
 ∀ (pins:List (Addr×Obj)) (s:Shared) (σ:St) (H:Hp) (x:V) (v:Value) (Q:VK),Inv X pins σ H s→RelV x v→r x H Q →
  wpAny (model X.prog X.w) X.A (f v) (EP X pins σ Q) X.xe s
noncomputable def zvg (X:Cx) (f:Value) (r:List V→Hp→VK→Prop):Prop :=
 ∀ (pins:List (Addr×Obj)) (s:Shared) (σ:St) (H:Hp) (xs:List V) (us:List Value) (Q:VK),Inv X pins σ H s→Vals xs us→r xs H Q →
  wpAny (model X.prog X.w) X.A (call f us) (EP X pins σ Q) X.xe s
noncomputable def tOp (r:R2) (ta tb:TE):TE:=λ σ H Q=>ta σ H λ x H1=>tb σ H1 λ y H2=>r x y H2 Q
noncomputable def tUn (r:V→Hp→VK→Prop) (ta:TE):TE:=λ σ H Q=>ta σ H λ x H1=>r x H1 Q
noncomputable def rI (C:Int→Int→Prop) (g:Int→Int→V):R2:=λ x y H Q=>∃ i j,x = .int i∧y = .int j∧C i j∧Q (g i j) H
noncomputable def rI0 (g:Int→Int→V):R2:=λ x y H Q=>∃ i j,x = .int i∧y = .int j∧Q (g i j) H
noncomputable def rU (g:Int→V):V→Hp→VK→Prop:=λ x H Q=>∃ i,x = .int i∧Q (g i) H
section
variable {X:Cx} {a b c:Expr} {ta tb tc:TE} {pos:Pos}
theorem binT (ha:PE X a ta) (hb:PE X b tb) {pins:List (Addr×Obj)} {s:Shared} {σ:St} {H:Hp} {R:V→V→Hp→Prop} (I:Inv X pins σ H s)
  (h:ta σ H λ x H1=>tb σ H1 λ y H2=>R x y H2) {Q:Value→Shared→Prop} {f:Value→Value→Sem Value}
  (hf:∀ v u s2 x y H2,Inv X pins σ H2 s2→RelV x v→RelV y u→R x y H2→wpAny (model X.prog X.w) X.A (f v u) Q X.xe s2) :
  wpAny (model X.prog X.w) X.A (eval a X.env) (λ v s₁=>wpAny (model X.prog X.w) X.A (eval b X.env) (λ u s₂=>wpAny (model X.prog X.w) X.A (f v u) Q X.xe s₂) X.xe s₁) X.xe s:=by
 refine thn (ha pins s σ H _ I h) λ v s1 ⟨x,H1,I1,r1,q1⟩=>?_
 refine thn (hb pins s1 σ H1 _ I1 q1) λ u s2 ⟨y,H2,I2,r2,q2⟩=>?_
 exact hf v u s2 x y H2 I2 r1 r2 q2
theorem zna {op:Operator} {r:R2} (ho:OpR X (binaryOp op) r) (ha:PE X a ta) (hb:PE X b tb):PE X (.BinOp a op b pos) (tOp r ta tb) := .mk <| by
 intro pins s σ H Q I h
 exact wpAny_BinOp (binT ha hb I h λ v u s2 x y H2 I2 rx ry q=>ho pins s2 σ H2 x y v u Q I2 rx ry q)
theorem zw0 {op:UnaryOp} {r:V→Hp→VK→Prop} (ho:UnR X (unaryOp op) r) (ha:PE X a ta):PE X (.UnaryOp op a pos) (tUn r ta) := .mk <| by
 intro pins s σ H Q I h
 exact UnaryOp_ (thn (ha pins s σ H _ I h) λ v s1 ⟨x,H1,I1,r1,q1⟩=>ho pins s1 σ H1 x v Q I1 r1 q1)
theorem opI {f:Value→Value→Sem Value} {C:Int→Int→Prop} {g:Int→Int→Int}
  (rule:∀ (i j:Int) (t u:Tok) (s:Shared) (Q:Value→Shared→Prop) (E:Value→Shared→Prop),C i j→Q (.int (g i j) s.toks) { s with toks:=s.toks+1 }→wpAny (model X.prog X.w) X.A (f (.int i t) (.int j u)) Q E s) :
  OpR X f (rI C λ i j=>.int (g i j)):=by
 intro pins s σ H x y v u Q I rx ry h
 obtain ⟨i,j,rfl,rfl,hc,q⟩:=h
 obtain ⟨t,rfl⟩:=rx
 obtain ⟨t',rfl⟩:=ry
 exact rule i j t t' s _ _ hc ⟨.int (g i j),H,I.tok _,⟨_,rfl⟩,q⟩
theorem opI0 {f:Value→Value→Sem Value} {g:Int→Int→Int}
  (rule:∀ (i j:Int) (t u:Tok) (s:Shared) (Q:Value→Shared→Prop) (E:Value→Shared→Prop),Q (.int (g i j) s.toks) { s with toks:=s.toks+1 }→wpAny (model X.prog X.w) X.A (f (.int i t) (.int j u)) Q E s) :
  OpR X f (rI0 λ i j=>.int (g i j)):=by
 intro pins s σ H x y v u Q I rx ry h
 obtain ⟨i,j,rfl,rfl,q⟩:=h
 obtain ⟨t,rfl⟩:=rx
 obtain ⟨t',rfl⟩:=ry
 exact rule i j t t' s _ _ ⟨.int (g i j),H,I.tok _,⟨_,rfl⟩,q⟩
theorem opB0 {f:Value→Value→Sem Value} {g:Int→Int→Bool}
  (rule:∀ (i j:Int) (t u:Tok) (s:Shared) (Q:Value→Shared→Prop) (E:Value→Shared→Prop),Q (.bool (g i j)) s→wpAny (model X.prog X.w) X.A (f (.int i t) (.int j u)) Q E s) :
  OpR X f (rI0 λ i j=>.bl (g i j)):=by
 intro pins s σ H x y v u Q I rx ry h
 obtain ⟨i,j,rfl,rfl,q⟩:=h
 obtain ⟨t,rfl⟩:=rx
 obtain ⟨t',rfl⟩:=ry
 exact rule i j t t' s _ _ ⟨.bl (g i j),H,I,rfl,q⟩
noncomputable def CDiv (i j:Int):Prop:=0<j∧j<1073741824
noncomputable def CPow (i j:Int):Prop:=0≤j∧j≤1000000∧i.natAbs<2 ^ 64
noncomputable def CMul (i j:Int):Prop:=(-(2 ^ 64)<i∧i<2 ^ 64) ∨ (-(2 ^ 64)<j∧j<2 ^ 64)
theorem CMul.ok {i j:Int} (h:CMul i j):IntMulOk i j:=by
 rcases h with ⟨h1,h2⟩ | ⟨h1,h2⟩
 ·exact .of_left (intBits_le_64 h1 h2)
 ·exact .of_right (intBits_le_64 h1 h2)
theorem zmb:OpR X (binaryOp .Add) (rI0 λ i j=>.int (i+j)):=opI0 λ _ _ _ _ _ _ _ q=>add_int q
theorem zhi:OpR X (binaryOp .Sub) (rI0 λ i j=>.int (i - j)):=opI0 λ _ _ _ _ _ _ _ q=>sub_int q
theorem zol:OpR X (binaryOp .Mult) (rI CMul λ i j=>.int (i * j)):=opI λ _ _ _ _ _ _ _ hc q=>mul_int q hc.ok
theorem zpc:OpR X (binaryOp .FloorDiv) (rI CDiv λ i j=>.int (i / j)):=opI λ i j _ _ _ _ _ hc q=>by
 have h1:(0:Int)<j:=hc.1
 have h2:j<1073741824:=hc.2
 exact floordiv_int (by omega) (by rw [Int.fdiv_eq_ediv_of_nonneg i (by omega)];exact q) (.inl (PyProof.noPylong_small (by omega)))
theorem zcb:OpR X (binaryOp .Mod) (rI (λ _ j=>0<j) λ i j=>.int (i % j)):=opI λ i j _ _ _ _ _ hc q=>by
 have h1:(0:Int)<j:=hc
 exact mod_int' (by omega) (by rw [Int.fmod_eq_emod_of_nonneg i (by omega)];exact q)
theorem znu:OpR X (binaryOp .Pow) (rI CPow λ i j=>.int (i ^ j.toNat)):=opI λ _ _ _ _ _ _ _ hc q=>pow_int_small hc.1 hc.2.1 hc.2.2 q
theorem unI {f:Value→Sem Value} {g:Int→Int}
  (rule:∀ (i:Int) (t:Tok) (s:Shared) (Q:Value→Shared→Prop) (E:Value→Shared→Prop),Q (.int (g i) s.toks) { s with toks:=s.toks+1 }→wpAny (model X.prog X.w) X.A (f (.int i t)) Q E s) :
  UnR X f (rU λ i=>.int (g i)):=by
 intro pins s σ H x v Q I rx h
 obtain ⟨i,rfl,q⟩:=h
 obtain ⟨t,rfl⟩:=rx
 exact rule i t s _ _ ⟨.int (g i),H,I.tok _,⟨_,rfl⟩,q⟩
theorem zkv:UnR X (unaryOp .USub) (rU λ i=>.int (-i)):=unI λ _ _ _ _ _ q=>neg_int q
end
noncomputable def scal:V→V→Bool
 | .non,.non=>true | .non,.int _=>true | .int _,.non=>true | .non,.bl _=>true | .bl _,.non=>true | .non,.str _=>true | .str _,.non=>true
 | .int _,.int _=>true | .bl _,.bl _=>true | .str _,.str _=>true | .byt _,.byt _=>true
 | .int _,.str _=>true | .str _,.int _=>true | .bl _,.str _=>true | .str _,.bl _=>true
 | _,_=>false
noncomputable def rEq:R2:=λ x y H Q=>scal x y=true∧Q (.bl (decide (x=y))) H
noncomputable def rNe:R2:=λ x y H Q=>scal x y=true∧Q (.bl (!decide (x=y))) H
theorem zys {i j:Int}:decide (V.int i=V.int j)=(i == j):=by
 rw [Bool.eq_iff_iff]
 simp
theorem zpx {i j:Bool}:decide (V.bl i=V.bl j)=(i == j):=by
 rw [Bool.eq_iff_iff]
 simp
theorem zss {i j:Str}:decide (V.str i=V.str j)=(i == j):=by
 rw [Bool.eq_iff_iff]
 simp
theorem zwr {i j:Array UInt8}:decide (V.byt i=V.byt j)=(i.toList == j.toList):=by
 rw [Bool.eq_iff_iff]
 cases i
 cases j
 simp
section
variable {X:Cx} {a b c:Expr} {ta tb tc:TE} {pos:Pos}
theorem zua {pins:List (Addr×Obj)} {σ:St} {H:Hp} {s:Shared} {Q:VK} {k k':Bool} (I:Inv X pins σ H s) (q:Q (.bl k) H) (e:k=k'):EP X pins σ Q (.bool k') s:=by
 subst e
 exact ⟨.bl k,H,I,rfl,q⟩
theorem zwt:OpR X (compareOp .Eq) rEq:=by
 intro pins s σ H x y v u Q I rx ry h
 obtain ⟨hs,q⟩:=h
 cases x with
 | non =>
  cases rx
  cases y with
  | non=>cases ry;exact PySem.EqNone.eq_none_none (zua I q (by simp))
  | bl j=>cases ry;exact PySem.EqNone.eq_none_bool (zua I q (by simp))
  | int j=>obtain ⟨t',rfl⟩:=ry;exact PySem.EqNone.eq_none_int (zua I q (by simp))
  | str j=>obtain ⟨t',rfl⟩:=ry;exact PySem.EqNone.eq_none_str (zua I q (by simp))
  | _=>exact absurd (show false=true from hs) Bool.false_ne_true
 | bl i =>
  cases rx
  cases y with
  | non=>cases ry;exact PySem.EqNone.eq_bool_none (zua I q (by simp))
  | bl j=>cases ry;exact eq_bool (zua I q zpx)
  | str j=>obtain ⟨t',rfl⟩:=ry;exact PySem.EqMixed.eq_bool_str (zua I q (by simp))
  | _=>exact absurd (show false=true from hs) Bool.false_ne_true
 | int i =>
  obtain ⟨t,rfl⟩:=rx
  cases y with
  | non=>cases ry;exact PySem.EqNone.eq_int_none (zua I q (by simp))
  | int j=>obtain ⟨t',rfl⟩:=ry;exact eq_int (zua I q zys)
  | str j=>obtain ⟨t',rfl⟩:=ry;exact PySem.EqMixed.eq_int_str (zua I q (by simp))
  | _=>exact absurd (show false=true from hs) Bool.false_ne_true
 | str i =>
  obtain ⟨t,rfl⟩:=rx
  cases y with
  | non=>cases ry;exact PySem.EqNone.eq_str_none (zua I q (by simp))
  | bl j=>cases ry;exact PySem.EqMixed.eq_str_bool (zua I q (by simp))
  | int j=>obtain ⟨t',rfl⟩:=ry;exact PySem.EqMixed.eq_str_int (zua I q (by simp))
  | str j=>obtain ⟨t',rfl⟩:=ry;exact eq_str (zua I q zss)
  | _=>exact absurd (show false=true from hs) Bool.false_ne_true
 | byt i =>
  obtain ⟨t,rfl⟩:=rx
  cases y with
  | byt j=>obtain ⟨t',rfl⟩:=ry;exact W.eq_bytes (zua I q zwr)
  | _=>exact absurd (show false=true from hs) Bool.false_ne_true
 | _=>cases y <;> exact absurd (show false=true from hs) Bool.false_ne_true
theorem zm4:OpR X (compareOp .NotEq) rNe:=by
 intro pins s σ H x y v u Q I rx ry h
 obtain ⟨hs,q⟩:=h
 cases x with
 | non =>
  cases rx
  cases y with
  | non=>cases ry;exact PySem.EqNone.ne_none_none (zua I q (by simp))
  | bl j=>cases ry;exact PySem.EqNone.ne_none_bool (zua I q (by simp))
  | int j=>obtain ⟨t',rfl⟩:=ry;exact PySem.EqNone.ne_none_int (zua I q (by simp))
  | str j=>obtain ⟨t',rfl⟩:=ry;exact PySem.EqNone.ne_none_str (zua I q (by simp))
  | _=>exact absurd (show false=true from hs) Bool.false_ne_true
 | bl i =>
  cases rx
  cases y with
  | non=>cases ry;exact PySem.EqNone.ne_bool_none (zua I q (by simp))
  | bl j=>cases ry;exact ne_bool (zua I q (congrArg not zpx))
  | str j=>obtain ⟨t',rfl⟩:=ry;exact PySem.EqMixed.ne_bool_str (zua I q (by simp))
  | _=>exact absurd (show false=true from hs) Bool.false_ne_true
 | int i =>
  obtain ⟨t,rfl⟩:=rx
  cases y with
  | non=>cases ry;exact PySem.EqNone.ne_int_none (zua I q (by simp))
  | int j=>obtain ⟨t',rfl⟩:=ry;exact ne_int (zua I q (congrArg not zys))
  | str j=>obtain ⟨t',rfl⟩:=ry;exact PySem.EqMixed.ne_int_str (zua I q (by simp))
  | _=>exact absurd (show false=true from hs) Bool.false_ne_true
 | str i =>
  obtain ⟨t,rfl⟩:=rx
  cases y with
  | non=>cases ry;exact PySem.EqNone.ne_str_none (zua I q (by simp))
  | bl j=>cases ry;exact PySem.EqMixed.ne_str_bool (zua I q (by simp))
  | int j=>obtain ⟨t',rfl⟩:=ry;exact PySem.EqMixed.ne_str_int (zua I q (by simp))
  | str j=>obtain ⟨t',rfl⟩:=ry;exact ne_str (zua I q (congrArg not zss))
  | _=>exact absurd (show false=true from hs) Bool.false_ne_true
 | byt i =>
  obtain ⟨t,rfl⟩:=rx
  cases y with
  | byt j=>obtain ⟨t',rfl⟩:=ry;exact W.ne_bytes (zua I q (congrArg not zwr))
  | _=>exact absurd (show false=true from hs) Bool.false_ne_true
 | _=>cases y <;> exact absurd (show false=true from hs) Bool.false_ne_true
theorem zb3:OpR X (compareOp .Lt) (rI0 λ i j=>.bl (decide (i<j))):=opB0 λ _ _ _ _ _ _ _ q=>lt_int q
theorem zkx:OpR X (compareOp .Is) (λ x y H Q=>y = .non∧Q (.bl (decide (x = .non))) H):=by
 intro pins s σ H x y v u Q I rx ry h
 obtain ⟨rfl,q⟩:=h
 cases ry
 refine is_none_gen (zua I q ?_)
 cases x <;> first
  | (cases rx;rfl)
  | (obtain ⟨t,rfl⟩:=rx;rfl)
theorem zaw:OpR X (compareOp .IsNot) (λ x y H Q=>y = .non∧Q (.bl (!decide (x = .non))) H):=by
 intro pins s σ H x y v u Q I rx ry h
 obtain ⟨rfl,q⟩:=h
 cases ry
 refine isnot_none_gen (zua I q ?_)
 cases x <;> first
  | (cases rx;rfl)
  | (obtain ⟨t,rfl⟩:=rx;rfl)
theorem zyb (b:Expr) {op:CmpOp} (h:op ≠ .In:=by decide) (h2:op ≠ .NotIn:=by decide):behindInMarks op b=false:=by
 have e1:(op == CmpOp.In)=false:=by cases op <;> first | rfl | exact absurd rfl h
 have e2:(op == CmpOp.NotIn)=false:=by cases op <;> first | rfl | exact absurd rfl h2
 cases b <;> simp [behindInMarks,e1,e2]
theorem ztm {op:CmpOp} {r:R2} (ho:OpR X (compareOp op) r) (ha:PE X a ta) (hb:PE X b tb) (hm:behindInMarks op b=false):PE X (.Compare a [op] [b] pos) (tOp r ta tb) := .mk <| by
 intro pins s σ H Q I h
 exact wpAny_Compare1 (binT ha hb I h λ v u s2 x y H2 I2 rx ry q=>ho pins s2 σ H2 x y v u Q I2 rx ry q) hm
noncomputable def zz2 (t:TE):TT:=λ σ H Q=>t σ H λ x H'=>∃ k,x = .bl k∧Q k H'
theorem zbb {op:CmpOp} {r:R2} (ho:OpR X (compareOp op) r) (ha:PE X a ta) (hb:PE X b tb) (hm:behindInMarks op b=false):PT X (.Compare a [op] [b] pos) (zz2 (tOp r ta tb)) := .mk <| by
 intro pins s σ H Q I h
 refine wpAny_isTrue_Compare1 (thn (ha pins s σ H _ I h) λ v s1 ⟨x,H1,I1,r1,q1⟩=>thn (hb pins s1 σ H1 _ I1 q1) λ u s2 ⟨y,H2,I2,r2,q2⟩ =>
  thn (ho pins s2 σ H2 x y v u _ I2 r1 r2 q2) λ c s3 ⟨z,H3,I3,r3,k,e,q3⟩=>?_) hm
 subst e
 cases r3
 exact wpAny_truthy_bool ⟨H3,I3,q3⟩
noncomputable def zt0 (r r':R2) (ta tb tc:TE):TE:=λ σ H Q=>ta σ H λ x H1=>tb σ H1 λ y H2=>r x y H2 λ z H3=>∃ k,z = .bl k ∧
 (if k=true then tc σ H3 λ w' H4=>r' y w' H4 Q else Q (.bl false) H3)
theorem zgu {op op':CmpOp} {r r':R2} (ho:OpR X (compareOp op) r) (ho':OpR X (compareOp op') r') (ha:PE X a ta) (hb:PE X b tb) (hc:PE X c tc)
  (hm:lastMarks [op,op'] [b,c]=false:=by with_unfolding_all rfl):PT X (.Compare a [op,op'] [b,c] pos) (zz2 (zt0 r r' ta tb tc)) := .mk <| by
 intro pins s σ H Q I h
 refine isTrue_chain (thn (ha pins s σ H _ I h) λ v s1 ⟨x,H1,I1,r1,q1⟩=>test_link (thn (hb pins s1 σ H1 _ I1 q1) λ u s2 ⟨y,H2,I2,r2,q2⟩ =>
  thn (ho pins s2 σ H2 x y v u _ I2 r1 r2 q2) λ d s3 ⟨z,H3,I3,r3,k,e,q3⟩=>?_)) hm
 subst e
 cases r3
 refine wpAny_truthy_bool ?_
 cases k with
 | false =>
  obtain ⟨k',e',q'⟩:=q3
  cases e'
  exact ite_ff ⟨H3,I3,q'⟩
 | true =>
  refine ite_tt (test_last (thn (hc pins s3 σ H3 _ I3 q3) λ w' s4 ⟨z',H4,I4,r4,q4⟩=>thn (ho' pins s4 σ H4 y z' u w' _ I4 r2 r4 q4) λ d' s5 ⟨z2,H5,I5,r5,k2,e2,q5⟩=>?_))
  subst e2
  cases r5
  exact wpAny_truthy_bool ⟨H5,I5,q5⟩
theorem zxp:(sizeLine:Nat)<2 ^ 63:=by rw [sizeLine_eq];decide
theorem zyc:OpR X (binaryOp .Add) (λ x y H Q=>∃ i j,x = .str i∧y = .str j∧i.length+j.length≤sizeLine∧Q (.str (i++j)) H):=by
 intro pins s σ H x y v u Q I rx ry h
 obtain ⟨i,j,rfl,rfl,hz,q⟩:=h
 obtain ⟨t,rfl⟩:=rx
 obtain ⟨t',rfl⟩:=ry
 exact add_str (λ t' tk=>⟨.str (i++j),H,I.tok _,⟨_,rfl⟩,q⟩) hz
theorem zzm {x:V} {us:List Value} (r:Vals [x] us):∃ u,us=[u]∧RelV x u:=by
 cases r with
 | cons r1 r2=>cases r2;exact ⟨_,rfl,r1⟩
theorem zv3 {x y:V} {us:List Value} (r:Vals [x,y] us):∃ u w',us=[u,w']∧RelV x u∧RelV y w':=by
 cases r with
 | cons r1 r2 =>
  cases r2 with
  | cons r3 r4=>cases r4;exact ⟨_,_,rfl,r1,r3⟩
theorem zir (hc:X.calm=true):zvg X (.builtin "min") (λ xs H Q=>∃ i j,xs=[.int i,.int j]∧Q (.int (if j<i then j else i)) H):=by
 intro pins s σ H xs us Q I r h
 obtain ⟨i,j,rfl,q⟩:=h
 obtain ⟨u,w',rfl,⟨t,rfl⟩,⟨t',rfl⟩⟩:=zv3 r
 refine min_two_ints (I.ok.hd hc) λ h' tk k=>⟨_,H,I.kept k,?_,q⟩
 by_cases hj:j<i
 ·rw [if_pos hj,if_pos hj];exact ⟨_,rfl⟩
 ·rw [if_neg hj,if_neg hj];exact ⟨_,rfl⟩
end
end L2
namespace L2
open PySem PySem.Spec PyProof.Rows
structure ObjM (h:Heap) (x dx C:Addr) (mA:Str→Option Value):Prop where
 obj:h.get? x=some (W.instObj C dx)
 ns:h.Ns1 dx mA
 ne:dx≠x
theorem znp {h:Heap} {dx:Addr} {mA:Str→Option Value} (n:h.Ns1 dx mA):∃ od,h.get? dx=some od∧∀ name,W.lookIn name od=some (mA name):=by
 obtain ⟨o,es,ep,ho,hd,hk,_,hm⟩:=n
 refine ⟨o,ho,λ name=>?_⟩
 have e:=hm name
 unfold nsFind findBy at e
 rw [← Array.find?_toList] at e
 unfold W.lookIn
 rw [hd]
 dsimp only
 split
 ·rename_i y q
  rw [q] at e
  exact congrArg some e
 ·rename_i q
  rw [q] at e
  have a:es.toList.any (·.refKey)=false:=by
   rw [List.any_eq_false]
   intro y hy
   obtain ⟨z,t,hkey⟩:=hk y (Array.mem_toList_iff.mp hy)
   simp [DictEntry.refKey,hkey]
  have a':¬ es.toList.any (·.refKey)=true:=by rw [a];exact Bool.false_ne_true
  rw [if_neg a']
  exact congrArg some e
theorem ObjM.look {h:Heap} {x dx C:Addr} {mA:Str→Option Value} (I:ObjM h x dx C mA):∃ od,W.InstAt h x (W.instObj C dx) C (some od)∧∀ name,W.lookIn name od=some (mA name) :=
 let ⟨od,ho,hl⟩:=znp I.ns
 ⟨od,⟨I.obj,rfl,rfl,ho⟩,hl⟩
section
variable {prog:Program} {w:World} {A:Around} {E:Value→Shared→Prop} {s:Shared} {K:W.Frag} {x dx C f:Addr} {mA:Str→Option Value} {name:Str} {v:Value}
theorem zby {expr:Bool} {Q:Value→Shared→Prop} (X:K.In s.heap) (I:ObjM s.heap x dx C mA) (hg:W.plainGet K C name=true) (hh:W.hasDictIn K C=true)
  (ha:W.findIn K (.ref C) name=some none) (hv:mA name=some v) (hv':W.handedIn v=true) (h:Q v { s with toks:=s.toks+1 }) :
  wpAny (model prog w) A (getAttr (.ref x) name expr) Q E s:=by
 obtain ⟨od,J,hl⟩:=I.look
 exact W.get_value X J (W.plainGet_of hg).1 (W.findObj_own hh ha rfl (by rw [hl,hv])) hv' h
theorem zqv {pl:Sem Bool} {Q:Value×List Value→Shared→Prop} (X:K.In s.heap) (I:ObjM s.heap x dx C mA) (hg:W.plainGet K C name=true)
  (hf:W.findIn K (.ref C) name=some (some (.ref f))) (ht:W.isFn K (.ref f)=true) (hv:mA name=none) (h:Q (.ref f,[.ref x]) s) :
  wpAny (model prog w) A (getMethod (.ref x) name pl) Q E s:=by
 obtain ⟨od,J,hl⟩:=I.look
 exact W.method_fn X J (W.plainGet_of hg).1 (W.plainGet_of hg).2 hf (beq_iff_eq.mp ht) (by show (W.lookIn name od).map (·.isSome)=some false;rw [hl,hv];rfl) h
theorem zww {ns:List Str} {Q:Unit→Shared→Prop} (X:K.In s.heap) (I:ObjM s.heap x dx C mA)
  (hs:W.findIn K (.ref C) "__setattr__" = some (some (.builtin "object.__setattr__"))) (hp:W.plainOver K C=true) (ht:W.takerIn K C name=some none) (hh:W.hasDictIn K C=true)
  (hw:PySem.Within mA ns) (hsz:ns.length≤sizeLine)
  (h:∀ h',ObjM h' x dx C (λ y=>if y=name then some v else mA y)→Heap.SameBut dx s.heap h'→Q () { s with heap:=h',toks:=s.toks+2 }) :
  wpAny (model prog w) A (setAttr (.ref x) name v) Q E s:=by
 obtain ⟨od,J,hl⟩:=I.look
 refine W.set_plain X J hs (W.osa_open (s:={ s with toks:=s.toks+1 }) (r:=none) X J hp ht λ b=>?_)
 obtain ⟨cd,hc,hd'⟩:=W.any_some hh
 have hx:s.heap.get? x=some ⟨.ref C,some dx,.plain, #[]⟩:=I.obj
 refine wpAny_bind (wpAny_pure (wpAny_bind (wpAny_bind (wpAny_loadPart hx (wpAny_bind (W.Looks.here (s:={ s with toks:=s.toks+1 }) (W.looks_clsIn X hc) ?_))))))
 rw [hd']
 refine wpAny_pure (a:=some dx) (wpAny_bind (wpAny_pure (wpAny_bind ?_)))
 refine wpAny_nsSet1 (s:={ s with toks:=s.toks+1 }) I.ns λ h' hn2 hs2=>?_
 obtain ⟨oD,esD,epD,hoD,hdD,hcD⟩:=hn2.count (PySem.Within.cons name v hw)
 refine wpAny_bind (wpAny_lookBehind hoD (by rw [hdD];exact pastItsLine_dict (Nat.le_trans hcD (by rw [List.length_cons];omega))) ?_)
 exact wpAny_pure (h _ ⟨(hs2.2 _ (Ne.symm I.ne)).trans I.obj,hn2,I.ne⟩ hs2)
theorem zyt {R:Result→Shared→Prop} {vs:List Value} {kw:List (Str×Value)} (X:K.In s.heap) (hm:W.makesIn K C=true)
  (hi:W.findIn K (.ref C) "__init__" = some (some (.ref f))) (hf:W.typeIn K (.ref f)=some (.type "function"))
  (h:codeAny (model prog w) (A.under (.builtin "type.__call__" ⟨.ref C::vs,kw⟩)) (.call (.ref f) ⟨.ref (s.heap.objs.size+1)::vs,kw⟩) (W.InitBack (s.heap.objs.size+1) R)
   { s with heap:=(s.heap.push W.emptyDict).push (W.instObj C s.heap.objs.size) }) :
  codeAny (model prog w) A (.call (.ref C) ⟨vs,kw⟩) R s:=by
 obtain ⟨hh,g,d,t,os⟩:=s
 exact W.make_core (W.makes_of X hm) (W.looks_findIn X hi) (λ self=>W.bind_fn X self hf) (.inl rfl) h
end
noncomputable def putF (f:Str) (v:V):List (Str×V)→List (Str×V)
 | []=>[(f,v)]
 | (g,x)::r=>if g=f then (g,v)::r else (g,x)::putF f v r
theorem ztf (f g:Str) (v:V):∀ fs:List (Str×V),(putF f v fs).lookup g=if g=f then some v else fs.lookup g
 | []=>by
  show List.lookup g [(f,v)]=_
  by_cases h:g=f
  ·have hb:(g == f)=true:=beq_iff_eq.mpr h
   simp only [List.lookup,hb,if_pos h]
  ·have hb:(g == f)=false:=beq_eq_false_iff_ne.mpr h
   simp only [List.lookup,hb,if_neg h]
 | (k,x)::r=>by
  have ih:=ztf f g v r
  rw [show putF f v ((k,x)::r)=(if k=f then (k,v)::r else (k,x)::putF f v r) from rfl]
  by_cases hk:k=f
  ·rw [if_pos hk]
   by_cases h:g=k
   ·have hb:(g == k)=true:=beq_iff_eq.mpr h
    simp only [List.lookup,hb,if_pos (h.trans hk)]
   ·have hb:(g == k)=false:=beq_eq_false_iff_ne.mpr h
    simp only [List.lookup,hb,if_neg (λ e:g=f=>h (e.trans hk.symm))]
  ·rw [if_neg hk]
   by_cases h:g=k
   ·have hb:(g == k)=true:=beq_iff_eq.mpr h
    simp only [List.lookup,hb,if_neg (λ e:g=f=>hk (h.symm.trans e))]
   ·have hb:(g == k)=false:=beq_eq_false_iff_ne.mpr h
    simp only [List.lookup,hb]
    exact ih
theorem zdg (f:Str) (v:V):∀ fs:List (Str×V),f∈(putF f v fs).map (·.1)∧∀ g,g∈fs.map (·.1)→g∈(putF f v fs).map (·.1)
 | []=>⟨by simp [putF],λ g h=>by simp at h⟩
 | (k,x)::r=>by
  obtain ⟨i1,i2⟩:=zdg f v r
  rw [show putF f v ((k,x)::r)=(if k=f then (k,v)::r else (k,x)::putF f v r) from rfl]
  by_cases hk:k=f
  ·rw [if_pos hk]
   subst hk
   exact ⟨by simp,λ g h=>by simpa using h⟩
  ·rw [if_neg hk]
   refine ⟨?_,λ g h=>?_⟩
   ·rw [List.map_cons]
    exact List.mem_cons_of_mem _ i1
   ·rw [List.map_cons] at h ⊢
    rcases List.mem_cons.mp h with e | e
    ·exact List.mem_cons.mpr (.inl e)
    ·exact List.mem_cons_of_mem _ (i2 g e)
theorem zof (f:Str) (v:V):∀ fs:List (Str×V),(putF f v fs).length≤fs.length+1
 | []=>by simp [putF]
 | (k,x)::r=>by
  have ih:=zof f v r
  rw [show putF f v ((k,x)::r)=(if k=f then (k,v)::r else (k,x)::putF f v r) from rfl]
  by_cases hk:k=f
  ·rw [if_pos hk,List.length_cons,List.length_cons];omega
  ·rw [if_neg hk,List.length_cons,List.length_cons];omega
theorem RelO.some_of {v:V} {o:Option Value} (r:RelO (some v) o):∃ u,o=some u∧RelV v u:=by
 cases o with
 | none=>exact (show False from r).elim
 | some u=>exact ⟨u,rfl,r⟩
theorem RelO.none_of {o:Option Value} (r:RelO none o):o=none:=by
 cases o with
 | none=>rfl
 | some u=>exact (show False from r).elim
theorem zpr {v:V} {u:Value} (r:RelV v u):W.handedIn u=true:=by
 cases v with
 | non=>cases (show u=Value.none from r);rfl
 | bl b=>cases (show u=Value.bool b from r);rfl
 | int i=>obtain ⟨t,e⟩:=(show ∃ t,u=Value.int i t from r);cases e;rfl
 | str x=>obtain ⟨t,e⟩:=(show ∃ t,u=Value.str x t from r);cases e;rfl
 | byt b=>obtain ⟨t,e⟩:=(show ∃ t,u=Value.bytes b t from r);cases e;rfl
 | flt b=>obtain ⟨t,e⟩:=(show ∃ t,u=Value.float b t from r);cases e;rfl
 | ref a=>cases (show u=Value.ref a from r);rfl
 | ty n=>cases (show u=Value.type n from r);rfl
section
variable {P:Program} {w:World} {H H':Hp} {h h':Heap} {a C dx:Addr} {fs fs':List (Str×V)}
theorem zon (hok:HOk P w H h) (e:H a=some (.ins C dx fs)):∃ mA,ObjM h a dx C mA∧(∀ f,RelO (fs.lookup f) (mA f))∧PySem.Within mA (fs.map (·.1))∧fs.length≤1000∧H dx=some (.own a):=by
 obtain ⟨d,z,ne,ob,mA,n,r,q⟩:=(show ObjOk P w H h a (.ins C dx fs) from hok a _ e)
 exact ⟨mA,⟨ob,n,ne⟩,r,q,z,d⟩
end
structure Cls (K:W.Frag) (C:Addr):Prop where
 pg:W.plainGet K C Str.empty=true
 hd:W.hasDictIn K C=true
 po:W.plainOver K C=true
 sa:W.findIn K (.ref C) "__setattr__" = some (some (.builtin "object.__setattr__"))
theorem Cls.get {K:W.Frag} {C:Addr} (c:Cls K C) (f:Str):W.plainGet K C f=true:=c.pg
noncomputable def NoAttr (K:W.Frag) (C:Addr) (f:Str):Prop:=W.findIn K (.ref C) f=some none
theorem NoAttr.taker {K:W.Frag} {C:Addr} {f:Str} (n:NoAttr K C f):W.takerIn K C f=some none:=by
 unfold W.takerIn
 rw [show W.findIn K (.ref C) f=some none from n]
 rfl
structure Meth (K:W.Frag) (C:Addr) (m:Str) (f:Addr):Prop where
 at_:W.findIn K (.ref C) m=some (some (.ref f))
 fn:W.isFn K (.ref f)=true
 kp:W.keepIn K (.ref f)=true
section
variable {X:Cx} {pins:List (Addr×Obj)} {σ:St} {H:Hp} {s:Shared} {a C dx:Addr} {fs:List (Str×V)} {f:Str} {v:V} {A:Around} {E:Value→Shared→Prop}
theorem zom {b:Bool} {Q:Value→Shared→Prop} (I:Inv X pins σ H s) (e:H a=some (.ins C dx fs)) (c:Cls X.K C) (n:NoAttr X.K C f) (l:fs.lookup f=some v)
  (h:∀ u s',Inv X pins σ H s'→RelV v u→Q u s'):wpAny (model X.prog X.w) A (getAttr (.ref a) f b) Q E s:=by
 obtain ⟨mA,O,r,_,_,_⟩:=zon I.hok e
 obtain ⟨u,hu,ru⟩:=RelO.some_of (v:=v) (o:=mA f) (by rw [← l];exact r f)
 exact zby I.kIn O (c.get f) c.hd n hu (zpr ru) (h u _ (I.tok _) ru)
theorem zxh {m:Str} {g:Addr} {pl:Sem Bool} {Q:Value×List Value→Shared→Prop} (I:Inv X pins σ H s) (e:H a=some (.ins C dx fs)) (c:Cls X.K C) (k:Meth X.K C m g) (l:fs.lookup m=none)
  (h:Q (.ref g,[.ref a]) s):wpAny (model X.prog X.w) A (getMethod (.ref a) m pl) Q E s:=by
 obtain ⟨mA,O,r,_,_,_⟩:=zon I.hok e
 have hn:mA m=none:=RelO.none_of (by rw [← l];exact r m)
 exact zqv I.kIn O (c.get m) k.at_ k.fn hn h
theorem zbp {y:V} {u:Value} {Q:Unit→Shared→Prop} (I:Inv X pins σ H s) (e:H a=some (.ins C dx fs)) (c:Cls X.K C) (n:NoAttr X.K C f) (hl:fs.length<1000) (ry:RelV y u)
  (h:∀ s',Inv X pins σ (upd H a (.ins C dx (putF f y fs))) s'→Q () s'):wpAny (model X.prog X.w) A (setAttr (.ref a) f u) Q E s:=by
 obtain ⟨mA,O,r,wi,_,ho⟩:=zon I.hok e
 have hz:(fs.map (·.1)).length≤sizeLine:=by rw [List.length_map,sizeLine_eq];omega
 refine zww I.kIn O c.sa c.po n.taker c.hd wi hz λ h' O' sb=>h _ ?_
 have hd:∃ o,h'.get? dx=some o:=let ⟨o,_,_,e',_⟩:=O'.ns; ⟨o,e'⟩
 refine I.write (x:=a) (e:=dx) (by rw [e];exact True.intro) (.inr ho) (λ b q hb z=>(sb.2 b hb).trans z) hd ?_
 refine ⟨by rw [zga O.ne];exact ho,?_,O.ne,O'.obj,_,O'.ns,λ g=>?_,λ g hg=>?_⟩
 ·have:=zof f y fs;omega
 ·show RelO ((putF f y fs).lookup g) (if g=f then some u else mA g)
  rw [ztf]
  by_cases q:g=f
  ·rw [if_pos q,if_pos q];exact ry
  ·rw [if_neg q,if_neg q];exact r g
 ·by_cases q:g=f
  ·rw [q];exact (zdg f y fs).1
  ·refine (zdg f y fs).2 g (wi g λ z=>hg ?_)
   show (if g=f then some u else mA g)=none
   rw [if_neg q];exact z
theorem Inv.made (I:Inv X pins σ H s):Inv X pins σ (upd (upd H s.heap.objs.size (.own (s.heap.objs.size+1))) (s.heap.objs.size+1) (.ins C s.heap.objs.size []))
  { s with heap:=(s.heap.push W.emptyDict).push (W.instObj C s.heap.objs.size) }:=by
 have e1:(s.heap.push W.emptyDict).get? s.heap.objs.size=some W.emptyDict:=Heap.get?_push_size s.heap rfl
 have e2:((s.heap.push W.emptyDict).push (W.instObj C s.heap.objs.size)).get? (s.heap.objs.size+1)=some (W.instObj C s.heap.objs.size):=by
  have:=Heap.get?_push_size (s.heap.push W.emptyDict) (o:=W.instObj C s.heap.objs.size) rfl
  rwa [Heap.size_push] at this
 have e3:(s.heap.push W.emptyDict).Ns s.heap.objs.size (λ _=>none):=⟨W.emptyDict, #[],_,e1,rfl,(λ e he=>absurd he (by simp)),λ _=>rfl⟩
 have I1:=I.laid (a:=s.heap.objs.size) (o := .own (s.heap.objs.size+1)) (h':=s.heap.push W.emptyDict) (t':=s.toks) (λ b u q=>Heap.get?_push_of_some _ q) (Nat.le_refl _) ⟨_,e1⟩
 refine I1.laid (a:=s.heap.objs.size+1) (o := .ins C s.heap.objs.size []) (t':=s.toks) (λ b u q=>Heap.get?_push_of_some _ q) (Nat.le_of_eq (Heap.size_push _ _)) ?_
 have ne:s.heap.objs.size≠s.heap.objs.size+1:=Nat.ne_of_lt (Nat.lt_succ_self _)
 refine ⟨by rw [zga ne,upd_same],Nat.zero_le _,ne,e2,λ _=>none,(Heap.Ns1.of_empty e3).at λ o q=>Heap.get?_push_of_some _ q,λ _=>True.intro,λ y hy=>absurd rfl hy⟩
theorem zdw {prog:Program} {w:World} {env:Env} {e:Expr} {f:Str} {pos:Pos} {s:Shared} {Q:Value→Shared→Prop} (hb:attributeBase e f env (eval e env)=eval e env)
  (h:wpAny (model prog w) A (eval e env) (λ o s₁=>wpAny (model prog w) A (getAttr o f true) Q E s₁) E s):wpAny (model prog w) A (eval (.Attribute e f pos) env) Q E s :=
 Attribute_any_ h (by rw [arm_eval_Attribute,hb])
end
noncomputable def tFld (K:W.Frag) (ta:TE) (f:Str):TE:=λ σ H Q=>ta σ H λ x H1=>∃ a C dx fs v,x = .ref a∧H1 a=some (.ins C dx fs)∧Cls K C∧NoAttr K C f∧fs.lookup f=some v∧Q v H1
noncomputable def sFld (K:W.Frag) (ta tv:TE) (f:Str):TS:=λ D σ H=>tv σ H λ y H1=>ta σ H1 λ x H2=>∃ a C dx fs,x = .ref a∧H2 a=some (.ins C dx fs)∧Cls K C∧NoAttr K C f∧fs.length<1000 ∧
 D.nx σ (upd H2 a (.ins C dx (putF f y fs)))
section
variable {X:Cx} {o e value:Expr} {f:Str} {pos pos' tpos:Pos} {ta tv:TE}
theorem zhp (he:PE X e ta) (hb:attributeBase e f X.env (eval e X.env)=eval e X.env):PE X (.Attribute e f pos) (tFld X.K ta f) := .mk <| by
 intro pins s σ H Q I h
 refine zdw hb (thn (he pins s σ H _ I h) λ u s1 ⟨x,H1,I1,rx,a,C,dx,fs,v,ex,ea,c,n,l,q⟩=>?_)
 subst ex
 obtain rfl:u=Value.ref a:=rx
 exact zom I1 ea c n l λ u' s2 I2 ru=>⟨v,H1,I2,ru,q⟩
theorem zz0 (ha:PE X o ta) (hv:PE X value tv) (hs:swapsWith value (some (.Attribute o f pos')) pos.line X.env=pure false):PS X (.Assign [.Attribute o f pos'] value pos) (sFld X.K ta tv f) := .mk <| by
 intro pins s σ H D I h
 refine plainObj_wpAny_Assign_Attribute (thn (hv pins s σ H _ I h) λ u s1 ⟨y,H1,I1,ry,q⟩=>thn (ha pins s1 σ H1 _ I1 q) λ ov s2 ⟨x,H2,I2,rx,a,C,dx,fs,ex,ea,c,n,l,q2⟩=>?_) hs
 subst ex
 obtain rfl:ov=Value.ref a:=rx
 exact zbp I2 ea c n l ry λ s3 I3=>⟨σ,_,I3,q2⟩
end
section
variable {X:Cx} {pins:List (Addr×Obj)} {σ:St} {H:Hp} {s:Shared} {A:Around} {E:Value→Shared→Prop} {Q:Value→Shared→Prop} {c:Value} {b:Bool}
end
end L2
namespace L2
open PySem PySem.Spec PyProof.Rows
structure Room (k:Nat) (A:Around):Prop where
 hd:A.handled=none
 dp:A.depth+3 * k+5<recursionLimit
 un:A.units+16 * k+200<cLine
theorem Room.mono {j k:Nat} {A:Around} (r:Room k A) (h:j≤k):Room j A:=⟨r.hd,by have:=r.dp;omega,by have:=r.un;omega⟩
theorem Room.deeper {k:Nat} {A:Around} (r:Room (k+1) A) (env:Env):Room k (A.deeper env) :=
 ⟨r.hd,by have:=r.dp;show A.depth+1+3 * k+5<_;omega,by have:=r.un;show A.units+3+16 * k+200<_;omega⟩
theorem zap {A:Around} {C:Addr} {us:List Value} {kw:List (Str×Value)}:(A.under (.builtin "type.__call__" ⟨.ref C::us,kw⟩)).depth=A.depth+1:=by
 first | rfl | simp [Around.under,Code.weight,Code.isCreation,Code.isGuard,Code.isCaller,Code.frames,Code.isFrame,guardIds]
theorem zjn {A:Around} {C:Addr} {us:List Value} {kw:List (Str×Value)}:(A.under (.builtin "type.__call__" ⟨.ref C::us,kw⟩)).units=A.units+1:=by
 first | rfl | simp [Around.under,Code.cUnits,Code.frames,Code.isFrame]
theorem Room.make {k:Nat} {A:Around} (r:Room (k+1) A) (C:Addr) (us:List Value) (kw:List (Str×Value)):Room k (A.under (.builtin "type.__call__" ⟨.ref C::us,kw⟩)) :=
 ⟨r.hd,by have:=r.dp;rw [zap];omega,by have:=r.un;rw [zjn];omega⟩
theorem Room.depth {k:Nat} {A:Around} (r:Room k A):A.depth<recursionLimit:=by have:=r.dp;omega
theorem Room.units {k:Nat} {A:Around} (r:Room k A):A.units+64<cLine:=by have:=r.un;omega
noncomputable def tNil:TA:=λ _ H Q=>Q [] H
noncomputable def zc4 (ta:TE) (tr:TA):TA:=λ σ H Q=>ta σ H λ x H1=>tr σ H1 λ xs H2=>Q (x::xs) H2
section
variable {X:Cx} {e:Expr} {es:List Expr} {te:TE} {t:TA} {pos:Pos}
theorem zfa:PA X [] tNil := .mk <| λ _ _ _ _ H Q I h=>Calls.spliced_nil ⟨[],H,I,.nil,h⟩
theorem zaa (ha:PE X e te) (hr:PA X es t) (hs:starEach (e::es) X.env=(false,eval e X.env)::starEach es X.env:=by rfl):PA X (e::es) (zc4 te t) := .mk <| by
 intro pos pins s σ H Q I h
 rw [hs]
 show wpAny _ _ (spliced ((false,eval e X.env)::backTo pos (starEach es X.env))) _ _ s
 refine Calls.spliced_cons (thn (ha pins s σ H _ I h) λ u s1 ⟨x,H1,I1,r1,q1⟩=>?_)
 exact thn (hr pos pins s1 σ H1 _ I1 q1) λ us s2 ⟨xs,H2,I2,r2,q2⟩=>⟨x::xs,H2,I2,.cons r1 r2,q2⟩
noncomputable def tTup (t:TA):TE:=λ σ H Q=>t σ H λ xs H1=>xs.length≤sizeLine∧∀ p,H1 p=none→Q (.ref p) (upd H1 p (.tup xs))
noncomputable def tLst (t:TA):TE:=λ σ H Q=>t σ H λ xs H1=>xs.length≤sizeLine∧∀ p,H1 p=none→Q (.ref p) (upd H1 p (.lst xs))
theorem zub {x1} (h:PA X es t):PE X (.Tuple es x1 pos) (tTup t) := .mk <| by
 intro pins s σ H Q I hq
 refine wpAny_Tuple_spliced (thn (h pos pins s σ H _ I hq) λ us s1 ⟨xs,H1,I1,r,z,q⟩=>⟨by rw [← r.length];exact z,?_⟩)
 have hf:H1 s1.heap.objs.size=none:=I1.hok.fresh (Nat.le_refl _)
 refine ⟨.ref s1.heap.objs.size,upd H1 s1.heap.objs.size (.tup xs),I1.laid (t':=s1.toks) (λ b u e=>Heap.get?_push_of_some _ e) (Nat.le_refl _) ?_,rfl,q _ hf⟩
 exact ⟨z,us,r,⟨_,Heap.get?_push_size _ rfl,rfl,_,rfl⟩⟩
theorem zgl (h:PA X es t):PE X (.List es pos) (tLst t) := .mk <| by
 intro pins s σ H Q I hq
 refine wpAny_List_spliced (thn (h pos pins s σ H _ I hq) λ us s1 ⟨xs,H1,I1,r,z,q⟩=>⟨by rw [← r.length];exact z,?_⟩)
 have hf:H1 s1.heap.objs.size=none:=I1.hok.fresh (Nat.le_refl _)
 refine ⟨.ref s1.heap.objs.size,upd H1 s1.heap.objs.size (.lst xs),I1.laid (t':=s1.toks) (λ b u e=>Heap.get?_push_of_some _ e) (Nat.le_refl _) ?_,rfl,q _ hf⟩
 exact ⟨z,us,0,r,Heap.get?_push_size _ rfl⟩
end
noncomputable abbrev Sp:=List V→Hp→VK→XK→Prop
noncomputable abbrev CXT:=List Env→Hp→Shared→XK→Value→Shared→Prop
structure Env0 (P:Program) (w:World) (K:W.Frag) (mg:Str→Option Value) (base:Heap) (A:Around) (outer:List Env) (s:Shared) (H:Hp):Prop where
 frames:A.frames=some outer
 mod:Mod K mg base
 bs:∀ b o,base.get? b=some o→s.heap.get? b=some o∧H b=none
 bsz:base.objs.size≤s.heap.objs.size
 funs:s.heap.FunFrames base outer
 frf:∀ b∈frs outer,H b=none
 hok:HOk P w H s.heap
 bare:AllBare s.gens
noncomputable def CE (outer:List Env) (P:Program) (w:World) (H:Hp) (s:Shared) (Q:VK) (u:Value) (s':Shared):Prop :=
 ∃ v H',s'.os=s.os∧AllBare s'.gens∧Un (frs outer) [] H H' s.heap s'.heap∧HOk P w H' s'.heap∧RelV v u∧Q v H'
noncomputable def CR (CX:CXT) (outer:List Env) (P:Program) (w:World) (H:Hp) (s:Shared) (Q:VK) (E:XK) (r:Result) (s':Shared):Prop :=
 match r with
 | .ok (.ret u)=>CE outer P w H s Q u s'
 | .ok _=>False
 | .error e=>CX outer H s E e s'
structure FnOk (P:Program) (w:World) (K:W.Frag) (mg:Str→Option Value) (base:Heap) (CX:CXT) (k:Nat) (f:Addr) (fd:FuncData) (ps:List Str) (sp:Sp):Prop where
 len:∀ vs H Q E,sp vs H Q E→vs.length=ps.length
 run:∀ (A:Around) (outer:List Env) (s:Shared) (H:Hp) (args:Args) (us:List Value) (vs:List V) (Q:VK) (E:XK),Room k A→Env0 P w K mg base A outer s H→BindsTo s fd args (ps.zip us)→Vals vs us→sp vs H Q E →
  codeAny (model P w) A (.call (.ref f) args) (CR CX outer P w H s Q E) s
theorem FnOk.imp {P:Program} {w:World} {K:W.Frag} {mg:Str→Option Value} {base:Heap} {CX:CXT} {k:Nat} {f:Addr} {fd:FuncData} {ps:List Str} {sp sp':Sp} (F:FnOk P w K mg base CX k f fd ps sp)
  (h:∀ vs H Q E,sp' vs H Q E→sp vs H Q E):FnOk P w K mg base CX k f fd ps sp' :=
 ⟨λ vs H Q E q=>F.len vs H Q E (h _ _ _ _ q),λ A outer s H args us vs Q E hr he hb hv hs=>F.run A outer s H args us vs Q E hr he hb hv (h _ _ _ _ hs)⟩
theorem Env0.make {P:Program} {w:World} {K:W.Frag} {mg:Str→Option Value} {base:Heap} {A:Around} {outer:List Env} {s:Shared} {H:Hp} (e:Env0 P w K mg base A outer s H) (C:Addr) (us:List Value) (kw:List (Str×Value)) :
  Env0 P w K mg base (A.under (.builtin "type.__call__" ⟨.ref C::us,kw⟩)) outer s H:=⟨by first | exact e.frames | (simpa [Around.under,Code.envs,Code.isFrame,pushEnvs] using e.frames),e.mod,e.bs,e.bsz,e.funs,e.frf,e.hok,e.bare⟩
section
variable {X:Cx} {pins:List (Addr×Obj)} {σ:St} {H:Hp} {s s':Shared}
theorem Inv.env0 (I:Inv X pins σ H s):Env0 X.prog X.w X.K X.mg X.base X.A X.stack s H :=
 ⟨I.ok.frames,I.ok.mod,I.bs,Nat.le_trans I.ok.bsz I.sz,I.stack,I.stkFree,I.hok,I.bare⟩
theorem Inv.after {Q:VK} {u:Value} (I:Inv X pins σ H s) (h:CE X.stack X.prog X.w H s Q u s'):EP X pins σ Q u s':=by
 obtain ⟨v,H',os,bare,un,hok,r,q⟩:=h
 obtain ⟨hh,g,d,t,os'⟩:=s'
 obtain rfl:os'=s.os:=os
 exact ⟨v,H',I.call (h':=hh) (g':=g) (d':=d) (t':=t) (ch:=[]) un hok bare (λ b z=>absurd z (by simp)),r,q⟩
end
noncomputable def zsz (sp:Sp) (dvs:List V) (E:XK) (t:TA):TE:=λ σ H Q=>t σ H λ vs H1=>sp (vs++dvs) H1 Q E
noncomputable def zt2 (C:Addr) (m:Str) (sp:Sp) (dvs:List V) (E:XK) (ta:TE) (t:TA):TE:=λ σ H Q=>ta σ H λ x H1=>∃ a dx fs,x = .ref a∧H1 a=some (.ins C dx fs)∧fs.lookup m=none ∧
 t σ H1 λ vs H2=>sp (x::(vs++dvs)) H2 Q E
noncomputable def zs4 (C:Addr) (sp:Sp) (dvs:List V) (E:XK) (t:TA):TE:=λ σ H Q=>t σ H λ vs H1=>∀ x dx,H1 x=none→H1 dx=none→dx≠x →
 sp (.ref x::(vs++dvs)) (upd (upd H1 dx (.own x)) x (.ins C dx [])) (λ v H2=>v = .non∧Q (.ref x) H2) E
noncomputable def Binds (K:W.Frag) (fd:FuncData) (ps:List Str) (ds:List Value):Prop :=
 ∀ (s:Shared) (us:List Value),K.In s.heap→(us++ds).length=ps.length→BindsTo s fd ⟨us,[]⟩ (ps.zip (us++ds))
theorem Binds.all {K:W.Frag} {fd:FuncData} {ps:List Str} (h:∀ us:List Value,us.length=ps.length→bindArgs fd ⟨us,[]⟩=pure (ps.zip us)):Binds K fd ps []:=λ s us _ hl=>by
 rw [List.append_nil] at hl ⊢
 exact .of_eq (h us hl)
noncomputable def zyf (CX:CXT) (X:Cx) (E:XK):Prop:=∀ (pins:List (Addr×Obj)) (σ:St) (H:Hp) (s:Shared) (e:Value) (s':Shared),Inv X pins σ H s→CX X.stack H s E e s'→X.xe e s'
section
variable {X:Cx} {CX:CXT} {k:Nat} {f C:Addr} {fd:FuncData} {ps:List Str} {sp:Sp} {dvs:List V} {ds:List Value} {E:XK} {x m:Str} {p pos apos:Pos} {e o:Expr} {es:List Expr} {ta:TE} {t:TA}
theorem ztr {pins:List (Addr×Obj)} {σ:St} {H:Hp} {s:Shared} {Q:VK} {us:List Value} {vs:List V} (F:FnOk X.prog X.w X.K X.mg X.base CX k f fd ps sp) (hr:Room k X.A) (hb:Binds X.K fd ps ds) (hd:Vals dvs ds) (hx:zyf CX X E)
  (I:Inv X pins σ H s) (r:Vals vs us) (h:sp (vs++dvs) H Q E):wpAny (model X.prog X.w) X.A (call (.ref f) us) (EP X pins σ Q) X.xe s:=by
 have r2:Vals (vs++dvs) (us++ds):=r.append hd
 have hl:(us++ds).length=ps.length:=by rw [← r2.length];exact F.len _ _ _ _ h
 refine wpAny_call (codeAny_mono (F.run X.A X.stack s H ⟨us,[]⟩ (us++ds) (vs++dvs) Q E hr I.env0 (hb s us I.kIn hl) r2 h) λ r s' hq=>?_)
 cases r with
 | error e=>exact hx pins σ H s e s' I hq
 | ok fl =>
  cases fl with
  | ret u=>exact I.after hq
  | next=>exact False.elim hq
  | brk=>exact False.elim hq
  | cont=>exact False.elim hq
theorem zva (F:FnOk X.prog X.w X.K X.mg X.base CX k f fd ps sp) (hr:Room k X.A) (hg:Gl X x) (hm:X.mg x=some (.ref f)) (hk:W.keepIn X.K (.ref f)=true) (hb:Binds X.K fd ps ds) (hd:Vals dvs ds) (hx:zyf CX X E)
  (ha:PA X (e::es) t) (hdb:(x == ("__debug__" : Str))=false:=by decide) (he:starEach (e::es) X.env=(false,eval e X.env)::starEach es X.env:=by rfl) (hpl:(backTo pos (starEach es X.env)).any (·.1)=false:=by rfl) :
  PE X (.Call (.Name x p) (e::es) [] pos) (zsz sp dvs E t) := .mk <| by
 intro pins s σ H Q I h
 refine wpAny_Call_Name_kw (zte I hg hm ?_ hdb)
 refine W.callWith_K (h₀:=X.base) I.ok.mod.kin hk (thn (ha pos pins s σ H _ I h) λ us s1 ⟨vs,H1,I1,r,q⟩=>⟨I1.kIn,?_⟩) he hpl
 exact ztr F hr hb hd hx I1 r q
theorem zbv (F:FnOk X.prog X.w X.K X.mg X.base CX k f fd ps sp) (hr:Room k X.A) (hg:Gl X x) (hm:X.mg x=some (.ref f)) (hk:W.keepIn X.K (.ref f)=true) (hb:Binds X.K fd ps ds) (hd:Vals dvs ds) (hx:zyf CX X E)
  (hdb:(x == ("__debug__" : Str))=false:=by decide):PE X (.Call (.Name x p) [] [] pos) (zsz sp dvs E tNil) := .mk <| by
 intro pins s σ H Q I h
 refine wpAny_Call_Name_kw (zte I hg hm ?_ hdb)
 exact W.callWith_K0 I.kIn hk (ztr (us:=[]) F hr hb hd hx I .nil h)
theorem zal {pl:Sem Bool} (he:PE X o ta) (c:Cls X.K C) (hm:Meth X.K C m f) (F:FnOk X.prog X.w X.K X.mg X.base CX k f fd ps sp) (hr:Room k X.A) (hb:Binds X.K fd ps ds) (hd:Vals dvs ds) (hx:zyf CX X E) (ha:PA X (e::es) t)
  (hst:starEach (e::es) X.env=(false,eval e X.env)::starEach es X.env:=by rfl) (hpl:(backTo pos (starEach es X.env)).any (·.1)=false:=by rfl)
  (ht:eval (.Call (.Attribute o m apos) (e::es) [] pos) X.env=(do
   let ov ← eval o X.env
   standAt apos.atName
   let (f,first) ← holding [ov] (getMethod ov m pl)
   callWith pos f first (backTo pos (starEach (e::es) X.env)) (backToKw pos (keywordEach [] X.env))):=by rfl) :
  PE X (.Call (.Attribute o m apos) (e::es) [] pos) (zt2 C m sp dvs E ta t) := .mk <| by
 intro pins s σ H Q I h
 refine W.methodCall_KW (pl:=pl) (thn (he pins s σ H _ I h) λ u s1 ⟨x,H1,I1,rx,a,dx,fs,ex,ea,l,q⟩=>?_) ht
 subst ex
 obtain rfl:u=Value.ref a:=rx
 refine zxh I1 ea c hm l ?_
 refine W.callWith_K (first:=[.ref a]) (h₀:=X.base) I.ok.mod.kin hm.kp (thn (ha pos pins s1 σ H1 _ I1 q) λ us s2 ⟨vs,H2,I2,r,q2⟩=>⟨I2.kIn,?_⟩) hst hpl
 exact ztr (us := .ref a::us) (vs := .ref a::vs) F hr hb hd hx I2 (.cons rfl r) q2
theorem zbj {pl:Sem Bool} (he:PE X o ta) (c:Cls X.K C) (hm:Meth X.K C m f) (F:FnOk X.prog X.w X.K X.mg X.base CX k f fd ps sp) (hr:Room k X.A) (hb:Binds X.K fd ps ds) (hd:Vals dvs ds) (hx:zyf CX X E)
  (ht:eval (.Call (.Attribute o m apos) [] [] pos) X.env=(do
   let ov ← eval o X.env
   standAt apos.atName
   let (f,first) ← holding [ov] (getMethod ov m pl)
   callWith pos f first (backTo pos (starEach [] X.env)) (backToKw pos (keywordEach [] X.env))):=by rfl) :
  PE X (.Call (.Attribute o m apos) [] [] pos) (zt2 C m sp dvs E ta tNil) := .mk <| by
 intro pins s σ H Q I h
 refine W.methodCall_KW (pl:=pl) (thn (he pins s σ H _ I h) λ u s1 ⟨x,H1,I1,rx,a,dx,fs,ex,ea,l,q⟩=>?_) ht
 subst ex
 obtain rfl:u=Value.ref a:=rx
 refine zxh I1 ea c hm l ?_
 exact W.callWith_K0 (first:=[.ref a]) I1.kIn hm.kp (ztr (us:=[.ref a]) (vs:=[.ref a]) F hr hb hd hx I1 (.cons rfl .nil) q)
structure Mk (K:W.Frag) (C f:Addr):Prop where
 makes:W.makesIn K C=true
 init:W.findIn K (.ref C) "__init__" = some (some (.ref f))
 fn:W.isFn K (.ref f)=true
 kp:W.keepIn K (.ref C)=true
theorem zev {pins:List (Addr×Obj)} {σ:St} {H:Hp} {s:Shared} {Q:VK} {us:List Value} {vs:List V} (M:Mk X.K C f) (F:FnOk X.prog X.w X.K X.mg X.base CX k f fd ps sp) (hr:Room (k+1) X.A) (hb:Binds X.K fd ps ds) (hd:Vals dvs ds)
  (hx:zyf CX X E) (I:Inv X pins σ H s) (r:Vals vs us)
  (h:∀ x dx,H x=none→H dx=none→dx≠x→sp (.ref x::(vs++dvs)) (upd (upd H dx (.own x)) x (.ins C dx [])) (λ v H2=>v = .non∧Q (.ref x) H2) E) :
  wpAny (model X.prog X.w) X.A (call (.ref C) us) (EP X pins σ Q) X.xe s:=by
 have hq:=h (s.heap.objs.size+1) s.heap.objs.size (I.hok.fresh (Nat.le_succ _)) (I.hok.fresh (Nat.le_refl _)) (Nat.ne_of_lt (Nat.lt_succ_self _))
 have I2:=Inv.made (C:=C) I
 have r2:Vals (V.ref (s.heap.objs.size+1)::(vs++dvs)) (Value.ref (s.heap.objs.size+1)::(us++ds)) := .cons rfl (r.append hd)
 have hl:(Value.ref (s.heap.objs.size+1)::us++ds).length=ps.length:=by
  have e:=r2.length
  rw [F.len _ _ _ _ hq] at e
  exact e.symm
 refine wpAny_call (zyt (f:=f) I.kIn M.makes M.init (beq_iff_eq.mp M.fn) (codeAny_mono (F.run _ X.stack _ _ ⟨Value.ref (s.heap.objs.size+1)::us,[]⟩ (Value.ref (s.heap.objs.size+1)::(us++ds)) _ _ E (hr.make C us [])
  (I2.env0.make C us []) (hb _ (Value.ref (s.heap.objs.size+1)::us) I2.kIn hl) r2 hq) λ r s' hq'=>?_))
 cases r with
 | error e=>exact hx pins σ _ _ e s' I2 hq'
 | ok fl =>
  cases fl with
  | ret u =>
   obtain ⟨v,H',I3,rv,ev,q3⟩:=I2.after hq'
   subst ev
   exact ⟨rv,⟨V.ref (s.heap.objs.size+1),H',I3,rfl,q3⟩⟩
  | next=>exact False.elim hq'
  | brk=>exact False.elim hq'
  | cont=>exact False.elim hq'
theorem zce (M:Mk X.K C f) (F:FnOk X.prog X.w X.K X.mg X.base CX k f fd ps sp) (hr:Room (k+1) X.A) (hg:Gl X x) (hm:X.mg x=some (.ref C)) (hb:Binds X.K fd ps ds) (hd:Vals dvs ds) (hx:zyf CX X E)
  (ha:PA X (e::es) t) (hdb:(x == ("__debug__" : Str))=false:=by decide) (he:starEach (e::es) X.env=(false,eval e X.env)::starEach es X.env:=by rfl) (hpl:(backTo pos (starEach es X.env)).any (·.1)=false:=by rfl) :
  PE X (.Call (.Name x p) (e::es) [] pos) (zs4 C sp dvs E t) := .mk <| by
 intro pins s σ H Q I h
 refine wpAny_Call_Name_kw (zte I hg hm ?_ hdb)
 refine W.callWith_K (h₀:=X.base) I.ok.mod.kin M.kp (thn (ha pos pins s σ H _ I h) λ us s1 ⟨vs,H1,I1,r,q⟩=>⟨I1.kIn,?_⟩) he hpl
 exact zev M F hr hb hd hx I1 r q
end
section
variable {X:Cx} {CX:CXT} {k:Nat} {f C:Addr} {fd:FuncData} {ps ks:List Str} {sp:Sp} {E:XK} {x m:Str} {p pos apos kpos:Pos} {e o:Expr} {es:List Expr} {kws:List Keyword} {te ta:TE} {t tk:TA} {nm:Option Str}
variable {g:List Value→List Value→List Value} {gV:List V→List V→List V}
end
structure FnScope (N P:List Str) (sc:Scope):Prop where
 kind:sc.kind = .function
 co:sc.isCoroutine=false
 gen:sc.isGenerator=false
 nd:N.Nodup
 pre:N.take P.length=P
 par:∀ x∈P,sc.names.lookup x=some .local ∨ sc.names.lookup x=some .cell
 nofree:∀ y∈sc.names,y.2 ≠ .free
theorem zhk {kindOf:Str→Option NameKind} {x:Str}:∀ {binds:List (Str×Value)} {m:Str→Option Value},(∀ v,(x,v)∉binds)→bindL kindOf binds m x=m x
 | [],_,_=>rfl
 | (n,v)::r,m,h=>by
  unfold bindL
  rw [zhk λ w hw=>h w (List.mem_cons_of_mem _ hw)]
  split
  ·have:x≠n:=by rintro rfl;exact h v List.mem_cons_self
   simp [this]
  ·rfl
theorem znk {kindOf:Str→Option NameKind} {x:Str}:∀ {binds:List (Str×Value)} {m:Str→Option Value},(∀ v,(x,v)∉binds)→bindC kindOf binds m x=m x
 | [],_,_=>rfl
 | (n,v)::r,m,h=>by
  unfold bindC
  rw [znk λ w hw=>h w (List.mem_cons_of_mem _ hw)]
  split
  ·rfl
  ·have:x≠n:=by rintro rfl;exact h v List.mem_cons_self
   simp [this]
theorem ztj {kindOf:Str→Option NameKind} {x:Str} {v:Value}:∀ {P:List Str} {vs:List Value} {i:Nat} {m:Str→Option Value},P.Nodup→P[i]? = some x→vs[i]? = some v→kindOf x=some .local →
  bindL kindOf (P.zip vs) m x=some v
 | [],_,_,_,_,h,_,_=>by simp at h
 | _::_,[],_,_,_,_,h,_=>by simp at h
 | p::P,w::vs,0,m,nd,h1,h2,hk=>by
  simp at h1 h2;subst h1;subst h2
  show bindL kindOf ((p,w)::P.zip vs) m p=_
  unfold bindL
  rw [zhk λ v hv=>(List.nodup_cons.mp nd).1 (List.of_mem_zip hv).1,if_pos hk]
  simp
 | p::P,w::vs,i+1,m,nd,h1,h2,hk=>by
  show bindL kindOf ((p,w)::P.zip vs) m x=_
  unfold bindL
  exact ztj (i:=i) (List.nodup_cons.mp nd).2 (by simpa using h1) (by simpa using h2) hk
theorem zqk {kindOf:Str→Option NameKind} {x:Str} {v:Value}:∀ {P:List Str} {vs:List Value} {i:Nat} {m:Str→Option Value},P.Nodup→P[i]? = some x→vs[i]? = some v→kindOf x≠some .local →
  bindC kindOf (P.zip vs) m x=some v
 | [],_,_,_,_,h,_,_=>by simp at h
 | _::_,[],_,_,_,_,h,_=>by simp at h
 | p::P,w::vs,0,m,nd,h1,h2,hk=>by
  simp at h1 h2;subst h1;subst h2
  show bindC kindOf ((p,w)::P.zip vs) m p=_
  unfold bindC
  rw [znk λ v hv=>(List.nodup_cons.mp nd).1 (List.of_mem_zip hv).1,if_neg hk]
  simp
 | p::P,w::vs,i+1,m,nd,h1,h2,hk=>by
  show bindC kindOf ((p,w)::P.zip vs) m x=_
  unfold bindC
  exact zqk (i:=i) (List.nodup_cons.mp nd).2 (by simpa using h1) (by simpa using h2) hk
noncomputable def zjr (N:List Str) (vs:List V):St:=vs.map some++List.replicate (N.length - vs.length) none
noncomputable def cxOf (CX:CXT) (P:Program) (w:World) (K:W.Frag) (mg:Str→Option Value) (base:Heap) (N:List Str) (qual:Str) (scope:Scope) (f:Addr) (cd:Value) (A:Around) (outer:List Env) (s:Shared) (H:Hp) (E:XK):Cx where
 prog:=P
 w:=w
 K:=K
 mg:=mg
 base:=base
 A:=A.deeper (envOfC qual scope s.heap.objs.size f cd)
 N:=N
 s₀:=s
 H₀:=H
 env:=envOfC qual scope s.heap.objs.size f cd
 outer:=outer
 stack:=envOfC qual scope s.heap.objs.size f cd::outer
 ex:=[]
 calm:=true
 fn:=λ _=>true
 pn:=[]
 xe:=λ e s'=>wpAny (model P w) (A.deeper (envOfC qual scope s.heap.objs.size f cd)) (leaving (envOfC qual scope s.heap.objs.size f cd) e) (λ _ s''=>CX outer H s E e s'') (λ e' s''=>CX outer H s E e' s'') s'
theorem zsm {sc:Scope} {n:Nat} {x:Str} (h:sc.names.lookup x=some .cell):∃ c,(cellsFrom n sc.names []).lookup x=some c:=by
 have q:=W.cellsFrom_some sc.names n [] (.inl h)
 exact Option.isSome_iff_exists.mp q
theorem zrq {CX:CXT} {P:Program} {w:World} {K:W.Frag} {mg:Str→Option Value} {base:Heap} {N ps:List Str} {qual:Str} {scope:Scope} {f:Addr} {cd:Value} {A:Around} {outer:List Env} {s s1:Shared} {H:Hp} {E:XK} {us:List Value} {vs:List V}
  (S:FnScope N ps scope) (hd:A.handled=none) (e0:Env0 P w K mg base A outer s H) (hl:vs.length=ps.length) (r:Vals vs us)
  (x:InCallC s s.heap.objs.size (bindL (envOfC qual scope s.heap.objs.size f cd).kindOf (ps.zip us) λ _=>none) (cellsFrom (s.heap.objs.size+1) scope.names []) (bindC (envOfC qual scope s.heap.objs.size f cd).kindOf (ps.zip us) λ _=>none) s1) :
  Inv (cxOf CX P w K mg base N qual scope f cd A outer s H E) [] (zjr N vs) H s1:=by
 have hpl:ps.length≤N.length:=by have:=congrArg List.length S.pre;rw [List.length_take] at this;omega
 obtain ⟨h1,tk,rfl,hk⟩:=x.done
 have noA:∀ b:Addr,b∉(cxOf CX P w K mg base N qual scope f cd A outer s H E).ex:=λ b z=>absurd (show b∈([]:List Addr) from z) (by simp)
 refine ⟨⟨e0.mod,S.kind,rfl,rfl,Nat.le_refl _,λ y z c h1 h2=>?_,λ y hy=>?_,λ y c _ h=>?_,λ _=>hd,Around.frames_deeper e0.frames,.inr ⟨rfl,rfl⟩,λ b z=>absurd z (noA b),e0.bs,e0.bsz,λ b _ _=>noA b,λ b z=>absurd z (noA b),e0.funs,e0.frf⟩,
  rfl,e0.bare,Un.kept hk,⟨_,x.toInCall.ns,λ i y v h1 h2 h3=>?_⟩,λ y c h=>⟨_,x.cell y c h⟩,e0.hok.fresh (Nat.le_refl _),λ y c h=>?_,λ p hp=>absurd (show p∈([]:List (Addr×Obj)) from hp) (by simp),e0.hok.kept hk,?_⟩
 ·exact name_of_addr x.apart (PySem.mem_of_lookup h1) (PySem.mem_of_lookup h2)
 ·have hy:scope.names.lookup y=some .cell ∨ scope.names.lookup y=some .free:=hy
  rcases hy with hy | hy
  ·exact zsm hy
  ·exact absurd rfl (S.nofree _ (PySem.mem_of_lookup hy))
 ·exact Nat.le_of_lt (x.above y c (PySem.mem_of_lookup h))
 ·have hi:i<vs.length:=by
   unfold zjr at h2
   by_cases hi:i<vs.length
   ·exact hi
   ·rw [List.getElem?_append_right (by simpa using hi)] at h2
    rw [List.getElem?_replicate] at h2
    split at h2 <;> cases h2
  have ha:vs[i]? = some v:=by
   unfold zjr at h2
   rw [List.getElem?_append_left (by simpa using hi),List.getElem?_map] at h2
   cases e:vs[i]? with
   | none=>rw [e] at h2;cases h2
   | some a=>rw [e] at h2;cases h2;rfl
  obtain ⟨u,hu,rv⟩:=r.get ha
  have hp:ps[i]? = some y:=by
   rw [← S.pre,List.getElem?_take_of_lt (by omega)];exact h1
  have ndP:ps.Nodup:=by rw [← S.pre];exact S.nd.sublist (List.take_sublist _ _)
  refine ⟨u,rv,?_⟩
  rcases S.par y (List.mem_of_getElem? hp) with k | k
  ·exact .inl ⟨k,ztj ndP hp hu k⟩
  ·obtain ⟨c,e⟩:=zsm (n:=s.heap.objs.size+1) k
   refine .inr ⟨.inl k,c,e,?_⟩
   have q:=x.cell y c e
   rw [zqk ndP hp hu (by show scope.names.lookup y≠_;rw [k];decide)] at q
   exact q
 ·exact e0.hok.fresh (Nat.le_of_lt (x.above y c (PySem.mem_of_lookup h)))
 ·unfold zjr
  show _=N.length
  rw [List.length_append,List.length_map,List.length_replicate]
  omega
theorem zw3 {CX:CXT} {P:Program} {w:World} {K:W.Frag} {mg:Str→Option Value} {base:Heap} {k:Nat} {f:Addr} {name qual:Str} {params:Arguments} {body:List Stmt} {scope:Scope} {dV kV doc pm cdv ct oc:Value} {an od:Option Addr}
  {osl:Array (Option Value)} {N ps:List Str} {sp:Sp} (lk:K.lookup f=some ⟨oc,od,.func (W.fnOf name qual params body scope dV kV doc pm an cdv ct),osl⟩) (hcd:W.codeIn K cdv qual=true) (S:FnScope N ps scope)
  (len:∀ vs H Q E,sp vs H Q E→vs.length=ps.length)
  (hbody:∀ (A:Around) (outer:List Env) (s:Shared) (H:Hp) (vs:List V) (Q:VK) (E:XK),Room k (A.deeper (envOfC qual scope s.heap.objs.size f cdv))→sp vs H Q E →
   ∃ t,PSs (cxOf CX P w K mg base N qual scope f cdv A outer s H E) body t∧t { nx:=λ _ H'=>Q .non H',rt:=Q } (zjr N vs) H) :
  FnOk P w K mg base CX (k+1) f (W.fnOf name qual params body scope dV kV doc pm an cdv ct) ps sp:=by
 refine ⟨len,λ A outer s H args us vs Q E hr e0 hb r hsp=>?_⟩
 have hl:=len _ _ _ _ hsp
 have KX:K.In s.heap:=e0.mod.kin.keeps λ b o e=>(e0.bs b o e).1
 have lim:s.heap.NoLimit:=e0.mod.nolimit.keeps λ b o e=>(e0.bs b o e).1
 have hkind:∀ y∈ps.zip us,scope.names.lookup y.1=some .local ∨ (scope.names.lookup y.1=some .cell∧((cellsFrom (s.heap.objs.size+1) scope.names []).lookup y.1).isSome=true):=λ ⟨n,v⟩ hy=>by
  rcases S.par n (List.of_mem_zip hy).1 with q | q
  ·exact .inl q
  ·exact .inr ⟨q,W.cellsFrom_some _ _ _ (.inl q)⟩
 refine codeAny_call_function hr.depth (KX _ _ lk) rfl S.co S.gen rfl (W.codeRec_of KX hcd) (hb _ _ _ _ ?_)
 refine wpAny_newFunctionEnv_cells S.kind hkind λ env he s1 x=>?_
 subst he
 refine ⟨lim.keeps x.toInCall.keep,codeAny_func ?_⟩
 obtain ⟨t,ht,hq⟩:=hbody A outer s H vs Q E (hr.deeper _) hsp
 have I:Inv (cxOf CX P w K mg base N qual scope f cdv A outer s H E) [] (zjr N vs) H s1:=zrq S hr.hd e0 hl r x
 refine wpAny_mono (ht [] s1 (zjr N vs) H _ I hq) (λ fl s' hs=>?_) λ e s' hs=>hs
 have fin:∀ {σ':St} {H':Hp} {v:V} {u:Value},Inv (cxOf CX P w K mg base N qual scope f cdv A outer s H E) [] σ' H' s'→RelV v u→Q v H'→CE outer P w H s Q u s' :=
  fun {σ' H' v u} J rv q=>⟨v,H',J.os,J.bare,J.base,J.hok,rv,q⟩
 cases fl with
 | ret u =>
  obtain ⟨v,σ',H',J,rv,q⟩:=hs
  exact fin J rv q
 | next =>
  obtain ⟨σ',H',J,q⟩:=hs
  exact fin (v:=V.non) (u:=Value.none) J rfl q
 | brk =>
  obtain ⟨_,_,_,q⟩:=hs
  exact False.elim q
 | cont =>
  obtain ⟨_,_,_,q⟩:=hs
  exact False.elim q
end L2
namespace L2
open PySem PySem.Spec PyProof.Rows
section
variable {X:Cx} {x:Str} {p pos:Pos} {e:Expr} {es:List Expr} {t:TA} {id T:String} {r:List V→Hp→VK→Prop}
noncomputable def tCB (r:List V→Hp→VK→Prop) (t:TA):TE:=λ σ H Q=>t σ H λ vs H1=>r vs H1 Q
theorem zma (hc:zvg X (.builtin id) r) (hg:Gl X x) (hm:X.mg x=none) (hv:bootBuiltins x=some (.builtin id)) (ha:PA X (e::es) t) (hn:x ≠ "__name__" := by decide) (hdb:(x == ("__debug__" : Str))=false:=by decide)
  (he:starEach (e::es) X.env=(false,eval e X.env)::starEach es X.env:=by rfl) (hpl:(backTo pos (starEach es X.env)).any (·.1)=false:=by rfl):PE X (.Call (.Name x p) (e::es) [] pos) (tCB r t) := .mk <| by
 intro pins s σ H Q I h
 refine wpAny_Call_Name_kw (zll I hg hm hv ?_ hn hdb)
 exact PyProof.Rows.callWith_builtin1 (thn (ha pos pins s σ H _ I h) λ us s1 ⟨vs,H1,I1,r1,q1⟩=>hc pins s1 σ H1 vs us Q I1 r1 q1) he hpl
theorem zmc (hc:zvg X (.type T) r) (hg:Gl X x) (hm:X.mg x=none) (hv:bootBuiltins x=some (.type T)) (ha:PA X (e::es) t) (hn:x ≠ "__name__" := by decide) (hdb:(x == ("__debug__" : Str))=false:=by decide)
  (he:starEach (e::es) X.env=(false,eval e X.env)::starEach es X.env:=by rfl) (hpl:(backTo pos (starEach es X.env)).any (·.1)=false:=by rfl):PE X (.Call (.Name x p) (e::es) [] pos) (tCB r t) := .mk <| by
 intro pins s σ H Q I h
 refine wpAny_Call_Name_kw (zll I hg hm hv ?_ hn hdb)
 exact PyProof.Rows.callWith_type1 (thn (ha pos pins s σ H _ I h) λ us s1 ⟨vs,H1,I1,r1,q1⟩=>hc pins s1 σ H1 vs us Q I1 r1 q1) he hpl
end
end L2
namespace HT
open PySem PyProof.Rows
section
open PySem.SeqAt
open PySem.AutoSeq1 (wpAny_loadPart')
open PySem.MeetsSeq PySem.MeetsSeq2 PySem.MeetsSeq3
end
section
variable {prog:Program} {w:World} {A:Around} {E:Value→Shared→Prop} {s:Shared}
noncomputable def sIx (n d:Nat):Option Int→Nat
 | none=>d
 | some v=>if v<0 then (v+(n:Int)).toNat else min v.toNat n
theorem sIx_nat (n d k:Nat):sIx n d (some (k:Int))=min k n:=by
 show (if (k:Int)<0 then ((k:Int)+(n:Int)).toNat else min (k:Int).toNat n)=min k n
 rw [if_neg (by omega),Int.toNat_natCast]
end
end HT
namespace L2
open PySem PySem.Spec PyProof.Rows
noncomputable abbrev TO:=St→Hp→(Option Int→Hp→Prop)→Prop
noncomputable def PO (X:Cx) (e:Option Expr) (t:TO):Prop :=
 ∀ (pins:List (Addr×Obj)) (s:Shared) (σ:St) (H:Hp) (Q:Option Int→Hp→Prop),Inv X pins σ H s→t σ H Q →
  wpAny (model X.prog X.w) X.A (evalPart e X.env) (λ u s'=>∃ o H',Inv X pins σ H' s'∧IsPart u o∧Q o H') X.xe s
noncomputable def znw:TO:=λ _ H Q=>Q none H
noncomputable def zt3 (t:TE):TO:=λ σ H Q=>t σ H λ x H1=>∃ i,x = .int i∧Q (some i) H1
section
variable {X:Cx} {e:Expr} {te:TE} {lo hi:Option Expr} {tl th:TO} {pos p2:Pos}
theorem zps:PO X none znw:=by
 intro pins s σ H Q I h
 rw [evalPart_none]
 exact wpAny_pure ⟨none,H,I,.none,h⟩
theorem zzj (h:PE X e te):PO X (some e) (zt3 te):=by
 intro pins s σ H Q I hw
 rw [evalPart_some]
 refine thn (h pins s σ H _ I hw) λ u s1 ⟨x,H1,I1,r1,q1⟩=>?_
 obtain ⟨i,rfl,q⟩:=q1
 obtain ⟨t,rfl⟩:=r1
 exact ⟨some i,H1,I1,.int i t,q⟩
noncomputable def SlR (X:Cx) (r:V→Option Int→Option Int→Hp→VK→Prop):Prop :=
 ∀ (pins:List (Addr×Obj)) (s:Shared) (σ:St) (H:Hp) (x:V) (v vl vu:Value) (lo hi:Option Int) (sl:Addr) (Q:VK),Inv X pins σ H s→RelV x v→s.heap.IsSliceOf sl vl vu .none→IsPart vl lo→IsPart vu hi→r x lo hi H Q →
  ∃ T id,typeLookup (.type T) "__getitem__" = pure (some (.builtin id))∧s.TypeIs v T∧wpAny (model X.prog X.w) X.A (getItem v (.ref sl)) (EP X pins σ Q) X.xe s
noncomputable def tSl (r:V→Option Int→Option Int→Hp→VK→Prop) (te:TE) (tl th:TO):TE:=λ σ H Q=>te σ H λ x H1=>tl σ H1 λ l H2=>th σ H2 λ u H3=>r x l u H3 Q
theorem zrj {r:V→Option Int→Option Int→Hp→VK→Prop} (hr:SlR X r) (he:PE X e te) (hl:PO X lo tl) (hu:PO X hi th):PE X (.Subscript e (.Slice lo hi none p2) pos) (tSl r te tl th) := .mk <| by
 intro pins s σ H Q I h
 refine Subscript_ (thn (he pins s σ H _ I h) λ v s1 ⟨x,H1,I1,r1,q1⟩=>?_)
 refine wpAny_Slice (thn (hl pins s1 σ H1 _ I1 q1) λ vl s2 ⟨l,H2,I2,pl,q2⟩=>thn (hu pins s2 σ H2 _ I2 q2) λ vu s3 ⟨u,H3,I3,pu,q3⟩=>?_)
 rw [evalPart_none]
 refine wpAny_pure ?_
 have I4:Inv X pins σ H3 { s3 with heap:=s3.heap.push { cls := .type "slice",data := .fields #[vl,vu,.none] } }:=I3.kept (t':=s3.toks) λ b ob q=>Heap.get?_push_of_some _ q
 obtain ⟨T,id,hT,ht,hg⟩:=hr pins { s3 with heap:=s3.heap.push { cls := .type "slice",data := .fields #[vl,vu,.none] } } σ H3 x v vl vu l u s3.heap.objs.size Q I4 r1 (Heap.IsSliceOf.new ..) pl pu q3
 show wpAny (model X.prog X.w) X.A (subscriptTail e (.Slice lo hi none p2) v (.ref s3.heap.objs.size)) (EP X pins σ Q) X.xe { s3 with heap:=s3.heap.push { cls := .type "slice",data := .fields #[vl,vu,.none] } }
 exact tail_any (ops:=[.ref s3.heap.objs.size,v]) ht hT hg (by with_unfolding_all rfl)
noncomputable def cutV (xs:List V) (lo hi:Option Int):List V:=(xs.drop (HT.sIx xs.length 0 lo)).take (HT.sIx xs.length xs.length hi - HT.sIx xs.length 0 lo)
theorem zjl (xs:List V) (lo hi:Option Int):(cutV xs lo hi).length≤xs.length:=by
 unfold cutV
 rw [List.length_take,List.length_drop]
 omega
end
end L2
namespace L2
open PySem PySem.Spec PyProof.Rows
noncomputable def ixN (n:Nat) (i:Int):Option Nat:=if 0≤i then (if i<n then some i.toNat else none) else if -(n:Int)≤i then some (i+n).toNat else none
noncomputable def atI {α:Type} (xs:List α) (i:Int):Option α:=(ixN xs.length i).bind λ j=>xs[j]?
theorem zux {n:Nat} {i:Int} {j:Nat} (h:ixN n i=some j):seqIndex? i n=some j∧j<n ∧ -(n:Int)≤i∧i<n:=by
 unfold ixN at h
 by_cases h0:0≤i
 ·rw [if_pos h0] at h
  by_cases h1:i<n
  ·rw [if_pos h1] at h
   have e:i.toNat=j:=Option.some.inj h
   exact ⟨by rw [seqIndex_of h0 h1,e],by omega,by omega,h1⟩
  ·rw [if_neg h1] at h;cases h
 ·rw [if_neg h0] at h
  by_cases h1 : -(n:Int)≤i
  ·rw [if_pos h1] at h
   have e:(i+n).toNat=j:=Option.some.inj h
   exact ⟨by rw [seqIndex_neg (by omega) h1,e],by omega,h1,by omega⟩
  ·rw [if_neg h1] at h;cases h
theorem zlo {α:Type} {xs:List α} {i:Int} {v:α} (h:atI xs i=some v):∃ j,seqIndex? i xs.length=some j∧xs[j]? = some v∧j<xs.length ∧ -(xs.length:Int)≤i∧i<xs.length:=by
 unfold atI at h
 cases e:ixN xs.length i with
 | none=>rw [e] at h;cases h
 | some j =>
  rw [e] at h
  obtain ⟨h1,h2,h3,h4⟩:=zux e
  exact ⟨j,h1,h,h2,h3,h4⟩
theorem znb {α:Type} {xs:List α} {j:Nat} {v:α} (h:xs[j]? = some v):atI xs (j:Int)=some v:=by
 have hj:j<xs.length:=(List.getElem?_eq_some_iff.mp h).1
 have e:ixN xs.length (j:Int)=some j:=by
  unfold ixN
  rw [if_pos (by omega),if_pos (by omega)];simp
 unfold atI;rw [e];exact h
noncomputable def zly (b:Expr):Prop:=∀ o i,subscripted b false o i=operate [o,i] (getItem o i)
noncomputable def IxR (X:Cx) (r:R2):Prop :=
 ∀ (value slice:Expr) (pins:List (Addr×Obj)) (s:Shared) (σ:St) (H:Hp) (x y:V) (v u:Value) (Q:VK),Inv X pins σ H s→RelV x v→RelV y u→r x y H Q →
  subscripted slice false v u=operate [v,u] (getItem v u)→wpAny (model X.prog X.w) X.A (subscriptTail value slice v u) (EP X pins σ Q) X.xe s
noncomputable def MtR (X:Cx) (id:String) (r:V→List V→Hp→VK→Prop):Prop :=
 ∀ (pins:List (Addr×Obj)) (s:Shared) (σ:St) (H:Hp) (x:V) (xs:List V) (v:Value) (us:List Value) (Q:VK),Inv X pins σ H s→RelV x v→Vals xs us→r x xs H Q →
  wpAny (model X.prog X.w) X.A (call (.builtin id) (v::us)) (EP X pins σ Q) X.xe s
section
variable {X:Cx} {a b:Expr} {ta tb:TE} {pos:Pos}
theorem zkb {r:R2} (hr:IxR X r) (ha:PE X a ta) (hb:PE X b tb) (hs:zly b):PE X (.Subscript a b pos) (tOp r ta tb) := .mk <| by
 intro pins s σ H Q I h
 exact Subscript_ (binT ha hb I h λ v u s2 x y H2 I2 rx ry q=>hr a b pins s2 σ H2 x y v u Q I2 rx ry q (hs _ _))
noncomputable def rIxL (K:W.Frag):R2:=λ x y H Q=>∃ p xs i v,x = .ref p∧y = .int i∧SqL K H p xs∧atI xs i=some v∧Q v H
noncomputable def rIxT (K:W.Frag):R2:=λ x y H Q=>∃ p xs i v,x = .ref p∧y = .int i∧SqT K H p xs∧atI xs i=some v∧Q v H
noncomputable def rIxS:R2:=λ x y H Q=>∃ z i c,x = .str z∧y = .int i∧z.length≤sizeLine∧atI z.cps.toList i=some c∧Q (.str ⟨#[c]⟩) H
theorem zla:IxR X (rIxL X.K):=by
 intro value slice pins s σ H x y v u Q I rx ry h hs
 obtain ⟨p,xs,i,z,rfl,rfl,hq,he,q⟩:=h
 cases rx
 obtain ⟨t,rfl⟩:=ry
 obtain ⟨its,r,pl,hz⟩:=I.list hq
 obtain ⟨j,h1,h2,h3,h4,h5⟩:=zlo he
 obtain ⟨w,ew,rw'⟩:=r.get h2
 have hl:=r.length
 have hn:=zxp
 have fin:EP X pins σ Q w s:=⟨z,H,I,rw',q⟩
 by_cases h0:0≤i
 ·have hj:i.toNat=j:=by
   rw [seqIndex_of h0 h5] at h1
   exact Option.some.inj h1
  exact item_listR pl.isList h0 (by omega) (by rw [hj];simpa using ew) fin hs
 ·have hj:(i+(its.toArray.size:Int)).toNat=j:=by
   rw [seqIndex_neg (by omega) h4] at h1
   rw [List.size_toArray,← hl]
   exact Option.some.inj h1
  exact subscriptTail_builtinR (x:=w) pl.isList.typeIs slot_list_getitem.lookup
   (wpAny_getItem_list_neg (Q:=λ r s'=>r=w∧EP X pins σ Q r s') pl.isList (by omega) (by rw [List.size_toArray] <;> omega) (by omega) (by rw [hj];simpa using ew) ⟨rfl,fin⟩) hs
theorem zmu:IxR X (rIxT X.K):=by
 intro value slice pins s σ H x y v u Q I rx ry h hs
 obtain ⟨p,xs,i,z,rfl,rfl,hq,he,q⟩:=h
 cases rx
 obtain ⟨t,rfl⟩:=ry
 obtain ⟨its,r,pl,hz⟩:=I.tuple hq
 obtain ⟨j,h1,h2,h3,h4,h5⟩:=zlo he
 obtain ⟨w,ew,rw'⟩:=r.get h2
 have hl:=r.length
 have hn:=zxp
 have fin:EP X pins σ Q w s:=⟨z,H,I,rw',q⟩
 exact subscriptTail_builtinR (x:=w) pl.typeIs slot_tuple_getitem.lookup
  (getItem_tuple (j:=j) (Q:=λ r s'=>r=w∧EP X pins σ Q r s') pl (by omega) (by omega) (by rw [List.size_toArray,← hl];exact h1) (by simpa using ew) ⟨rfl,fin⟩) hs
theorem zu1:IxR X rIxS:=by
 intro value slice pins s σ H x y v u Q I rx ry h hs
 obtain ⟨z,i,c,rfl,rfl,hz,he,q⟩:=h
 obtain ⟨t,rfl⟩:=rx
 obtain ⟨t',rfl⟩:=ry
 obtain ⟨j,h1,h2,h3,h4,h5⟩:=zlo he
 have hl:z.cps.toList.length=z.length:=by simp [Str.length]
 rw [hl] at h1 h4 h5
 have hn:=zxp
 exact tail_any (typeIs_str s z t) slot_str_getitem.lookup (getItem_str (c:=c) (by
  have e1:decide (i < -(2 ^ 63:Int))=false:=decide_eq_false (by omega)
  have e2:decide (i ≥ 2 ^ 63)=false:=decide_eq_false (by omega)
  rw [e1,e2,Bool.or_false]) (by rw [h1];simpa using h2) ⟨.str ⟨#[c]⟩,H,I.tok _,⟨_,rfl⟩,q⟩) hs
theorem zsi (lo hi:Option Int) (n:Nat):(sliceBounds lo hi none n).1=((HT.sIx n 0 lo:Nat):Int)∧(sliceBounds lo hi none n).2.1=((HT.sIx n n hi:Nat):Int)∧(sliceBounds lo hi none n).2.2=1:=by
 refine ⟨?_,?_,rfl⟩
 ·cases lo with
  | none=>simp [sliceBounds,HT.sIx]
  | some i =>
   simp only [sliceBounds,HT.sIx,Option.getD_none,show (1:Int) > 0 by decide,if_true]
   by_cases h:i<0
   ·simp only [h,if_true] <;> omega
   ·simp only [h,if_false] <;> omega
 ·cases hi with
  | none=>simp [sliceBounds,HT.sIx]
  | some i =>
   simp only [sliceBounds,HT.sIx,Option.getD_none,show (1:Int) > 0 by decide,if_true]
   by_cases h:i<0
   ·simp only [h,if_true] <;> omega
   ·simp only [h,if_false] <;> omega
theorem znh (its:List Value) (lo hi:Option Int):slicePick its.toArray lo hi none=((its.drop (HT.sIx its.length 0 lo)).take (HT.sIx its.length its.length hi - HT.sIx its.length 0 lo)).toArray:=by
 obtain ⟨h1,h2,h3⟩:=zsi lo hi its.toArray.size
 unfold slicePick
 rw [h1,h2,h3]
 simp only [sliceRange_one,pick_run,List.size_toArray] <;> rfl
noncomputable def rSlL (K:W.Frag):V→Option Int→Option Int→Hp→VK→Prop:=λ x lo hi H Q=>∃ a xs,x = .ref a∧SqL K H a xs∧∀ p,H p=none→Q (.ref p) (upd H p (.lst (cutV xs lo hi)))
theorem zrm:SlR X (rSlL X.K):=by
 intro pins s σ H x v vl vu lo hi sl Q I rx hs pl pu h
 obtain ⟨a,xs,rfl,hx,q⟩:=h
 cases rx
 obtain ⟨its,r,ht,hz⟩:=I.list hx
 have hlen:=r.length
 refine ⟨"list",_,slot_list_getitem.lookup,ht.isList.typeIs,?_⟩
 refine wpAny_getItem_list_slice ht.isList hs pl pu .none (by simp) ?_ (by rw [List.size_toArray] <;> omega)
 rw [znh,← hlen]
 refine ⟨.ref s.heap.objs.size,_,I.laid (t':=s.toks) (o := .lst (cutV xs lo hi)) (λ b ob q=>Heap.get?_push_of_some _ q) (Nat.le_refl _) ?_,rfl,q _ (I.hok.fresh (Nat.le_refl _))⟩
 exact ⟨Nat.le_trans (zjl xs lo hi) hz,_,0,(r.drop (HT.sIx xs.length 0 lo)).take (HT.sIx xs.length xs.length hi - HT.sIx xs.length 0 lo),Heap.get?_push_size _ rfl⟩
theorem zqa:zvg X (.builtin "len") (λ xs H Q=>∃ p ys,xs=[.ref p]∧(SqL X.K H p ys ∨ SqT X.K H p ys)∧Q (.int ys.length) H):=by
 intro pins s σ H xs us Q I r h
 obtain ⟨p,ys,rfl,hq,q⟩:=h
 obtain ⟨u,rfl,rx⟩:=zzm r
 cases rx
 have hn:=zxp
 rcases hq with hq | hq
 ·obtain ⟨its,r',pl,hz⟩:=I.list hq
  have hlen:=r'.length
  exact Calls.call_len_list pl.isList (by simp only [List.size_toArray] <;> omega) ⟨.int ys.length,H,I.tok _,⟨s.toks+1,by rw [List.size_toArray,hlen]⟩,q⟩
 ·obtain ⟨its,r',pl,hz⟩:=I.tuple hq
  have hlen:=r'.length
  exact len_tuple pl (by simp only [List.size_toArray] <;> omega) ⟨.int ys.length,H,I.tok _,⟨s.toks+1,by rw [List.size_toArray,hlen]⟩,q⟩
theorem zre:zvg X (.type "list") (λ xs H Q=>∃ p ys,xs=[.ref p]∧(SqL X.K H p ys ∨ SqT X.K H p ys)∧∀ l,H l=none→Q (.ref l) (upd H l (.lst ys))):=by
 intro pins s σ H xs us Q I r h
 obtain ⟨p,ys,rfl,hq,q⟩:=h
 obtain ⟨u,rfl,rx⟩:=zzm r
 cases rx
 have fin:∀ (its:List Value),Vals ys its→ys.length≤sizeLine→∀ (h':Heap) (c':Nat),(∀ b o',s.heap.get? b=some o'→h'.get? b=some o') →
   h'.get? s.heap.objs.size=some { cls := .type "list",dict:=none,data := .seq its.toArray c',slots := #[] }→EP X pins σ Q (.ref s.heap.objs.size) { s with heap:=h' }:=λ its r' hz h' c' kp e =>
  ⟨.ref s.heap.objs.size,_,I.laid (t':=s.toks) kp (Nat.le_refl _) (show ObjOk X.prog X.w _ h' _ (.lst ys) from ⟨hz,its,c',r',e⟩),rfl,q _ (I.hok.fresh (Nat.le_refl _))⟩
 rcases hq with hq | hq
 ·obtain ⟨its,r',pl,hz⟩:=I.list hq
  have hlen:=r'.length
  obtain ⟨o,ho,hc,n,hd⟩:=pl.isList
  exact call_list_seq p (.inl rfl) ho hc hd (λ h' c' kp e=>fin its r' hz h' c' kp e) (by simp only [List.size_toArray] <;> omega)
 ·obtain ⟨its,r',pl,hz⟩:=I.tuple hq
  have hlen:=r'.length
  obtain ⟨o,ho,hc,n,hd⟩:=pl
  exact call_list_seq p (.inr rfl) ho hc hd (λ h' c' kp e=>fin its r' hz h' c' kp e) (by simp only [List.size_toArray] <;> omega)
theorem zzh:zvg X (.type "tuple") (λ xs H Q=>∃ p ys,xs=[.ref p]∧((SqL X.K H p ys∧∀ l,H l=none→Q (.ref l) (upd H l (.tup ys))) ∨ (SqT X.K H p ys∧Q (.ref p) H))):=by
 intro pins s σ H xs us Q I r h
 obtain ⟨p,ys,rfl,h⟩:=h
 obtain ⟨u,rfl,rx⟩:=zzm r
 cases rx
 rcases h with ⟨hq,q⟩ | ⟨hq,q⟩
 ·obtain ⟨its,r',pl,hz⟩:=I.list hq
  have hlen:=r'.length
  refine call_tuple_list pl.isList (λ h' kp=>?_) (by simp only [List.size_toArray] <;> omega)
  have I1:Inv X pins σ H { s with heap:=h' }:=I.kept (t':=s.toks) kp
  have I2:Inv X pins σ (upd H h'.objs.size (.tup ys)) { s with heap:=h'.push { cls := .type "tuple",data := .seq its.toArray } } :=
   I1.laid (t':=s.toks) (λ b o e=>Heap.get?_push_of_some _ e) (Nat.le_refl _) (show ObjOk X.prog X.w _ _ _ (.tup ys) from ⟨hz,its,r',IsTup.new _ _⟩)
  exact ⟨.ref h'.objs.size,_,I2,rfl,q _ (I1.hok.fresh (Nat.le_refl _))⟩
 ·obtain ⟨its,r',pl,hz⟩:=I.tuple hq
  exact call_tuple_same pl ⟨.ref p,H,I,rfl,q⟩
noncomputable def tyV (K:W.Frag) (T:String) (x:V) (H:Hp):Prop:=match x with
 | .str _=>T = "str"
 | .int _=>T = "int"
 | .ref p=>(T = "list" ∧ ∃ xs,SqL K H p xs) ∨ (T = "tuple" ∧ ∃ o,K.lookup p=some o∧o.cls = .type "tuple" ∧ o.dict=none) ∨
   (T = "dict" ∧ ((∃ kvs,H p=some (.dK kvs)) ∨ ∃ kvs,H p=some (.dT kvs))) ∨ (T = "set" ∧ ∃ S n,H p=some (.set S n))
 | _=>False
theorem zpw {pins:List (Addr×Obj)} {σ:St} {H:Hp} {s:Shared} {T:String} {x:V} {v:Value} (I:Inv X pins σ H s) (r:RelV x v) (ty:tyV X.K T x H) :
  s.TypeIs v T∧∀ a,v = .ref a→∃ ob,s.heap.get? a=some ob∧ob.dict=none:=by
 cases x with
 | str z =>
  obtain ⟨t,rfl⟩:=r
  cases (show T = "str" from ty)
  exact ⟨typeIs_str s z t,λ _ e=>nomatch e⟩
 | int i =>
  obtain ⟨t,rfl⟩:=r
  cases (show T = "int" from ty)
  exact ⟨typeIs_int s i t,λ _ e=>nomatch e⟩
 | ref p =>
  cases r
  rcases ty with ⟨rfl,xs,hq⟩ | ⟨rfl,o,hk,hc,hd⟩ | ⟨rfl,hk⟩ | ⟨rfl,S,n,hk⟩
  ·obtain ⟨its,_,pl,_⟩:=I.list hq
   refine ⟨pl.isList.typeIs,λ a e=>?_⟩
   cases e
   obtain ⟨o,n,e,c,hd,_⟩:=pl
   exact ⟨o,e,hd⟩
  ·refine ⟨⟨o,I.kIn p o hk,hc⟩,λ a e=>?_⟩
   cases e
   exact ⟨o,I.kIn _ o hk,hd⟩
  ·have z:∃ o,s.heap.get? p=some o∧o.ExactDict:=by
    rcases hk with ⟨kvs,hk⟩ | ⟨kvs,hk⟩
    ·obtain ⟨_,_,_,_,o,_,_,e,ex,_⟩:=I.hok p _ hk
     exact ⟨o,e,ex⟩
    ·obtain ⟨_,_,_,_,o,_,_,e,ex,_⟩:=I.hok p _ hk
     exact ⟨o,e,ex⟩
   obtain ⟨o,e,ex⟩:=z
   refine ⟨⟨o,e,ex.1⟩,λ a e2=>?_⟩
   cases e2
   exact ⟨o,e,ex.2.1⟩
  ·obtain ⟨o,_,_,_,e,ex,_⟩:=I.hok p _ hk
   refine ⟨⟨o,e,ex.1⟩,λ a e2=>?_⟩
   cases e2
   exact ⟨o,e,ex.2.1⟩
 | _=>exact False.elim ty
noncomputable def tBM0 (K:W.Frag) (T:String) (r:V→List V→Hp→VK→Prop) (to:TE):TE:=λ σ H Q=>to σ H λ x H1=>tyV K T x H1∧r x [] H1 Q
noncomputable def tBM (K:W.Frag) (T:String) (r:V→List V→Hp→VK→Prop) (to:TE) (t:TA):TE:=λ σ H Q=>to σ H λ x H1=>tyV K T x H1∧t σ H1 λ xs H2=>r x xs H2 Q
variable {o e:Expr} {es:List Expr} {to:TE} {t:TA} {name:Str} {apos cpos:Pos} {T id:String} {r:V→List V→Hp→VK→Prop}
theorem zb2 (pa:PlainAttrs T) (slot:Slot T name id) (hty:typeOf (.builtin id)=pure (.type "method_descriptor")) (hm:MtR X id r) (ho:PE X o to)
  (hbase:attributeBase o name X.env (eval o X.env)=eval o X.env:=by rfl) (hline:(apos.endLine == cpos.line)=true:=by rfl):PE X (.Call (.Attribute o name apos) [] [] cpos) (tBM0 X.K T r to) := .mk <| by
 intro pins s σ H Q I h
 refine wpAny_Call_method0_late hbase hline (thn (ho pins s σ H _ I h) λ v s1 ⟨x,H1,I1,r1,ty,q1⟩=>?_)
 obtain ⟨h1,h2⟩:=zpw I1 r1 ty
 exact ⟨T,id,pa,slot,hty,h1,h2,Calls.callWith_builtin rfl (PySem.evalArgs_none (hm pins s1 σ H1 x [] v [] Q I1 r1 .nil q1))⟩
theorem zku (pa:PlainAttrs T) (slot:Slot T name id) (hty:typeOf (.builtin id)=pure (.type "method_descriptor")) (hm:MtR X id r) (ho:PE X o to) (ha:PA X (e::es) t)
  (hbase:attributeBase o name X.env (eval o X.env)=eval o X.env:=by rfl)
  (hfew:((backTo cpos (starEach (e::es) X.env)).all (λ x => !x.1) && (backToKw cpos (keywordEach [] X.env)).all (λ x=>x.1.isSome)
   && decide ((e::es).length+([]:List Keyword).length+(if ([]:List Keyword).isEmpty then 0 else 1)<30))=true:=by rfl)
  (hline:(apos.endLine == cpos.line)=true:=by rfl) (hs:starEach (e::es) X.env=(false,eval e X.env)::starEach es X.env:=by rfl) (hplain:(backTo cpos (starEach es X.env)).any (·.1)=false:=by rfl) :
  PE X (.Call (.Attribute o name apos) (e::es) [] cpos) (tBM X.K T r to t) := .mk <| by
 intro pins s σ H Q I h
 refine wpAny_Call_method_late hbase hfew hline rfl (thn (ho pins s σ H _ I h) λ v s1 ⟨x,H1,I1,r1,ty,q1⟩=>?_)
 obtain ⟨h1,h2⟩:=zpw I1 r1 ty
 refine ⟨T,id,pa,slot,hty,h1,h2,?_⟩
 have hA:=ha cpos pins s1 σ H1 _ I1 q1
 rw [hs] at hA ⊢
 refine Calls.callWith_builtin (by show (false || (backTo cpos (starEach es X.env)).any (·.1))=false;rw [hplain] <;> rfl) (Calls.evalArgs_plain ?_)
 exact thn hA λ us s2 ⟨vs,H2,I2,r2,q2⟩=>hm pins s2 σ H2 x vs v us Q I2 r1 r2 q2
/- xs.append(e),list.index on a module's tuple .. are MtR facts of 06m -/
end
end L2
namespace L2
open PySem PySem.Spec PyProof.Rows
noncomputable def MtM (X:Cx) (id:String) (r:V→List V→Hp→VK→Prop):Prop :=
 ∀ (pins:List (Addr×Obj)) (s:Shared) (σ:St) (H:Hp) (x:V) (xs:List V) (v:Value) (us:List Value) (Q:VK),Inv X pins σ H s→RelV x v→Vals xs us→r x xs H Q →
  wpAny (model X.prog X.w) X.A (call (.builtin id) (v::us)) (EP X pins σ Q) X.xe s
theorem Vals.one:∀ {x:V} {us:List Value},Vals [x] us→∃ u,us=[u]∧RelV x u
 | _,_,.cons r .nil=>⟨_,rfl,r⟩
theorem Vals.two:∀ {x y:V} {us:List Value},Vals [x,y] us→∃ u v,us=[u,v]∧RelV x u∧RelV y v
 | _,_,_,.cons r (.cons q .nil)=>⟨_,_,rfl,r,q⟩
theorem Vals.zero:∀ {us:List Value},Vals [] us→us=[]
 | _,.nil=>rfl
section
variable {X:Cx} {pins:List (Addr×Obj)} {σ:St} {H:Hp} {s:Shared} {l b:Addr} {xs ys zs:List V}
theorem Inv.lset {its its':List Value} {n:Nat} {f:Array Value→Array Value} {t':Nat} (I:Inv X pins σ H s) (hH:H l=some (.lst xs))
  (e:s.heap.get? l=some { cls := .type "list",data := .seq its.toArray n }) (hf:f its.toArray=its'.toArray) (hv:Vals ys its') (hz:ys.length≤sizeLine) :
  Inv X pins σ (upd H l (.lst ys)) { s with heap:=s.heap.update l (Obj.mapSeq f),toks:=t' }:=by
 have q:=PySem.IsL.update e f
 rw [hf] at q
 refine I.write (x:=l) (e:=l) (by rw [hH];exact trivial) (.inl rfl) (λ b' u hb hu=>(Heap.get?_update_other s.heap (Obj.mapSeq f) (Ne.symm hb)).trans hu) ⟨_,q⟩ ?_
 exact ⟨hz,its',_,hv,q⟩
theorem Inv.lnew {its:List Value} {t':Nat} (I:Inv X pins σ H s) (hv:Vals ys its) (hz:ys.length≤sizeLine) :
  Inv X pins σ (upd H s.heap.objs.size (.lst ys)) { s with heap:=s.heap.push { cls := .type "list",data := .seq its.toArray },toks:=t' } :=
 I.laid (λ _ _ q=>Heap.get?_push_of_some _ q) (Nat.le_refl _) ⟨hz,its,0,hv,Heap.get?_push_size _ rfl⟩
theorem Inv.fresh (I:Inv X pins σ H s):H s.heap.objs.size=none:=I.hok.fresh (Nat.le_refl _)
theorem Inv.lstM (I:Inv X pins σ H s) (hH:H l=some (.lst xs)):xs.length≤sizeLine∧∃ (its:List Value) (n:Nat),Vals xs its∧xs.length=its.length∧s.heap.get? l=some { cls := .type "list",data := .seq its.toArray n }:=by
 obtain ⟨z,its,n,r,e⟩:=I.hok l _ hH
 exact ⟨z,its,n,r,r.length,e⟩
end
section
variable {X:Cx}
noncomputable def zew:V→List V→Hp→VK→Prop:=λ x vs H Q=>∃ l xs y,x = .ref l∧vs=[y]∧H l=some (.lst xs)∧xs.length<sizeLine∧Q .non (upd H l (.lst (xs++[y])))
theorem zob:MtM X "list.append" zew:=by
 intro pins s σ H x vs v us Q I rx rv h
 obtain ⟨l,xs,y,rfl,rfl,hH,hz,q⟩:=h
 cases rx
 obtain ⟨u,rfl,ru⟩:=rv.one
 obtain ⟨z,its,n,r,hl,e⟩:=I.lstM hH
 refine call_meets F.slot_list_append ⟨_,e,rfl⟩ F.entry_list_append (F.args_list_append_2 _ _) (PySem.list_append l its.toArray n u (by rw [List.size_toArray];omega)) ⟨e,?_⟩
 refine ⟨.non,_,I.lset (its':=its++[u]) hH e (by simp) (r.append (.cons ru .nil)) ?_,rfl,q⟩
 rw [List.length_append,List.length_singleton]
 omega
noncomputable def rCat:R2:=λ x y H Q=>∃ l b xs zs,x = .ref l∧y = .ref b∧H l=some (.lst xs)∧H b=some (.lst zs)∧xs.length+zs.length≤sizeLine∧∀ p,H p=none→Q (.ref p) (upd H p (.lst (xs++zs)))
theorem zcz:OpR X (binaryOp .Add) rCat:=by
 intro pins s σ H x y v u Q I rx ry h
 obtain ⟨l,b,xs,zs,rfl,rfl,hH,hB,hz,q⟩:=h
 cases rx
 cases ry
 obtain ⟨z,its,n,r,hl,e⟩:=I.lstM hH
 obtain ⟨z2,its2,n2,r2,hl2,e2⟩:=I.lstM hB
 refine PySem.P.add_list e e2 ?_ (by rw [List.size_toArray,List.size_toArray];omega)
 have ea:its.toArray++its2.toArray=(its++its2).toArray:=by simp
 rw [ea]
 exact ⟨.ref _,_,I.lnew (t':=s.toks) (r.append r2) (by rw [List.length_append];omega),rfl,q _ I.fresh⟩
end
section
variable {prog:Program} {w:World} {A:Around} {E:Value→Shared→Prop} {s:Shared}
end
section
variable {X:Cx}
end
end L2
namespace Att
open PySem PySem.W PySem.Calls PyProof.Rows
theorem zkf {P:Params} {h:Heap}:∀ (ns:List Int) (vs:List Value),WellAll P h vs (ns.map WData.int)→IntsAre vs ns:=by
 intro ns
 induction ns with
 | nil =>
  intro vs w
  rw [List.map_nil] at w
  cases w
  exact .nil
 | cons n ns ih =>
  intro vs w
  rw [List.map_cons] at w
  cases w with
  | cons a b =>
   cases a
   exact .cons _ _ (ih _ b)
theorem zsq {l:OpenLaw} {n:Nat} (hn:l.most=some n) {P:Params} {h:Heap} {args:List WData} {vals:List Value}
  (hpre:l.row.toRowW.claim.pre args=true) (hwl:WellAll P h vals args) :
  ∃ a vs ns,vals=[Value.ref a]∧args=[WData.list (ns.map WData.int)]∧h.get? a=some { cls := .type "list",data := .seq vs.toArray }∧IntsAre vs ns∧ns.length≤n:=by
 have hsh:WShape.hasAll [] args [.list .int]=true:=(pre_splitW hpre).1
 have hc:l.pre.holds [] { args:=args }=true:=(pre_splitW hpre).2
 obtain ⟨d,r,rfl,h1,h2⟩:=hasAllW_cons hsh
 obtain rfl:=hasAllW_nil h2
 obtain ⟨xs,rfl,h3⟩:=hasW_list h1
 obtain ⟨ns,rfl⟩:=items_int h3
 have hlen:ns.length≤n:=by
  unfold OpenLaw.pre at hc
  have h4:(WTm.not (.lt (.lit (.int (n:Int))) (.len (.arg 0)))).holds [] { args:=[.list (ns.map .int)] }=true:=by
   have h4:=(holds_andW hc).1
   rw [hn] at h4
   exact h4
  have h5:=condW_of h4 (w_not (w_lt w_lit (w_len_list (w_arg rfl))))
  rw [List.length_map] at h5
  refine Nat.le_of_not_lt λ q=>?_
  have q':(n:Int)<((ns.length:Nat):Int):=by omega
  first
   | (rw [decide_eq_true q'] at h5;exact absurd h5 (by decide))
   | (simp at h5;omega)
 cases hwl with
 | cons w1 w2 =>
  cases w2
  cases w1 with
  | list ho hall=>exact ⟨_,_,ns,rfl,rfl,ho,zkf ns _ hall,hlen⟩
theorem zcq (l:OpenLaw) (args:List WData):l.row.toRowW.claim.post args (.bool true) args=true :=
 postW_of (r:=l.row.toRowW) (X:=(true == true))
  (show WShape.has [] (.bool true) .bool=true by first | rfl | decide | simp [WShape.has,WShape.arms,WShape.armsAll])
  (show (WTm.eq .res (.lit (.bool true))).value [] { args:=args,res:=some (.bool true),after:=args }=some (.bool (true == true)) from w_eq_bool (w_res rfl) w_lit) rfl
theorem attach_call {l:OpenLaw} {n:Nat} {q:Program} {loose:List Str} {XP:(Str→Option Value)→Heap→Prop} {YP:World→Heap→Prop} {d:DefRec}
  (hn:l.most=some n) (hdf:d.params.defaults=[])
  (call:∀ (w:World) (s₀ s₁:Shared) (mg mb:Str→Option Value) (fa:Addr) (o:Obj) (pm cd doc:Value) (a:Addr) (vs:List Value) (ns:List Int),
   Ground q loose [] XP w s₀ mg mb s₁.heap→YP w s₁.heap →
   s₁.heap.get? fa=some o→o.data = .func (docDef d.name d.params d.body d.scope pm cd doc)→s₁.heap.CodeRec cd d.name→mg d.name=some (.ref fa) →
   s₁.heap.get? a=some { cls := .type "list",data := .seq vs.toArray }→IntsAre vs ns→ns.length≤n→s₁.gens = #[] →
   codeAny (model l.prog w) callerA (.call (.ref fa) ⟨[.ref a],[]⟩) (λ r s'=>r = .ok (.ret (.bool true))∧OldK s₁.heap s'.heap∧s'.os=s₁.os∧AllBare s'.gens) s₁) :
  WalkO q loose XP YP l.row.toRowW d [] (λ f vs=>PySem.call f vs):=by
 intro w s₀ s₁ mg mb G Y fa o pm cd doc dV kV ho hd hcd hD hmg hg args vals as hpre hlay hrd hwl hlo
 obtain rfl:dV = .none:=Dflts.none hD hdf
 obtain rfl:kV = .none:=Dflts.noKw hD
 obtain ⟨a,vs,ns,rfl,rfl,hobj,hints,hlen⟩:=zsq hn hpre hwl
 refine enter_call (codeAny_mono (call w s₀ s₁ mg mb fa o pm cd doc a vs ns G Y ho (fd_plain hd) hcd hmg hobj hints hlen hg) λ r s' hq=>?_)
 obtain ⟨rfl,h2,h3,h4⟩:=hq
 exact ⟨.inl ⟨.bool true,.bool true,[],rfl,λ _=>rfl,.bool true,zcq l _,λ _=>⟨List.Pairwise.nil,λ _ hm=>(nomatch hm)⟩⟩,h2,h3,h4⟩
section
variable {prog:Program} {w:World} {A:Around} {E:Value→Shared→Prop} {s:Shared} {K:Frag}
end
end Att
namespace L2
open PySem PySem.Spec PyProof.Rows
theorem ztk:∀ {vs:List Value} {ns:List Int},IntsAre vs ns→Vals (ns.map V.int) vs
 | _,_,.nil=>.nil
 | _,_,.cons n t h=>.cons ⟨t,rfl⟩ (ztk h)
noncomputable def Only (H:Hp):Prop:=∀ b,H b=none ∨ ∃ o xs,H b=some (.frz o (.lst xs))
theorem zuu {P:Program} {w:World} {K:W.Frag} {mg mb:Str→Option Value} {CX:CXT} {k:Nat} {fa a:Addr} {fd:FuncData} {x:Str} {sp:Sp} {s₁:Shared} {vs:List Value} {ns:List Int}
  (KX:K.In s₁.heap) (hns:s₁.heap.Ns mainGlobals mg) (hb:s₁.heap.Ns builtinsNs mb) (hbb:∀ x:Str,x ≠ "__name__" → mb x=bootBuiltins x) (hlim:s₁.heap.NoLimit) (hg:s₁.gens = #[])
  (ha:s₁.heap.get? a=some { cls := .type "list",data := .seq vs.toArray }) (hi:IntsAre vs ns) (hl:ns.length≤sizeLine) (hr:Room k callerA)
  (F:∀ base:Heap,K.In base→base.Ns mainGlobals mg→FnOk P w K mg base CX k fa fd [x] sp) (hbind:∀ (s:Shared) (u:Value),BindsTo s fd ⟨[u],[]⟩ [(x,u)])
  (hsp:∀ H:Hp,Only H→SqL K H a (ns.map V.int)→sp [.ref a] H (λ v _=>v = .bl true) λ _ _ _=>False)
  (hCX:∀ H e s',CX [] H s₁ (λ _ _ _=>False) e s'→False) :
  codeAny (model P w) callerA (.call (.ref fa) ⟨[.ref a],[]⟩) (λ r s'=>r = .ok (.ret (.bool true))∧OldK s₁.heap s'.heap∧s'.os=s₁.os∧AllBare s'.gens) s₁:=by
 have rv:=ztk hi
 have lenV:=hi.length
 have core:∀ H:Hp,Only H→SqL K H a (ns.map V.int)→HOk P w H s₁.heap→(∀ b,H b≠none→b=a)→(H a≠none→K.lookup a=none) →
   codeAny (model P w) callerA (.call (.ref fa) ⟨[.ref a],[]⟩) (λ r s'=>r = .ok (.ret (.bool true))∧OldK s₁.heap s'.heap∧s'.os=s₁.os∧AllBare s'.gens) s₁:=by
  intro H hO hS hok hA hK
  have base_of:∀ {b:Addr} {o:Obj},s₁.heap.get? b=some o→H b=none→(hidT s₁.heap H).get? b=some o:=λ e n=>zvt e n
  have noA:∀ {b:Addr} {o:Obj} {es:Array DictEntry} {ep:Nat},s₁.heap.get? b=some o→o.data = .dict es ep→H b=none:=fun {b o es ep} e d=>by
   cases q:H b with
   | none=>rfl
   | some u =>
    have e':b=a:=hA b (by rw [q];simp)
    subst e'
    rw [ha] at e;cases e
    have d':Data.seq vs.toArray _=Data.dict es ep:=d
    cases d'
  have nsK:∀ {b:Addr} {m:Str→Option Value},s₁.heap.Ns b m→(hidT s₁.heap H).Ns b m:=fun {b m} ⟨o,es,ep,e,d,r⟩=>⟨o,es,ep,base_of e (noA e d),d,r⟩
  have hKb:K.In (hidT s₁.heap H):=λ b o e=>base_of (KX b o e) (by
   cases q:H b with
   | none=>rfl
   | some u =>
    have e':b=a:=hA b (by rw [q];simp)
    subst e'
    rw [hK (by rw [q];simp)] at e;cases e)
  have hM:Mod K mg (hidT s₁.heap H):=⟨hKb,nsK hns,⟨mb,nsK hb,hbb⟩,let ⟨mc,h1,h2⟩:=hlim; ⟨mc,nsK h1,h2⟩⟩
  have e0:Env0 P w K mg (hidT s₁.heap H) callerA [] s₁ H:=⟨rfl,hM,λ b o e=>zzv e,Nat.le_of_eq (zrp _ _),trivial,λ b hb=>absurd (show b∈([]:List Addr) from hb) (by simp),hok,.of_eq hg⟩
  refine codeAny_mono ((F _ hKb (nsK hns)).run callerA [] s₁ H ⟨[.ref a],[]⟩ [.ref a] [.ref a] _ _ hr e0 (hbind s₁ (.ref a)) (.cons rfl .nil) (hsp H hO hS)) λ r s' h=>?_
  cases r with
  | error e=>exact (hCX H e s' h).elim
  | ok fl =>
   cases fl with
   | next=>exact False.elim h
   | brk=>exact False.elim h
   | cont=>exact False.elim h
   | ret u =>
    obtain ⟨v,H',os,bare,un,hok',r',q⟩:=h
    have q':v = .bl true:=q
    subst q'
    obtain rfl:u=Value.bool true:=r'
    refine ⟨rfl,OldK.of_keep λ b o e=>?_,os,bare⟩
    cases q:H b with
    | none=>exact un.keep b o e q (by intro z;exact absurd (show b∈([]:List Addr) from z) (by simp)) (by simp)
    | some u =>
     rcases hO b with z | ⟨ob,xs,z⟩
     ·rw [q] at z;cases z
     ·have z2:=un.frzs b ob _ z
      obtain ⟨e1,_⟩:=hok b _ z
      obtain ⟨e2,_⟩:=hok' b _ z2
      rw [e] at e1;cases e1
      exact e2
 cases hk:K.lookup a with
 | some o =>
  have e:=KX a o hk
  rw [ha] at e
  cases e
  refine core (λ _=>none) (λ _=>.inl rfl) (.inr ⟨_,vs.toArray,_,hk,rfl,rfl,rfl,by rw [List.size_toArray,lenV];exact hl,by simpa using rv⟩) (λ b u z=>by have z':(none:Option HO)=some u:=z;cases z') (λ b z=>absurd rfl z) λ z=>absurd rfl z
 | none =>
  refine core (λ b=>if b=a then some (.frz { cls := .type "list",data := .seq vs.toArray } (.lst (ns.map V.int))) else none) (λ b=>?_) (.inl (.inr ⟨{ cls := .type "list",data := .seq vs.toArray },if_pos rfl⟩)) (λ b u z=>?_) (λ b z=>?_) λ _=>hk
  ·by_cases hb:b=a
   ·exact .inr ⟨_,_,if_pos hb⟩
   ·exact .inl (if_neg hb)
  ·by_cases hb:b=a
   ·have z':=(if_pos hb).symm.trans z
    cases z'
    subst hb
    exact ⟨ha,by rw [List.length_map];exact hl,vs,_,rv,ha⟩
   ·have z':=(if_neg hb).symm.trans z
    cases z'
  ·by_cases hb:b=a
   ·exact hb
   ·exact absurd (if_neg hb) z
end L2
namespace L2
open PySem PySem.Spec PyProof.Rows
theorem walk_of {l:W.OpenLaw} {n k:Nat} {q:Program} {loose:List Str} {XP:(Str→Option Value)→Heap→Prop} {YP:World→Heap→Prop} {d:DefRec} {K:Params→W.Frag} {CX:World→CXT} {sp:World→Sp} {x:Str}
  (hn:l.most=some n) (hn2:n≤sizeLine) (hdf:d.params.defaults=[]) (hr:Room k callerA)
  (hY:∀ (w:World) (h:Heap),YP w h→(K w.params).In h)
  (F:∀ (w:World) (mg:Str→Option Value) (fa:Addr) (h:Heap),(K w.params).In h→h.Ns mainGlobals mg→mg d.name=some (.ref fa) →
   ∃ fd:FuncData,(∀ (s:Shared) (u:Value),BindsTo s fd ⟨[u],[]⟩ [(x,u)]) ∧
    ∀ base:Heap,(K w.params).In base→base.Ns mainGlobals mg→FnOk l.prog w (K w.params) mg base (CX w) k fa fd [x] (sp w))
  (hsp:∀ (w:World) (H:Hp) (a:Addr) (ns:List Int),ns.length≤n→Only H→SqL (K w.params) H a (ns.map V.int)→sp w [.ref a] H (λ v _=>v = .bl true) λ _ _ _=>False)
  (hCX:∀ (w:World) (H:Hp) (s:Shared) (e:Value) (s':Shared),CX w [] H s (λ _ _ _=>False) e s'→False) :
  W.WalkO q loose XP YP l.row.toRowW d [] (λ f vs=>PySem.call f vs):=by
 refine Att.attach_call hn hdf λ w s₀ s₁ mg mb fa o pm cd doc a vs ns G Y ho hd hcd hmg hobj hints hlen hg=>?_
 have KX:=hY w _ Y
 obtain ⟨fd,hb,hF⟩:=F w mg fa _ KX G.T.g hmg
 exact zuu KX G.T.g G.T.b G.T.builtins G.T.nolimit hg hobj hints (Nat.le_trans hlen hn2) hr hF hb (λ H hO hS=>hsp w H a ns hlen hO hS) λ H e s'=>hCX w H s₁ e s'
end L2
/- THE LAST THEOREM (shape;LID,My.* are yours):
   My.Adr: a structure of the addresses that your layer names (classes,functions);My.Txt K t: a structure (Prop) of the equations over K;
   My.txt_mk:{K} {implicit addresses ..} (e1:nsIn K mainGlobals "law" = some (some (.ref f))) (e2:K.lookup f=some ⟨oc,od,.func (fnOf "law" "law" params body scope dV kV doc pm an cdv ct),sl⟩) (e3:codeIn K cdv "law" = true) .. : ∃ t,My.Txt K t
set_option maxRecDepth 100000 in
set_option maxHeartbeats 0 in
theorem PySem.Challenge.cw_LID_holds : PySem.Challenge.rw_LID.Holds := by
 w_on;o_law;k_head; (case hw=>w_witness2)
 k_fill
 refine L2.walk_of (l:=PySem.Challenge.rw_LID) (n:=63) (k:=40) (x := "script") (CX:=λ w=>..) (sp:=λ _=>My.sp_law) rfl (by decide) rfl ⟨rfl,by decide,by decide⟩ (λ w h Y=>W.kIn_of Y) ?F ?S ?C
 case F =>
  intro w mg fa h KX G hmg
  have T:∃ t,My.Txt (L2.KOf KX) t:=by
   dsimp only [L2.KOf]                          -- K must stand as «<heap const> w.params» for k_is
   refine' My.txt_mk ?e1 ?e2 ?e3 ..
   (case e1=>W.k_is)                    -- in the order: a name -> its address -> its object -> its parts
   (case e2=>W.k_is)
   ..
  obtain ⟨t,T⟩:=T
  have e0:=hmg.symm.trans (W.mg_of KX G T.law)
  cases e0                                       -- fa is the law's own address
  exact ⟨_,λ s u=>.of_eq rfl,λ base kb nb=>My.law_fn T kb nb⟩     -- if «.of_eq rfl» comes too early: refine' ⟨_,?b,λ base kb nb=>My.law_fn T kb nb⟩;exact λ s u=>.of_eq rfl
 case S=>exact λ w H a ns hl hO hS=>..
 case C=>exact ..
(the tactic k_is has no namespace: write k_is) -/
namespace L2
open PySem PySem.Spec PyProof.Rows
noncomputable def zok (s:Stmt) (j:Nat):Stmt:=match s with
 | .ClassDef _ _ _ body _ _ _ _ _ _ _=>body.getD j (.Pass ⟨0,0,0,0⟩)
 | _=>.Pass ⟨0,0,0,0⟩
noncomputable def zgi (s:Stmt):Arguments:=match s with
 | .FunctionDef _ a _ _ _ _ _ _ _ _=>a
 | _=>{ posonlyargs:=[],args:=[],vararg:=none,kwonlyargs:=[],kw_defaults:=[],kwarg:=none,defaults:=[] }
noncomputable def zye (s:Stmt):List Stmt:=match s with
 | .FunctionDef _ _ b _ _ _ _ _ _ _=>b
 | _=>[]
noncomputable def zka (s:Stmt):Scope:=match s with
 | .FunctionDef _ _ _ _ _ _ sc _ _ _=>sc
 | _=>{ kind := .function,names:=[],isGenerator:=false,isCoroutine:=false }
noncomputable abbrev E0:XK:=λ _ _ _=>False
structure Fun (K:W.Frag) (x qual:Str) (st:Stmt) (f:Addr) (fd:FuncData):Prop where
 ex:∃ (oc:Value) (od:Option Addr) (kV doc pm:Value) (an:Option Addr) (cdv ct:Value) (osl:Array (Option Value)),
  fd=W.fnOf x qual (zgi st) (zye st) (zka st) .none kV doc pm an cdv ct∧K.lookup f=some ⟨oc,od,.func fd,osl⟩∧W.codeIn K cdv qual=true
 kp:W.keepIn K (.ref f)=true
section
variable {P:Program} {w:World} {K:W.Frag} {mg:Str→Option Value} {base:Heap}
theorem Fun.binds {x qual:Str} {st:Stmt} {f:Addr} {fd:FuncData} {ps:List Str} (F:Fun K x qual st f fd)
  (h:∀ (kV doc pm:Value) (an:Option Addr) (cdv ct:Value) (us:List Value),us.length=ps.length→bindArgs (W.fnOf x qual (zgi st) (zye st) (zka st) .none kV doc pm an cdv ct) ⟨us,[]⟩=pure (ps.zip us)):Binds K fd ps []:=by
 obtain ⟨oc,od,kV,doc,pm,an,cdv,ct,osl,rfl,lk,hcd⟩:=F.ex
 exact .all (h kV doc pm an cdv ct)
theorem fun_mk {x qual:Str} {st:Stmt} {f:Addr} {oc:Value} {od an:Option Addr} {osl:Array (Option Value)} {kV doc pm cdv ct:Value} (l:K.lookup f=some ⟨oc,od,.func (W.fnOf x qual (zgi st) (zye st) (zka st) .none kV doc pm an cdv ct),osl⟩)
  (c:W.codeIn K cdv qual=true) (k:W.keepIn K (.ref f)=true):Fun K x qual st f (W.fnOf x qual (zgi st) (zye st) (zka st) .none kV doc pm an cdv ct):=⟨⟨oc,od,kV,doc,pm,an,cdv,ct,osl,rfl,l,c⟩,k⟩
end
theorem zif {A:Around} {k:Nat} (hr:Room k A):A.units+1<cLine:=Nat.lt_of_le_of_lt (Nat.add_le_add_left (by decide:1≤64) _) hr.units
theorem zoa {n:Nat} (h:n≤1000):n<sizeLine:=Nat.lt_of_le_of_lt h (by decide)
section
variable {X:Cx}
theorem pv (i:Nat) {x:Str} {pos:Pos} (hN:X.N[i]? = some x:=by rfl) (hv:Vis X.env.scope x:=by first | exact Or.inl rfl | exact Or.inr (Or.inl rfl) | exact Or.inr (Or.inr rfl)) (hd:(x == ("__debug__" : Str))=false:=by decide)
  (hcd:(x == ("__classdict__" : Str))=false:=by decide):PE X (.Name x pos) (tVar i):=zjz hN hv hd hcd
end
theorem iteF {A B:Prop} (h:B):if false=true then A else B:=by
 rw [if_neg Bool.false_ne_true]
 exact h
theorem iteT {A B:Prop} (h:A):if true=true then A else B:=by
 rw [if_pos rfl]
 exact h
theorem zk4 {c A B:Prop} [Decidable c] (hc:c) (h:B):if (!decide c)=true then A else B:=by
 rw [decide_eq_true hc]
 exact iteF h
noncomputable def Same (H H':Hp):Prop:=∀ b o,H b=some o→H' b=some o
theorem Same.refl (H:Hp):Same H H:=λ _ _ h=>h
theorem Same.trans {H H1 H2:Hp} (a:Same H H1) (b:Same H1 H2):Same H H2:=λ c o h=>b c o (a c o h)
theorem Same.free {H H':Hp} (e:Same H H') {l:Addr} (h:H' l=Option.none):H l=Option.none:=by
 cases q:H l with
 | none=>rfl
 | some o =>
  rw [e l o q] at h
  cases h
theorem Same.seq {K:W.Frag} {H H':Hp} {a:Addr} {xs:List V} (e:Same H H') (h:SqL K H a xs):SqL K H' a xs:=by
 rcases h with (h | ⟨o,h⟩) | h
 ·exact .inl (.inl (e _ _ h))
 ·exact .inl (.inr ⟨o,e _ _ h⟩)
 ·exact .inr h
end L2
namespace L2
open PySem PySem.Spec PyProof.Rows
section
variable {X:Cx} {pins:List (Addr×Obj)} {σ:St} {H:Hp} {s:Shared} {h':Heap}
theorem Inv.turnLay {t':Nat} {ch:List Addr} {T:Addr} {o:HO} (I:Inv X pins σ H s) (hf:∀ b∈ch,FpOk X pins H b)
  (k:∀ b u,b∉ch→s.heap.get? b=some u→h'.get? b=some u) (hT:s.heap.objs.size≤T)
  (new:ObjOk X.prog X.w (upd H T o) h' T o):Inv X pins σ (upd H T o) { s with heap:=h',toks:=t' }:=by
 have hn:H T=none:=I.hok.fresh hT
 have nT:∀ b u,s.heap.get? b=some u→b≠T:=λ b u e=>Nat.ne_of_lt (Nat.lt_of_lt_of_le (Heap.lt_size e) hT)
 have nch:∀ b u,H b=some u→b∉ch:=λ b u e hb=>by rw [(hf b hb).1] at e;cases e
 have nTH:∀ b u,H b=some u→b≠T:=λ b u e=>zba e hn
 refine I.step (g':=s.gens) (d':=s.drawn) (ch:=ch) (λ b hb=>?_) (λ b o _ _ hc e _=>k b o hc e) (λ b o _ _ hc e _=>⟨o.slots,k b o hc e⟩)
  (λ b u hc e n=>by rw [zga (nT b u e)];exact n) (λ b u hc e=>⟨u,k b u hc e⟩) (λ b xs e=>by rw [zga (nTH b _ e)];exact e) (λ b o' u e=>by rw [zga (nTH b _ e)];exact e)
  (λ b ps e=>⟨#[],by rw [zga (nTH b _ e),e];simp⟩) (λ m hm=>?_) (λ b u e=>?_) I.bare
 ·obtain ⟨f0,f1,f2,f3,f4,f5⟩:=hf b hb
  exact ⟨f3,f1,f4,f5⟩
 ·obtain ⟨ob,es,ep,ho,r⟩:=hm
  exact ⟨ob,es,ep,k _ ob (λ z=>(hf _ z).2.1 rfl) ho,r⟩
 ·by_cases hb:b=T
  ·subst hb;rw [upd_same] at e;cases e;exact new
  ·rw [zga hb] at e
   refine (I.hok b u e).stay (λ c v hc q=>k c v ?_ q) (λ c q=>by rw [zga (nTH c _ q)];exact q) λ c xs q=>by rw [zga (nTH c _ q)];exact q
   rcases hc with z | z
   ·rw [z];exact nch b u e
   ·exact nch c _ z
theorem Inv.turnedL {t':Nat} {ch:List Addr} (I:Inv X pins σ H s) (hf:∀ b∈ch,FpOk X pins H b)
  (k:∀ b u,b∉ch→s.heap.get? b=some u→h'.get? b=some u):Inv X pins σ H { s with heap:=h',toks:=t' }:=by
 have nch:∀ b u,H b=some u→b∉ch:=λ b u e hb=>by rw [(hf b hb).1] at e;cases e
 refine I.step (g':=s.gens) (d':=s.drawn) (ch:=ch) (λ b hb=>?_) (λ b o _ _ hc e _=>k b o hc e) (λ b o _ _ hc e _=>⟨o.slots,k b o hc e⟩)
  (λ b u hc e n=>n) (λ b u hc e=>⟨u,k b u hc e⟩) (λ b xs e=>e) (λ b o' u e=>e)
  (λ b ps e=>⟨#[],by rw [e];simp⟩) (λ m hm=>?_) (λ b u e=>?_) I.bare
 ·obtain ⟨f0,f1,f2,f3,f4,f5⟩:=hf b hb
  exact ⟨f3,f1,f4,f5⟩
 ·obtain ⟨ob,es,ep,ho,r⟩:=hm
  exact ⟨ob,es,ep,k _ ob (λ z=>(hf _ z).2.1 rfl) ho,r⟩
 ·refine (I.hok b u e).stay (λ c v hc q=>k c v ?_ q) (λ c q=>q) λ c xs q=>q
  rcases hc with z | z
  ·rw [z];exact nch b u e
  ·exact nch c _ z
end
section
variable {X:Cx} {tg:Expr}
end
noncomputable def Ite (K:W.Frag) (a:Addr):It :=
 ⟨λ i H=>∃ xs x,SqL K H a xs∧xs[i]? = some x,λ i H v H'=>∃ T y,v = .ref T∧H T=none∧H'=upd H T (.tup [.int i,y])∧∀ xs,SqL K H a xs→xs[i]? = some y,λ i H=>∃ xs,SqL K H a xs∧xs.length≤i⟩
theorem zfr {P:Program} {w:World} {K:W.Frag} {elts:List Expr} {kk:Nat} {tp:Pos} (a e it:Addr) (hne:e≠it) :
  Turn P w K (.Tuple elts kk tp) (Ite K a) [e,it] e (λ i h=>(∃ old,IsEnum h e it (i:Nat) old)∧h.IsListIter it a i) where
 mem:=by simp
 obj:=λ i h st b hb=>by
  obtain ⟨⟨old,he⟩,o,e',c,d⟩:=st
  have:b=e ∨ b=it:=by simpa using hb
  rcases this with rfl | rfl
  ·exact ⟨_,he,λ v z=>nomatch z⟩
  ·exact ⟨o,e',λ v z=>by rw [d] at z;cases z⟩
 keep:=λ i h h' st k=>⟨let ⟨old,he⟩:=st.1; ⟨old,k e (by simp) _ he⟩,st.2.at λ o q=>k it (by simp) o q⟩
 item:=by
  intro X hP hw hK hc i pins s σ H E I hf st hg
  subst hP hw hK
  obtain ⟨⟨old,he⟩,hit⟩:=st
  obtain ⟨xs,x,hq,hx⟩:=hg
  obtain ⟨its,rv,p,hz⟩:=I.list hq
  obtain ⟨u,hu,ru⟩:=rv.get hx
  have helt:e<s.heap.objs.size:=Heap.lt_size he
  refine wpAny_pyNext_enum_item he hit p.isList (x:=u) (by simpa using hu) hne λ h1 heo hit1 ht1 hz1 hk1=>?_
  refine ⟨_,rfl,wpAny_letOwnedTupleGo_enum heo λ h2 he2 hs2=>?_⟩
  have hT2:h2.get? s.heap.objs.size=some { cls := .type "tuple",data := .seq #[.int i s.toks,u] }:=(hs2.2 _ (Nat.ne_of_gt helt)).trans ht1
  have I2:Inv X pins σ (upd H s.heap.objs.size (.tup [.int i,x])) { s with heap:=h2,toks:=s.toks+1 }:=by
   refine I.turnLay (ch:=[e,it]) hf (λ b o hb q=>?_) (Nat.le_refl _) ?_
   ·have n1:b≠e:=λ z=>hb (by simp [z])
    have n2:b≠it:=λ z=>hb (by simp [z])
    exact (hs2.2 b n1).trans (hk1 b o n1 n2 q)
   ·exact ⟨by show 2≤sizeLine;decide,[.int i s.toks,u],.cons ⟨_,rfl⟩ (.cons ru .nil),⟨_,hT2,rfl,_,rfl⟩⟩
  have hn:H s.heap.objs.size=none:=I.hok.fresh (Nat.le_refl _)
  refine ⟨.ref s.heap.objs.size,_,I2,rfl,⟨_,x,rfl,hn,rfl,λ ys hy=>by rw [I.list_inj hy hq];exact hx⟩,⟨⟨u,by simpa using he2⟩,hit1.at λ o q=>(hs2.2 it (Ne.symm hne)).trans q⟩,λ b hb=>?_⟩
  have hb':b<s.heap.objs.size:=by
   have:b=e ∨ b=it:=by simpa using hb
   rcases this with rfl | rfl
   ·exact helt
   ·obtain ⟨o,q,_⟩:=hit;exact Heap.lt_size q
  rw [zga (Nat.ne_of_lt hb')]
  exact (hf b hb).1
 done:=by
  intro X hP hw hK hc i pins s σ H E I hf st hg
  subst hP hw hK
  obtain ⟨⟨old,he⟩,hit⟩:=st
  obtain ⟨xs,hq,hx⟩:=hg
  obtain ⟨its,rv,p,hz⟩:=I.list hq
  have hl:=rv.length
  exact wpAny_pyNext_enum_end (I.ok.hd hc) he hit p.isList (by simp;omega) λ h' eb=>⟨rfl,I.turnedL (t':=s.toks) hf λ b o hb q=>eb b o (λ z=>hb (by simp [z])) q⟩
 self:=λ A i s Q E st h=>by
  obtain ⟨⟨old,he⟩,hit⟩:=st
  have hT:s.TypeIs (.ref e) "enumerate" := ⟨_,he,rfl⟩
  refine wpAny_pyIter_slot hT F.slot_enumerate_iter (wpAny_call_entry F.slot_enumerate_iter hT F.entry_enumerate_iter ?_ (F.args_enumerate_iter_1 _))
  show wpAny _ _ (ret (.ref e)) _ _ s
  exact wpAny_pure ⟨_,rfl, "enumerate",_,hT,F.slot_enumerate_next.lookup,h⟩
end L2
namespace L2
open PySem PySem.Spec PyProof.Rows
section
variable {X:Cx}
noncomputable def zp4 (K:W.Frag) (ta:TA):TI:=λ σ H R=>ta σ H λ vs H1=>∃ a,vs=[.ref a]∧(∃ xs,SqL K H1 a xs)∧R (Ite K a) H1
theorem zas {elts:List Expr} {kk:Nat} {tp:Pos} {a:Expr} {ta:TA} {p pos:Pos} (hg:Gl X "enumerate") (hm:X.mg "enumerate" = none) (hb:bootBuiltins "enumerate" = some (.type "enumerate")) (ha:PA X [a] ta) (hs:starEach [a] X.env=[(false,eval a X.env)]:=by rfl) :
  PI X (.Tuple elts kk tp) (.Call (.Name "enumerate" p) [a] [] pos) (zp4 X.K ta) := .mk <| by
 intro pins s σ H R I h
 refine Call_ (zll I hg hm hb (PyProof.Rows.callWith_type1 (thn (ha pos pins s σ H _ I h) λ us s1 ⟨vs,H1,I1,r1,q1⟩=>?_) hs rfl))
 obtain ⟨b,e,⟨xs,hq⟩,q⟩:=q1
 subst e
 cases r1 with
 | cons r rr =>
  cases rr
  cases r
  obtain ⟨its,rv,pl,hz⟩:=I1.list hq
  refine call_enumerate_list pl.isList λ h' he hi hsz hk=>?_
  have I2:Inv X pins σ H1 { s1 with heap:=h' }:=I1.kept (t':=s1.toks) hk
  have T:=zfr (P:=X.prog) (w:=X.w) (K:=X.K) (elts:=elts) (kk:=kk) (tp:=tp) b (s1.heap.objs.size+1) s1.heap.objs.size (Nat.succ_ne_self _)
  have t0:(∃ old,IsEnum h' (s1.heap.objs.size+1) s1.heap.objs.size ((0:Nat):Int) old)∧h'.IsListIter s1.heap.objs.size b 0:=⟨⟨.none,by simpa using he⟩,hi⟩
  refine T.self X.A 0 _ _ _ t0 ⟨_,_,_,_,H1,rfl,I2,T,t0,λ c hc=>?_,q⟩
  have hc':s1.heap.objs.size≤c:=by
   have:c=s1.heap.objs.size+1 ∨ c=s1.heap.objs.size:=by simpa using hc
   rcases this with rfl | rfl
   ·exact Nat.le_succ _
   ·exact Nat.le_refl _
  exact I1.fpOk hc' (I1.hok.fresh hc')
end
theorem zvo {K:W.Frag} {a:Addr} {xs:List V} {g:TG} {tb:TS} {D:Ends} {σ:St} {H:Hp} (Pv:Nat→St→Hp→Prop) (h0:Pv 0 σ H) (hl:∀ i σ H,i≤xs.length→Pv i σ H→SqL K H a xs)
  (hs:∀ i x T σ H,xs[i]? = some x→Pv i σ H→H T=none→g (.ref T) σ (upd H T (.tup [.int i,x])) λ σ2 H2=>tb { D with nx:=Pv (i+1),ct:=Pv (i+1),bk:=D.nx } σ2 H2) (hd:∀ σ H,Pv xs.length σ H→D.nx σ H) :
  ∃ W:Nat→Nat→St→Hp→Prop,(∃ m,W 0 m σ H)∧∀ i m σ H,W i m σ H →
   ((Ite K a).stop i H∧D.nx σ H) ∨ ((Ite K a).go i H∧∃ N:St→Hp→Prop,(∀ σ' H',N σ' H'→∃ m',m'<m∧W (i+1) m' σ' H')∧∀ x H',(Ite K a).yld i H x H'→g x σ H' λ σ2 H2=>tb { D with nx:=N,ct:=N,bk:=D.nx } σ2 H2):=by
 refine ⟨λ i m σ H=>m=xs.length - i∧i≤xs.length∧Pv i σ H,⟨xs.length,by simp,Nat.zero_le _,h0⟩,?_⟩
 rintro i m σ H ⟨rfl,hi,p⟩
 have q:=hl i σ H hi p
 by_cases hlt:i<xs.length
 ·refine .inr ⟨⟨xs,xs[i],q,by simp [hlt]⟩,Pv (i+1),λ σ' H' p'=>⟨xs.length - (i+1),by omega,rfl,hlt,p'⟩,λ x H' y=>?_⟩
  obtain ⟨T,z,rfl,hT,rfl,y⟩:=y
  exact hs i z T σ H (y xs q) p hT
 ·have e:i=xs.length:=by omega
  subst e
  exact .inl ⟨⟨xs,q,Nat.le_refl _⟩,hd σ H p⟩
noncomputable def zgd (env:Env) (cs:List (Str×Addr)) (p:Str×NameKind):List (Str×Addr):=if p.2 = .free then (match env.cells.lookup p.1 with | some c=>(p.1,c)::cs | none=>cs) else cs
noncomputable def clOf (scope:Scope) (env:Env):List (Str×Addr):=scope.names.foldl (zgd env) []
noncomputable def zvc (scope:Scope) (env:Env):Bool :=
 scope.names.all (λ p=>p.2 != .cell) && scope.names.all (λ p=>p.2 != .local || scope.names.lookup p.1 == some .local) && scope.names.all (λ p=>p.2 != .free || (env.scope.names.lookup p.1 == some .cell || env.scope.names.lookup p.1 == some .free))
theorem zvh {env:Env}:∀ (ns:List (Str×NameKind)) (cs:List (Str×Addr)),(∀ p∈ns,p.2 = .free→∃ c,env.cells.lookup p.1=some c) →
  (forIn (m:=Sem) ns cs λ (p:Str×NameKind) (cs:List (Str×Addr))=>(if (p.2 == .free)=true then do
    let c ← cellOf env p.1
    pure (ForInStep.yield ((p.1,c)::cs)) else pure (ForInStep.yield cs)))=pure (ns.foldl (zgd env) cs)
 | [],cs,_=>rfl
 | p::ns,cs,h=>by
  rw [List.forIn_cons,List.foldl_cons]
  have ih:=zvh (env:=env) ns
  have hr:∀ q∈ns,q.2 = .free→∃ c,env.cells.lookup q.1=some c:=λ q hq=>h q (List.mem_cons_of_mem _ hq)
  by_cases hk:p.2 = .free
  ·obtain ⟨c,e⟩:=h p List.mem_cons_self hk
   have e1:(p.2 == NameKind.free)=true:=by simp [hk]
   have e2:zgd env cs p=(p.1,c)::cs:=by unfold zgd;rw [if_pos hk,e]
   have e3:cellOf env p.1=pure c:=by unfold cellOf;rw [e]
   rw [if_pos e1,e3,e2]
   exact ih _ hr
  ·have e1:¬ ((p.2 == NameKind.free)=true):=by simp [hk]
   have e2:zgd env cs p=cs:=by unfold zgd;rw [if_neg hk]
   rw [if_neg e1,e2]
   exact ih _ hr
theorem zcd {scope:Scope} {env:Env} (h:∀ p∈scope.names,p.2 = .free→∃ c,env.cells.lookup p.1=some c):closureFor scope env=pure (clOf scope env):=by
 have e:=zvh (env:=env) scope.names [] h
 have e2:=congrArg (λ (z:Sem (List (Str×Addr)))=>z >>= λ s=>pure s) e
 exact e2
theorem zyv {env:Env} {x:Str} {c:Addr}:∀ (ns:List (Str×NameKind)) (cs:List (Str×Addr)),(∀ y d,cs.lookup y=some d→env.cells.lookup y=some d)→(ns.foldl (zgd env) cs).lookup x=some c→env.cells.lookup x=some c
 | [],cs,h,e=>h x c e
 | p::ns,cs,h,e=>by
  refine zyv ns (zgd env cs p) (λ y d q=>?_) e
  unfold zgd at q
  split at q
  ·split at q
   ·rename_i c' ec
    rw [List.lookup_cons] at q
    split at q
    ·rename_i he
     have:y=p.1:=by simpa using he
     subst this;rw [← q];exact ec
    ·exact h y d q
   ·exact h y d q
  ·exact h y d q
theorem zat {env:Env} {x:Str} {c:Addr} (hx:env.cells.lookup x=some c):∀ (ns:List (Str×NameKind)) (cs:List (Str×Addr)),cs.lookup x=some c→(ns.foldl (zgd env) cs).lookup x=some c
 | [],cs,e=>e
 | p::ns,cs,e=>by
  refine zat hx ns (zgd env cs p) ?_
  unfold zgd
  split
  ·split
   ·rename_i c' ec
    rw [List.lookup_cons]
    split
    ·rename_i he
     have:x=p.1:=by simpa using he
     subst this;rw [hx] at ec;exact ec.symm
    ·exact e
   ·exact e
  ·exact e
theorem zzu {env:Env} {x:Str} {c:Addr} (hx:env.cells.lookup x=some c):∀ (ns:List (Str×NameKind)) (cs:List (Str×Addr)),(x,NameKind.free)∈ns→(ns.foldl (zgd env) cs).lookup x=some c
 | [],cs,e=>by simp at e
 | p::ns,cs,e=>by
  rcases List.mem_cons.mp e with e | e
  ·subst e
   refine zat hx ns _ ?_
   unfold zgd
   rw [if_pos rfl,hx]
   simp
  ·exact zzu hx ns _ e
theorem zwb {scope:Scope} {env:Env} (h:zvc scope env=true):∀ p∈scope.names,p.2 ≠ .cell:=λ p hp=>by
 unfold zvc at h
 simp only [Bool.and_eq_true,List.all_eq_true] at h
 simpa using h.1.1 p hp
theorem zac {scope:Scope} {env:Env} (h:zvc scope env=true):∀ p∈scope.names,p.2 = .local→scope.names.lookup p.1=some .local:=λ p hp e=>by
 unfold zvc at h
 simp only [Bool.and_eq_true,List.all_eq_true] at h
 have:=h.1.2 p hp
 rw [e] at this
 simpa using this
theorem zlb {scope:Scope} {env:Env} (h:zvc scope env=true):∀ p∈scope.names,p.2 = .free→env.kindOf p.1=some .cell ∨ env.kindOf p.1=some .free:=λ p hp e=>by
 unfold zvc at h
 simp only [Bool.and_eq_true,List.all_eq_true] at h
 have:=h.2 p hp
 rw [e] at this
 simpa [Env.kindOf] using this
theorem zid {env:Env}:∀ {names:List (Str×NameKind)} {x:Str} {k:NameKind},
  (names.map λ (n,k)=>if (k == NameKind.free && env.scope.kind == .function && env.kindOf n == some .cell) then (n,NameKind.cell) else (n,k)).lookup x=some k →
   names.lookup x=some k ∨ (names.lookup x=some .free∧k = .cell)
 | [],_,_,h=>by simp at h
 | (n,j)::r,x,k,h=>by
  have ih:=@zid env r x k
  rw [List.map_cons] at h
  by_cases hx:(x == n)=true
  ·rw [List.lookup_cons,hx]
   by_cases hc:(j == NameKind.free && env.scope.kind == .function && env.kindOf n == some .cell)=true
   ·simp only [hc,if_true] at h
    rw [List.lookup_cons,hx] at h
    have hj:j = .free:=by
     simp only [Bool.and_eq_true] at hc
     simpa using hc.1.1
    exact .inr ⟨by simp [hj],(Option.some.inj h).symm⟩
   ·simp only [hc,if_false] at h
    have h':List.lookup x ((n,j)::List.map (λ x=>if (x.snd == NameKind.free && env.scope.kind == ScopeKind.function && env.kindOf x.fst == some NameKind.cell)=true then (x.fst,NameKind.cell) else (x.fst,x.snd)) r)=some k:=by simpa using h
    rw [List.lookup_cons,hx] at h'
    exact .inl h'
  ·have hx':(x == n)=false:=by simpa using hx
   rw [List.lookup_cons,hx']
   apply ih
   by_cases hc:(j == NameKind.free && env.scope.kind == .function && env.kindOf n == some .cell)=true
   ·simp only [hc,if_true] at h
    rw [List.lookup_cons,hx'] at h
    exact h
   ·have h':List.lookup x ((n,j)::List.map (λ x=>if (x.snd == NameKind.free && env.scope.kind == ScopeKind.function && env.kindOf x.fst == some NameKind.cell)=true then (x.fst,NameKind.cell) else (x.fst,x.snd)) r)=some k:=by simpa [hc] using h
    rw [List.lookup_cons,hx'] at h'
    exact h'
theorem zue {env:Env}:∀ {names:List (Str×NameKind)} {x:Str},names.lookup x=some .free →
  ∃ k,(names.map λ (n,k)=>if (k == NameKind.free && env.scope.kind == .function && env.kindOf n == some .cell) then (n,NameKind.cell) else (n,k)).lookup x=some k∧(k = .cell ∨ k = .free)
 | [],_,h=>by simp at h
 | (n,j)::r,x,h=>by
  have ih:=@zue env r x
  by_cases hx:(x == n)=true
  ·rw [List.lookup_cons,hx] at h
   have hj:j = .free:=Option.some.inj h
   subst hj
   by_cases hc:(env.scope.kind == .function && env.kindOf n == some .cell)=true
   ·refine ⟨.cell,?_,.inl rfl⟩
    show List.lookup x ((if (NameKind.free == NameKind.free && env.scope.kind == .function && env.kindOf n == some .cell)=true then (n,NameKind.cell) else (n,NameKind.free))::_)=_
    rw [if_pos (by simpa using hc),List.lookup_cons,hx]
   ·refine ⟨.free,?_,.inr rfl⟩
    show List.lookup x ((if (NameKind.free == NameKind.free && env.scope.kind == .function && env.kindOf n == some .cell)=true then (n,NameKind.cell) else (n,NameKind.free))::_)=_
    rw [if_neg (by simpa using hc),List.lookup_cons,hx]
  ·have hx':(x == n)=false:=by simpa using hx
   rw [List.lookup_cons,hx'] at h
   obtain ⟨k,e,hk⟩:=ih h
   refine ⟨k,?_,hk⟩
   rw [List.map_cons]
   by_cases hc:(j == NameKind.free && env.scope.kind == .function && env.kindOf n == some .cell)=true
   ·simp only [hc,if_true,List.lookup_cons,hx']
    exact e
   ·show List.lookup x ((if (j == NameKind.free && env.scope.kind == .function && env.kindOf n == some .cell)=true then (n,NameKind.cell) else (n,j))::_)=_
    rw [if_neg hc,List.lookup_cons,hx']
    exact e
noncomputable def Cx.comp (X:Cx) (scope:Scope) (C:Addr) (s₀:Shared) (H₀:Hp) (fp:List Addr) (N':List Str) (E':Value→Shared→Prop):Cx :=
 { X with N:=N',s₀:=s₀,H₀:=H₀,env:=compEnvC scope (clOf scope X.env) C X.env,outer:=X.stack,ex:=fp,fn:=λ _=>false,pn:=[],xe:=E' }
noncomputable def caps (cap:List Nat) (σ:St):St:=cap.map λ j=>(σ[j]?).join
noncomputable def zwn (X:Cx) (scope:Scope) (N':List Str) (nt:Nat) (cap:List Nat):Bool :=
 (N'.length == nt+cap.length) && ((List.range cap.length).all λ j=>match cap[j]?,N'[nt+j]? with
  | some i,some x=>X.N[i]? == some x && scope.names.lookup x == some .free
  | _,_=>false)
section
variable {X:Cx}
theorem zmp {scope:Scope} {N':List Str} {nt:Nat} {cap:List Nat} (h:zwn X scope N' nt cap=true):N'.length=nt+cap.length∧∀ j i,cap[j]? = some i→∃ x,N'[nt+j]? = some x∧X.N[i]? = some x∧scope.names.lookup x=some .free:=by
 unfold zwn at h
 simp only [Bool.and_eq_true,List.all_eq_true,beq_iff_eq] at h
 refine ⟨h.1,λ j i e=>?_⟩
 have hj:j<cap.length:=(List.getElem?_eq_some_iff.mp e).1
 have q:=h.2 j (List.mem_range.mpr hj)
 rw [e] at q
 cases q2:N'[nt+j]? with
 | none=>rw [q2] at q;simp at q
 | some x =>
  rw [q2] at q
  simp only [Bool.and_eq_true,beq_iff_eq] at q
  exact ⟨x,rfl,q.1,q.2⟩
theorem zbd {pins:List (Addr×Obj)} {σ:St} {H:Hp} {s3:Shared} {scope:Scope} {fp:List Addr} {N':List Str} {nt:Nat} {cap:List Nat} {h4:Heap} {t4:Nat} {E':Value→Shared→Prop} {m:Str→Option Value}
  (I:Inv X pins σ H s3) (hk:scope.kind = .function) (hb:zvc scope X.env=true) (hc:zwn X scope N' nt cap=true) (hf:∀ b∈fp,FpOk X pins H b) (hfl:∀ b∈fp,b<s3.heap.objs.size)
  (hn:h4.Ns s3.heap.objs.size m) (kp:∀ b o,s3.heap.get? b=some o→h4.get? b=some o) :
  Inv (X.comp scope s3.heap.objs.size s3 H fp N' E') [] (List.replicate nt none++caps cap σ) H { s3 with heap:=h4,toks:=t4 }:=by
 obtain ⟨hlen,hcap⟩:=zmp hc
 have cin:∀ x c,(clOf scope X.env).lookup x=some c→X.env.cells.lookup x=some c:=λ x c e=>zyv scope.names [] (λ y d q=>by simp at q) e
 have kin:∀ x,((X.comp scope s3.heap.objs.size s3 H fp N' E').env.kindOf x=some .cell ∨ (X.comp scope s3.heap.objs.size s3 H fp N' E').env.kindOf x=some .free)→scope.names.lookup x=some .free:=λ x hx=>by
  have one:∀ k,(k=NameKind.cell ∨ k=NameKind.free)→(X.comp scope s3.heap.objs.size s3 H fp N' E').env.kindOf x=some k→scope.names.lookup x=some .free:=λ k hk' e=>by
   rcases zid (env:=X.env) (names:=scope.names) (x:=x) (k:=k) e with z | z
   ·rcases hk' with rfl | rfl
    ·exact absurd rfl (zwb hb _ (PySem.mem_of_lookup z))
    ·exact z
   ·exact z.1
  rcases hx with hx | hx
  ·exact one _ (.inl rfl) hx
  ·exact one _ (.inr rfl) hx
 have has:∀ x,scope.names.lookup x=some .free→∃ c,X.env.cells.lookup x=some c∧(clOf scope X.env).lookup x=some c:=λ x hx=>by
  have hm:=PySem.mem_of_lookup hx
  obtain ⟨c,e⟩:=I.ok.has x (zlb hb _ hm rfl)
  exact ⟨c,e,zzu e _ _ hm⟩
 refine ⟨⟨I.ok.mod,hk,I.ok.glob,I.ok.blt,Nat.le_refl _,λ x y c e1 e2=>I.ok.inj x y c (cin x c e1) (cin y c e2),λ x hx=>?_,λ x c z _=>absurd z Bool.false_ne_true,I.ok.hd,I.ok.frames,.inl rfl,λ b hb'=>⟨Nat.ne_of_lt (hfl b hb'),λ x c e=>(hf b hb').2.2.2.2.1 x c (cin x c e)⟩,
  I.bs,Nat.le_trans I.ok.bsz I.sz,λ b o e hb'=>?_,λ b hb' hs=>?_,I.stack,I.stkFree⟩,rfl,I.bare,Un.kept kp,⟨m,hn,λ i x v h1 h2 h3=>?_⟩,λ x c e=>?_,I.hok.fresh (Nat.le_refl _),λ x c e=>I.freeC x c (cin x c e),λ p hp=>absurd hp (by simp [Cx.comp]),I.hok.kept kp,?_⟩
 ·obtain ⟨c,_,e⟩:=has x (kin x hx)
  exact ⟨c,e⟩
 ·rcases (hf b hb').2.2.2.1 with z | z
  ·exact I.ok.noex b o e z
  ·exact absurd (Nat.lt_of_lt_of_le (Heap.lt_size e) (Nat.le_trans I.ok.bsz z)) (Nat.lt_irrefl _)
 ·rcases List.mem_cons.mp (I.stkSub b hs) with z | z
  ·exact (hf b hb').2.1 z
  ·exact (hf b hb').2.2.1 z
 ·have hge:nt≤i:=by
   by_cases hlt:i<nt
   ·rw [List.getElem?_append_left (by simpa using hlt),List.getElem?_replicate] at h2
    split at h2 <;> cases h2
   ·omega
  obtain ⟨j,rfl⟩:∃ j,i=nt+j:=⟨i - nt,by omega⟩
  rw [List.getElem?_append_right (by simp),List.length_replicate,Nat.add_sub_cancel_left] at h2
  unfold caps at h2
  rw [List.getElem?_map] at h2
  cases ej:cap[j]? with
  | none=>rw [ej] at h2;cases h2
  | some i' =>
   rw [ej] at h2
   have h2':(σ[i']?).join=some v:=Option.some.inj h2
   obtain ⟨x',e1,e2,e3⟩:=hcap j i' ej
   have:x'=x:=by
    have h1':N'[nt+j]? = some x:=h1
    rw [e1] at h1';exact Option.some.inj h1'
   subst this
   have hσ:σ[i']? = some (some v):=by
    cases q:σ[i']? with
    | none=>rw [q] at h2';cases h2'
    | some o=>rw [q] at h2';exact congrArg some h2'
   have hkx:=zlb hb _ (PySem.mem_of_lookup e3) rfl
   obtain ⟨m',hn',hl'⟩:=I.loc
   obtain ⟨u,ru,lk⟩:=hl' i' x' v e2 hσ (hkx.elim (λ z=>.inr (.inl z)) λ z=>.inr (.inr z))
   refine ⟨u,ru,.inr ⟨?_,?_⟩⟩
   ·obtain ⟨k,ek,hk'⟩:=zue (env:=X.env) e3
    rcases hk' with rfl | rfl
    ·exact .inl ek
    ·exact .inr ek
   ·rcases lk with ⟨kl,_⟩ | ⟨_,c,ec,icell⟩
    ·rcases hkx with z | z <;> (rw [kl] at z;cases z)
    ·exact ⟨c,zzu ec _ _ (PySem.mem_of_lookup e3),icell.keeps kp⟩
 ·obtain ⟨v,z⟩:=I.cell x c (cin x c e)
  exact ⟨v,z.keeps kp⟩
 ·show (List.replicate nt none++caps cap σ).length=N'.length
  rw [hlen]
  simp [caps]
end
end L2
namespace L2
open PySem PySem.Spec PyProof.Rows
section
variable {prog:Program} {w:World} {A:Around} {E:Value→Shared→Prop} {R:Result→Shared→Prop} {s:Shared}
theorem zqe {elt target iter:Expr} {ifs:List Expr} {scope:Scope} {pos:Pos} {it acc:Value} {env:Env} (I:Nat→Shared→Prop)
  (turn:∀ n s,I n s→wpAny (model prog w) A (pyNext it) (λ r s₁=>match r with
   | none=>R (.ok .next) s₁
   | some v=>wpAny (model prog w) A (letOwnedTupleGo target it v) (λ _ s₁'=>wpAny (model prog w) A (assign target env v) (λ _ s₂ =>
     wpAny (model prog w) A (forIn ifs true λ c r=>if r=true then do let ok ← isTrue c env (eval c env);pure (ForInStep.yield ok) else pure (ForInStep.yield r)) (λ ok s₃ =>
      if ok=true then wpAny (model prog w) A (eval elt env) (λ x s₄ =>
       wpAny (model prog w) A (call (.builtin "list.append") [acc,x]) (λ _ s₅=>∃ m,m<n∧I m s₅) (notedBy (model prog w) A env λ e s'=>R (.error e) s') s₄) (notedBy (model prog w) A env λ e s'=>R (.error e) s') s₃
      else ∃ m,m<n∧I m s₃) (notedBy (model prog w) A env λ e s'=>R (.error e) s') s₂) (notedBy (model prog w) A env λ e s'=>R (.error e) s') s₁') (notedBy (model prog w) A env λ e s'=>R (.error e) s') s₁) (notedBy (model prog w) A env λ e s'=>R (.error e) s') s)
  (n:Nat) (h:I n s):codeAny (model prog w) A (.compLoop (.ListComp elt [⟨target,iter,ifs,0⟩] scope pos) 0 it acc env) R s:=by
 refine codeAny_loop rfl I (λ n s hI=>?_) n h
 show wpAny _ A ((compTurn (.ListComp elt [⟨target,iter,ifs,0⟩] scope pos) 0 it acc env).onRaise (λ x=>do noteFrame x env;theTreesLotGoes x)) _ _ s
 refine wpAny_noted ?_
 rw [compTurn_list]
 refine wpAny_bind (wpAny_standAt (wpAny_bind (wpAny_mono (turn n s hI) (λ r s₁ h₁=>?_) λ _ _ h'=>h')))
 cases r with
 | none=>exact wpAny_pure h₁
 | some v =>
  refine wpAny_bind (wpAny_mono h₁ (λ _ s₁' h₁'=>?_) λ _ _ h'=>h')
  refine wpAny_bind (wpAny_mono h₁' (λ _ s₂ h₂=>wpAny_bind (wpAny_mono h₂ (λ ok s₃ h₃=>?_) λ _ _ h'=>h')) λ _ _ h'=>h')
  cases ok with
  | false=>exact wpAny_pure ⟨rfl,h₃⟩
  | true =>
   exact wpAny_bind (wpAny_bind (wpAny_mono h₃ (λ x s₄ h₄=>wpAny_bind (wpAny_mono h₄ (λ _ s₅ h₅=>wpAny_pure (wpAny_pure ⟨rfl,h₅⟩)) λ _ _ h'=>h')) λ _ _ h'=>h'))
end
structure PIf (X:Cx) (ifs:List Expr) (t:TT):Prop where
 run :
 ∀ (pins:List (Addr×Obj)) (s:Shared) (σ:St) (H:Hp) (Q:Bool→Hp→Prop),Inv X pins σ H s→t σ H Q →
  wpAny (model X.prog X.w) X.A (forIn ifs true λ c r=>if r=true then do let ok ← isTrue c X.env (eval c X.env);pure (ForInStep.yield ok) else pure (ForInStep.yield r)) (TP X pins σ Q) X.xe s
noncomputable instance {X:Cx} {ifs:List Expr} {t:TT}:CoeFun (PIf X ifs t) (λ _ =>
 ∀ (pins:List (Addr×Obj)) (s:Shared) (σ:St) (H:Hp) (Q:Bool→Hp→Prop),Inv X pins σ H s→t σ H Q →
  wpAny (model X.prog X.w) X.A (forIn ifs true λ c r=>if r=true then do let ok ← isTrue c X.env (eval c X.env);pure (ForInStep.yield ok) else pure (ForInStep.yield r)) (TP X pins σ Q) X.xe s
 ):=⟨λ h=>h.run⟩
noncomputable def tYes:TT:=λ _ H Q=>Q true H
noncomputable def ztw (J:It) (D:Addr) (nt:Nat) (cap:List Nat) (g:TG) (ti:TT) (te:TE) (σ:St) (H1:Hp) (Q:VK):Prop:=∃ W:Nat→Nat→List V→Hp→Prop,(∃ m,W 0 m [] (upd H1 D (.lst []))) ∧
 ∀ i m ys H2,W i m ys H2→H2 D=some (.lst ys)∧((J.stop i H2∧Q (.ref D) H2) ∨ (J.go i H2∧ys.length<sizeLine∧∀ x H3,J.yld i H2 x H3→g x (List.replicate nt none++caps cap σ) H3 λ σ4 H4=>ti σ4 H4 λ b H5 =>
  if b=true then te σ4 H5 λ y H6=>H6 D=some (.lst ys)∧∃ m',m'<m∧W (i+1) m' (ys++[y]) (upd H6 D (.lst (ys++[y]))) else ∃ m',m'<m∧W (i+1) m' ys H5))
noncomputable def zgx (wi:TI) (nt:Nat) (cap:List Nat) (g:TG) (ti:TT) (te:TE):TE:=λ σ H Q=>wi σ H λ J H1=>∀ D,H1 D=none→ztw J D nt cap g ti te σ H1 Q
noncomputable def zee (nt:Nat) (g:TG):Prop:=∀ (x:V) (c:St) (H:Hp) (Q:St→Hp→Prop),g x (List.replicate nt none++c) H Q →
 g x (List.replicate nt none++c) H λ σ' H'=>Q σ' H'∧∀ (j:Nat) v,(List.replicate nt none++c)[j]? = some (some v)→σ'[j]? = some (some v)
theorem gk1:zee 1 (zfk 0):=λ x c H Q h=>⟨h,λ j v e=>by
 cases j with
 | zero=>simp at e
 | succ j=>simpa using e⟩
theorem gk2 {K:W.Frag}:zee 2 (gTup K 2 (zep (zfk 0) (zep (zfk 1) gNil))):=λ x c H Q h=>by
 obtain ⟨a,xs,e1,hq,hl,v,r,e2,v',r',e3,e4,h⟩:=h
 refine ⟨a,xs,e1,hq,hl,v,r,e2,v',r',e3,e4,h,λ j v e=>?_⟩
 match j,e with
 | 0,e=>simp [List.replicate] at e
 | 1,e=>simp [List.replicate] at e
 | j+2,e=>simpa [List.replicate,List.set] using e
section
variable {X:Cx}
theorem zrc:PIf X [] tYes := .mk <| λ _ _ _ H _ I h=>wpAny_tests_nil ⟨H,I,h⟩
theorem zqw {c:Expr} {t:TT} (h:PT X c t):PIf X [c] t := .mk <| λ pins s σ H Q I hw=>wpAny_tests_one (h pins s σ H Q I hw)
theorem zie {pins pins':List (Addr×Obj)} {σ σ':St} {H H':Hp} {s3 s':Shared} {scope:Scope} {fp:List Addr} {N':List Str} {E':Value→Shared→Prop}
  (I3:Inv X pins σ H s3) (hf:∀ b∈fp,FpOk X pins H b) (I':Inv (X.comp scope s3.heap.objs.size s3 H fp N' E') pins' σ' H' s'):Inv X pins σ H' s':=by
 refine I3.call' (ch:=fp) I'.os I'.base I'.hok I'.bare λ b hb=>?_
 obtain ⟨f0,f1,f2,f3,f4,f5⟩:=hf b hb
 exact ⟨f3,f1,f4,f5⟩
theorem ztp {elt tg iter:Expr} {ifs:List Expr} {scope:Scope} {pos:Pos} {N':List Str} {nt:Nat} {cap:List Nat} {wi:TI} {g:TG} {ti:TT} {te:TE}
  (EK:Addr→Shared→Hp→List Addr→(Value→Shared→Prop)→Prop)
  (hE:∀ (pins:List (Addr×Obj)) (σ:St) (s3:Shared) (H3:Hp) (fp:List Addr) (Q:VK) (D:Addr),Inv X pins σ H3 s3→(∀ b∈fp,FpOk X pins H3 b) →
   EK s3.heap.objs.size s3 H3 fp (notedBy (model X.prog X.w) X.A (compEnvC scope (clOf scope X.env) s3.heap.objs.size X.env) λ e s'=>compPost (model X.prog X.w) X.A X.xe none (EP X pins σ Q) (.ref D) s3.heap.objs.size (.error e) s'))
  (hc:X.calm=true) (hi:PI X tg iter wi)
  (hg:∀ C s₀ H₀ fp E',EK C s₀ H₀ fp E'→PG (X.comp scope C s₀ H₀ fp N' E') tg g)
  (hif:∀ C s₀ H₀ fp E',EK C s₀ H₀ fp E'→PIf (X.comp scope C s₀ H₀ fp N' E') ifs ti)
  (he:∀ C s₀ H₀ fp E',EK C s₀ H₀ fp E'→PE (X.comp scope C s₀ H₀ fp N' E') elt te)
  (hk:scope.kind = .function) (hb:zvc scope X.env=true) (hcap:zwn X scope N' nt cap=true)
  (hgk:zee nt g) (hs:∀ x,foldedSetIterable iter X.env x=pure x):PE X (.ListComp elt [⟨tg,iter,ifs,0⟩] scope pos) (zgx wi nt cap g ti te) := .mk <| by
 intro pins s σ H Q I h
 rw [eval_ListComp]
 have hclos:closureFor scope X.env=pure (clOf scope X.env):=zcd λ p hp e=>I.ok.has p.1 (zlb hb p hp e)
 refine wpAny_comprehension_free (use:=none) rfl hs hclos hk (zac hb) (thn (hi pins s σ H _ I h) λ v s1 h1=>thn h1 λ itv s2 h2=>?_)
 obtain ⟨it,fp,tn,J,H2,e,I2,T,st2,f2,q2⟩:=h2
 subst e
 refine wpAny_newObj_type (wpAny_newFunctionEnv (zwb hb) (by intro y hy;simp at hy) (λ h₁ hns₁ hsb₁=>?_) hk)
 have I3:=I2.lnew (ys:=[]) (its:=[]) (t':=s2.toks) .nil (Nat.zero_le _)
 have hfl:∀ b∈fp,b<s2.heap.objs.size:=λ b hb'=>let ⟨o,e,_⟩:=T.obj 0 _ st2 b hb';Heap.lt_size e
 obtain ⟨W,⟨m0,w0⟩,turn⟩:=q2 s2.heap.objs.size (I2.hok.fresh (Nat.le_refl _))
 have nD:∀ b∈fp,b≠s2.heap.objs.size:=λ b hb'=>Nat.ne_of_lt (hfl b hb')
 have f3:∀ b∈fp,FpOk X pins (upd H2 s2.heap.objs.size (.lst [])) b:=λ b hb'=>⟨by rw [zga (nD b hb')];exact (f2 b hb').1,(f2 b hb').2⟩
 obtain ⟨s3,hs3⟩:∃ s3:Shared,s3={ s2 with heap:=s2.heap.push { cls := .type "list",data := .seq ([]:List Value).toArray },toks:=s2.toks }:=⟨_,rfl⟩
 have hs3':s3.heap=s2.heap.push { cls := .type "list",data := .seq ([]:List Value).toArray }:=by rw [hs3]
 rw [← hs3] at I3
 have hsz:s3.heap.objs.size=s2.heap.objs.size+1:=by rw [hs3',Heap.size_push]
 have hfl3:∀ b∈fp,b<s3.heap.objs.size:=λ b hb'=>by rw [hsz];exact Nat.lt_succ_of_lt (hfl b hb')
 have hC:(s2.heap.push { cls:=Value.type "list",dict:=none,data:=Data.seq ([]:List Value).toArray }).objs.size=s3.heap.objs.size:=by rw [hs3']
 dsimp only at hns₁ hsb₁ ⊢
 rw [hC] at hns₁ hsb₁ ⊢
 rw [← hs3'] at hsb₁
 have kp:∀ b o,s3.heap.get? b=some o→h₁.get? b=some o:=λ b o e=>hsb₁.extBut b o (Nat.ne_of_lt (Heap.lt_size e)) (Heap.get?_push_of_some _ e)
 have hEE:=hE pins σ s3 _ fp Q s2.heap.objs.size I3 f3
 generalize hE':(notedBy (model X.prog X.w) X.A (compEnvC scope (clOf scope X.env) s3.heap.objs.size X.env) λ e s'=>compPost (model X.prog X.w) X.A X.xe none (EP X pins σ Q) (.ref s2.heap.objs.size) s3.heap.objs.size (.error e) s')=E' at hEE
 have I4:=zbd (t4:=s2.toks+([]:List (Str×Value)).length) (E':=E') I3 hk hb hcap f3 hfl3 hns₁ kp
 have st4:tn 0 h₁:=T.keep 0 _ _ st2 λ b hb' o e=>kp b o (by rw [hs3'];exact Heap.get?_push_of_some _ e)
 obtain ⟨s4,hs4⟩:∃ s4:Shared,s4={ s3 with heap:=h₁,toks:=s2.toks+([]:List (Str×Value)).length }:=⟨_,rfl⟩
 rw [← hs4] at I4
 have st4':tn 0 s4.heap:=by rw [hs4];exact st4
 have cin:∀ x c,(clOf scope X.env).lookup x=some c→X.env.cells.lookup x=some c:=λ x c e=>zyv scope.names [] (λ y d q=>by simp at q) e
 have stat:∀ {H':Hp},(∀ b∈fp,H' b=none)→∀ b∈fp,FpOk (X.comp scope s3.heap.objs.size s3 (upd H2 s2.heap.objs.size (.lst [])) fp N' E') [] H' b:=λ hn b hb'=>by
  refine ⟨hn b hb',Nat.ne_of_lt (hfl3 b hb'),λ z=>?_,.inl hb',λ x c e=>(f3 b hb').2.2.2.2.1 x c (cin x c e),λ p hp=>absurd hp (by simp [Cx.comp])⟩
  rcases List.mem_cons.mp (I3.stkSub b z) with z | z
  ·exact (f3 b hb').2.1 z
  ·exact (f3 b hb').2.2.1 z
 have loop:codeAny (model X.prog X.w) X.A (.compLoop (.ListComp elt [⟨tg,iter,ifs,0⟩] scope pos) 0 (.ref it) (.ref s2.heap.objs.size) (compEnvC scope (clOf scope X.env) s3.heap.objs.size X.env))
   (compPost (model X.prog X.w) X.A X.xe none (EP X pins σ Q) (.ref s2.heap.objs.size) s3.heap.objs.size) s4:=by
  refine zqe (λ n s'=>∃ i ys H',Inv (X.comp scope s3.heap.objs.size s3 (upd H2 s2.heap.objs.size (.lst [])) fp N' E') [] (List.replicate nt none++caps cap σ) H' s'∧tn i s'.heap∧(∀ b∈fp,H' b=none)∧W i n ys H') ?_ m0
   ⟨0,[],_,I4,st4',λ b hb'=>(f3 b hb').1,w0⟩
  rintro n s5 ⟨i,ys,H5,I5,st5,fr5,w5⟩
  rw [hE']
  obtain ⟨hD5,alt⟩:=turn i n ys H5 w5
  rcases alt with ⟨stop,qn⟩ | ⟨go,hyl,step⟩
  ·refine thn (T.done (X.comp scope s3.heap.objs.size s3 (upd H2 s2.heap.objs.size (.lst [])) fp N' E') rfl rfl rfl hc i [] s5 _ H5 E' I5 (stat fr5) st5 stop) λ r s6 ⟨hr,I6⟩=>?_
   subst hr
   obtain ⟨m6,hn6,_⟩:=I6.loc
   refine ⟨m6,hn6,λ h' hsb'=>?_⟩
   have I7:=zie I3 f3 I6
   refine ⟨.ref s2.heap.objs.size,H5,?_,rfl,qn⟩
   refine I7.turnedL (ch:=[s3.heap.objs.size]) (t':=s6.toks) (λ b hb'=>?_) λ b u hb' e=>(hsb'.2 b λ z=>hb' (by simp [z])).trans e
   have eb:b=s3.heap.objs.size:=by simpa using hb'
   subst eb
   exact I3.fpOk (Nat.le_refl _) I6.free
  ·refine thn (T.item (X.comp scope s3.heap.objs.size s3 (upd H2 s2.heap.objs.size (.lst [])) fp N' E') rfl rfl rfl hc i [] s5 _ H5 E' I5 (stat fr5) st5 go) λ r s6 ⟨u,hr,h6⟩=>?_
   subst hr
   refine thn h6 λ _ s7 ⟨x,H7,I7,r7,y7,st7,fr7⟩=>?_
   have I7':=I7.pinned (stat fr7) (T.obj _ _ st7)
   have again:∀ {σ8:St} {H8:Hp} {ys':List V} {s8:Shared},Inv (X.comp scope s3.heap.objs.size s3 (upd H2 s2.heap.objs.size (.lst [])) fp N' E') ([]++zli fp s7.heap) σ8 H8 s8→(∃ m',m'<n∧W (i+1) m' ys' H8)→(∀ (j:Nat) v,(List.replicate nt none++caps cap σ)[j]? = some (some v)→σ8[j]? = some (some v)) →
     ∃ m,m<n∧∃ i ys H',Inv (X.comp scope s3.heap.objs.size s3 (upd H2 s2.heap.objs.size (.lst [])) fp N' E') [] (List.replicate nt none++caps cap σ) H' s8∧tn i s8.heap∧(∀ b∈fp,H' b=none)∧W i m ys H':=fun {σ8 H8 ys' s8} I8 ⟨m',hm,w8⟩ hσ=>by
    refine ⟨m',hm,i+1,ys',H8,I8.unpinned.weak (by rw [I8.len,I5.len]) hσ,T.keep _ _ _ st7 λ b hb o e=>(I8.pin (b,o) (List.mem_append_right _ (List.mem_append_right _ (zta hb e)))).1,λ b hb=>?_,w8⟩
    obtain ⟨o,e,d⟩:=T.obj _ _ st7 b hb
    exact (I8.pin (b,o) (List.mem_append_right _ (List.mem_append_right _ (zta hb e)))).2.1
   refine thn (hg _ _ _ _ _ hEE _ s7 _ H7 x u _ I7' r7 (hgk x _ H7 _ (step x H7 y7))) λ _ s8 ⟨σ8,H8,I8,q8,hσ⟩=>?_
   refine thn (hif _ _ _ _ _ hEE _ s8 σ8 H8 _ I8 q8) λ ok s9 ⟨H9,I9,q9⟩=>?_
   cases ok with
   | false =>
    rw [if_neg Bool.false_ne_true] at q9 ⊢
    exact again I9 q9 hσ
   | true =>
    rw [if_pos rfl] at q9 ⊢
    refine thn (he _ _ _ _ _ hEE _ s9 σ8 H9 _ I9 q9) λ y s10 ⟨vy,H10,I10,r10,hD10,hm10⟩=>?_
    exact thn (zob (X:=X.comp scope s3.heap.objs.size s3 (upd H2 s2.heap.objs.size (.lst [])) fp N' E') _ s10 σ8 H10 (.ref s2.heap.objs.size) [vy] (.ref s2.heap.objs.size) [y] (λ _ H'=>H'=upd H10 s2.heap.objs.size (.lst (ys++[vy]))) I10 rfl (.cons r10 .nil) ⟨_,_,_,rfl,rfl,hD10,hyl,rfl⟩) λ _ s11 ⟨_,H11,I11,_,e11⟩=>by
     subst e11
     exact again I11 hm10 hσ
 have e4:({ s2 with heap:=h₁,toks:=s2.toks+([]:List (Str×Value)).length }:Shared)=s4:=by rw [hs4,hs3]
 show codeAny _ _ _ _ { s2 with heap:=h₁,toks:=s2.toks+([]:List (Str×Value)).length }
 rw [e4]
 exact codeAny_compStart_list loop (T.self X.A 0 s4 _ _ st4' loop)
theorem zwd {elt tg iter:Expr} {ifs:List Expr} {scope:Scope} {pos:Pos} {wi:TI} {g:TG} {ti:TT} {te:TE} (N':List Str) (nt:Nat) (cap:List Nat)
  (hc:X.calm=true) (hi:PI X tg iter wi) (hgk:zee nt g)
  (hg:∀ C s₀ H₀ fp E',PG (X.comp scope C s₀ H₀ fp N' E') tg g)
  (hif:∀ C s₀ H₀ fp E',PIf (X.comp scope C s₀ H₀ fp N' E') ifs ti)
  (he:∀ C s₀ H₀ fp E',PE (X.comp scope C s₀ H₀ fp N' E') elt te)
  (hk:scope.kind = .function:=by rfl) (hb:zvc scope X.env=true:=by rfl) (hcap:zwn X scope N' nt cap=true:=by rfl)
  (hs:∀ x,foldedSetIterable iter X.env x=pure x:=by intro _;rfl):PE X (.ListComp elt [⟨tg,iter,ifs,0⟩] scope pos) (zgx wi nt cap g ti te) :=
 ztp (λ _ _ _ _ _=>True) (λ _ _ _ _ _ _ _ _ _=>trivial) hc hi (λ C s₀ H₀ fp E' _=>hg C s₀ H₀ fp E') (λ C s₀ H₀ fp E' _=>hif C s₀ H₀ fp E') (λ C s₀ H₀ fp E' _=>he C s₀ H₀ fp E') hk hb hcap hgk hs
end
theorem zyo {lo:Int} {n:Nat} {nt:Nat} {cap:List Nat} {g:TG} {te:TE} {σ:St} {H1:Hp} {Q:VK} {D:Addr} (f:Nat→V) (hx:n≤sizeLine)
  (step:∀ (i:Nat) H2 (R:VK),i<n→(∀ y,y=f i→R y H2)→g (.int (lo+i)) (List.replicate nt none++caps cap σ) H2 λ σ4 H4=>te σ4 H4 R)
  (fin:Q (.ref D) (upd H1 D (.lst ((List.range n).map f)))) :
  ztw (Itr lo n) D nt cap g tYes te σ H1 Q:=by
 refine ⟨λ i m ys H2=>m=n - i∧i≤n∧ys=(List.range i).map f∧H2=upd H1 D (.lst ys),⟨_,rfl,Nat.zero_le _,rfl,rfl⟩,?_⟩
 rintro i m ys H2 ⟨rfl,hi,rfl,rfl⟩
 refine ⟨upd_same,?_⟩
 by_cases hlt:i<n
 ·refine .inr ⟨hlt,by simp;omega,λ v H3 ⟨e,ev⟩=>?_⟩
  subst e ev
  have hst:=step i _ (λ y H6=>H6 D=some (.lst ((List.range i).map f))∧∃ m',m'<n - i∧(m'=n - (i+1)∧i+1≤n∧(List.range i).map f++[y]=(List.range (i+1)).map f∧upd H6 D (.lst ((List.range i).map f++[y]))=upd H1 D (.lst ((List.range i).map f++[y])))) hlt
   (λ y ey=>⟨upd_same,_,by omega,rfl,hlt,by rw [List.range_succ,List.map_append,ey];rfl,zcn⟩)
  simp only [tYes,if_true]
  exact hst
 ·have e:i=n:=by omega
  subst e
  exact .inl ⟨Nat.le_refl _,fin⟩
end L2
namespace L2
open PySem PySem.Spec PyProof.Rows
section
variable {X:Cx}
theorem zan:∀ {ys:List Str} {us:List Value},Vals (ys.map V.str) us→StrsAre us ys:=by
 intro ys
 induction ys with
 | nil=>intro us r;cases r;exact .nil
 | cons y ys ih =>
  intro us r
  cases r with
  | cons h t =>
   obtain ⟨k,rfl⟩:=h
   exact .cons y k (ih t)
noncomputable def zm3 (K:W.Frag):V→List V→Hp→VK→Prop:=λ x xs H Q=>∃ z p ys,x = .str z∧xs=[.ref p]∧SqL K H p (ys.map V.str)∧(ys.map (·.length)).sum+ys.length * z.length≤16777216∧Q (.str (Txt.join z ys)) H
theorem zlw:MtR X "str.join" (zm3 X.K):=by
 intro pins s σ H x xs v us Q I rx rv h
 obtain ⟨z,p,ys,rfl,rfl,hq,hl,q⟩:=h
 obtain ⟨t,rfl⟩:=rx
 obtain ⟨u,rfl,ru⟩:=rv.one
 cases ru
 obtain ⟨its,r,pl,_⟩:=I.list hq
 exact join_list pl.isList (zan r) hl λ t' k=>⟨.str (Txt.join z ys),H,I.tok k,⟨t',rfl⟩,q⟩
noncomputable def zez:V→List V→Hp→VK→Prop:=λ x xs H Q=>∃ z,x = .str z∧xs=[]∧Builtin.Str.tooLong (Txt.upper z).length=false∧Q (.str (Txt.upper z)) H
theorem ziv:MtR X "str.upper" zez:=by
 intro pins s σ H x xs v us Q I rx rv h
 obtain ⟨z,rfl,rfl,hl,q⟩:=h
 obtain ⟨t,rfl⟩:=rx
 cases rv.zero
 exact SC.upper hl ⟨.str (Txt.upper z),H,I.tok _,⟨_,rfl⟩,q⟩
theorem zbl:∀ {bs:List Bool} {us:List Value},Vals (bs.map V.bl) us→LSm.BoolsAre us bs:=by
 intro bs
 induction bs with
 | nil=>intro us r;cases r;exact .nil
 | cons b bs ih =>
  intro us r
  cases r with
  | cons h t =>
   cases h
   exact .cons b (ih t)
theorem zht (hc:X.calm=true):zvg X (.builtin "all") (λ xs H Q=>∃ (p:Addr) (bs:List Bool),xs=[.ref p]∧SqL X.K H p (bs.map V.bl)∧Q (.bl (bs.all id)) H):=by
 intro pins s σ H xs us Q I rv h
 obtain ⟨p,bs,rfl,hq,q⟩:=h
 obtain ⟨u,rfl,ru⟩:=rv.one
 cases ru
 obtain ⟨its,r,pl,_⟩:=I.list hq
 have hl:=pl.isList
 have hb:=zbl r
 have hlt:p<s.heap.objs.size:=by obtain ⟨_,e,_⟩:=hl;exact Heap.lt_size e
 refine call_all_walk (wpAny_pyIter_list hl ?_)
 refine ⟨s.heap.objs.size,[s.heap.objs.size,p],[s.heap.objs.size],its.toArray.size,_,_,λ i=>(bs[i]?).getD true,rfl,Walks.list (A:=X.A.in1) (I.ok.hd hc) _ p (Nat.ne_of_lt hlt) its.toArray,
  ⟨⟨_,Heap.get?_push_size _ rfl,rfl,rfl⟩,hl.push _⟩,λ i v s' Q' E' hP hQ=>?_,λ h' tk hk=>?_⟩
 ·obtain ⟨b,e,rfl⟩:=hb.get i v (by simpa using hP)
  simp only [e,Option.getD_some] at hQ
  exact wpAny_truthy_bool hQ
 ·have e:((List.range its.toArray.size).all λ i=>(bs[i]?).getD true)=bs.all id:=by
   rw [List.size_toArray,hb.length];exact LSm.range_all bs
  rw [e]
  exact ⟨.bl (bs.all id),H,I.kept (LSm.kept_iter hk),rfl,q⟩
end
end L2
namespace L2
open PySem PySem.Spec PyProof.Rows
noncomputable def okHO:HO→Prop
 | .dT _=>False
 | .frz _ (.lst _)=>True
 | .frz _ _=>False
 | _=>True
noncomputable def Plain (H:Hp):Prop:=∀ a o,H a=some o→okHO o
theorem Plain.upd {H:Hp} {l:Addr} {o:HO} (p:Plain H) (h:okHO o):Plain (upd H l o):=λ a u e=>by
 by_cases ha:a=l
 ·subst ha;rw [upd_same] at e;cases e;exact h
 ·rw [zga ha] at e;exact p a u e
theorem Plain.lst {H:Hp} {l:Addr} {xs:List V} (p:Plain H):Plain (L2.upd H l (.lst xs)):=p.upd trivial
theorem Plain.tup {H:Hp} {l:Addr} {xs:List V} (p:Plain H):Plain (L2.upd H l (.tup xs)):=p.upd trivial
theorem Only.plain {H:Hp} (h:Only H):Plain H:=λ a o e=>by
 rcases h a with z | ⟨o',xs,z⟩
 ·rw [z] at e;cases e
 ·rw [z] at e;cases e;exact trivial
structure Cut (H H' H'':Hp):Prop where
 sub:∀ b o,H'' b=some o→H' b=some o
 old:∀ b o,H b=some o→H'' b=H' b
 ins:∀ a C dx fs,H'' a=some (.ins C dx fs)→H'' dx=some (.own a)
 plain:Plain H''
theorem Cut.un {fs:List Addr} {H H' H'':Hp} {h h':Heap} (c:Cut H H' H'') (u:Un fs [] H H' h h'):Un fs [] H H'' h h' where
 keep:=u.keep
 slot:=u.slot
 free:=λ b o e n hx=>by
  have:=u.free b o e n hx
  cases q:H'' b with
  | none=>rfl
  | some z=>rw [c.sub b z q] at this;cases this
 there:=u.there
 tups:=λ b xs e=>by rw [c.old b _ e];exact u.tups b xs e
 frzs:=λ b o z e=>by rw [c.old b _ e];exact u.frzs b o z e
 tbls:=λ b ps e=>by rw [c.old b _ e];exact u.tbls b ps e
theorem Cut.hok {P:Program} {w:World} {H H' H'':Hp} {h:Heap} (c:Cut H H' H'') (k:HOk P w H' h):HOk P w H'' h:=λ a o e=>by
 have q:=k a o (c.sub a o e)
 cases o with
 | ins C dx fs =>
  obtain ⟨d,r⟩:=q
  exact ⟨c.ins a C dx fs e,r⟩
 | dT kvs=>exact (c.plain a _ e).elim
 | frz ob u =>
  have z:=c.plain a _ e
  cases u with
  | lst xs=>exact q
  | _=>exact z.elim
 | lst xs=>exact q
 | tup xs=>exact q
 | dK kvs=>exact q
 | set S n=>exact q
 | own x=>exact q
 | xd fs=>exact q
 | met f x=>exact q
 | rng lo hi=>exact q
 | tbl ps=>exact q
 | ext φ=>exact q
section
variable {P:Program} {w:World} {K:W.Frag} {mg:Str→Option Value} {base:Heap} {CX:CXT} {k:Nat} {f:Addr} {fd:FuncData} {ps:List Str}
theorem FnOk.cut {sp:Sp} (F:FnOk P w K mg base CX k f fd ps sp) :
  FnOk P w K mg base CX k f fd ps (λ vs H Q E=>sp vs H (λ v H'=>∃ H'',((∀ a C dx fs,H a=some (.ins C dx fs)→H dx=some (.own a))→Cut H H' H'')∧Q v H'') E) :=
 ⟨λ vs H Q E h=>F.len vs H _ E h,λ A outer s H args us vs Q E hr he hb hv h=>by
  refine codeAny_mono (F.run A outer s H args us vs _ E hr he hb hv h) λ r s' q=>?_
  cases r with
  | error e=>exact q
  | ok fl =>
   cases fl with
   | ret u =>
    obtain ⟨v,H',os,bare,un,hok,rv,H'',hc,q⟩:=q
    have c:=hc λ a C dx fs e=>(he.hok a _ e).1
    exact ⟨v,H'',os,bare,c.un un,c.hok hok,rv,q⟩
   | _=>exact q⟩
noncomputable def zit {α:Type} (Pre:α→List V→Prop) (Post:α→V→Prop):Sp:=λ vs H Q _=>Plain H∧∃ a,Pre a vs∧∀ v,Post a v→Q v H
noncomputable def zu3 {α:Type} (Pre:α→List V→Prop) (Post:α→V→Prop):Sp:=λ vs H Q _=>Plain H∧∃ a,Pre a vs∧∀ v H',Post a v→Same H H'→Q v H'
theorem FnOk.pure {α:Type} {Pre:α→List V→Prop} {Post:α→V→Prop} (F:FnOk P w K mg base CX k f fd ps (zu3 Pre Post)):FnOk P w K mg base CX k f fd ps (zit Pre Post) :=
 F.cut.imp λ vs H Q E ⟨hp,a,ha,q⟩=>⟨hp,a,ha,λ v H' hv hs=>⟨H,λ hi=>⟨hs,λ b o e=>by rw [e,hs b o e],hi,hp⟩,q v hv⟩⟩
noncomputable def za3 {α:Type} (Pre:α→List V→Prop) (Post:α→HO→Prop):Sp:=λ vs H Q _=>Plain H∧∃ a,Pre a vs∧∀ l o,H l=none→Post a o→Q (.ref l) (upd H l o)
noncomputable def zfy {α:Type} (Pre:α→List V→Prop) (Post:α→HO→Prop):Sp:=λ vs H Q _=>Plain H∧∃ a,Pre a vs∧∀ l o H',H l=none→H' l=some o→Post a o→Same H H'→Q (.ref l) H'
theorem FnOk.new {α:Type} {Pre:α→List V→Prop} {Post:α→HO→Prop} (hP:∀ a o,Post a o→(∃ xs,o = .lst xs) ∨ ∃ xs,o = .tup xs) (F:FnOk P w K mg base CX k f fd ps (zfy Pre Post)):FnOk P w K mg base CX k f fd ps (za3 Pre Post) :=
 F.cut.imp λ vs H Q E ⟨hp,a,ha,q⟩=>⟨hp,a,ha,λ l o H' hl hl' ho hs=>⟨upd H l o,λ hi=>by
  have ne:∀ b z,H b=some z→b≠l:=λ b z e=>zba e hl
  refine ⟨λ b z e=>?_,λ b z e=>by rw [zga (ne b z e),e,hs b z e],λ b C dx fs e=>?_,hp.upd ?_⟩
  ·by_cases hb:b=l
   ·subst hb;rw [upd_same] at e;rw [← e];exact hl'
   ·rw [zga hb] at e;exact hs b z e
  ·by_cases hb:b=l
   ·subst hb;rw [upd_same] at e
    have e:=Option.some.inj e
    rcases hP a o ho with ⟨xs,z⟩ | ⟨xs,z⟩ <;> (rw [z] at e;cases e)
   ·rw [zga hb] at e
    have d:=hi b C dx fs e
    rw [zga (ne dx _ d)];exact d
  ·rcases hP a o ho with ⟨xs,z⟩ | ⟨xs,z⟩ <;> (rw [z];exact trivial),q l o hl ho⟩⟩
end
theorem Same.upd {H H':Hp} {l:Addr} {o:HO} (s:Same H H') (hl:H l=none):Same H (L2.upd H' l o):=λ b z e=>by
 rw [zga (zba e hl)];exact s b z e
theorem zca {H:Hp} {l:Addr} {o:HO} (hl:H l=none):Same H (upd H l o):=(Same.refl H).upd hl
theorem zpq {p:Prop} [Decidable p] {A B:Prop} (h1:p→A) (h2:¬ p→B):if decide p=true then A else B:=by
 by_cases h:p
 ·rw [if_pos (decide_eq_true h)];exact h1 h
 ·rw [if_neg (by simpa using h)];exact h2 h
theorem zh1 {xs:List Nat} {i:Int} (h0:0≤i) (h1:i<xs.length):atI xs i=some (xs.getD i.toNat 0):=by
 obtain ⟨j,rfl⟩:∃ j:Nat,i=j:=⟨i.toNat,by omega⟩
 have hj:j<xs.length:=by omega
 exact znb (by simp [List.getElem?_eq_getElem hj])
theorem zqq (ys:List Str):(Txt.join (⟨#[]⟩:Str) ys).length≤(ys.map (·.length)).sum:=by
 have e:Txt.join (⟨#[]⟩:Str) ys=Str.join ⟨#[]⟩ ys:=by simpa using join_plain_closes (⟨#[]⟩:Str) ys
 rw [e]
 have:=StrLaws.join_length_le (⟨#[]⟩:Str) ys
 simpa [Str.length] using this
theorem zdm {n:Nat} {f:Nat→Str} (h:∀ i,(f i).length=1):(((List.range n).map f).map (·.length)).sum=n:=by
 induction n with
 | zero=>rfl
 | succ n ih=>rw [List.range_succ,List.map_append,List.map_append,List.sum_append,ih];simp [h]
theorem zzy {ns:List Int} {lo hi:Option Int} {i:Nat} {x:V} (h:(cutV (ns.map V.int) lo hi)[i]? = some x):∃ n,x=V.int n:=by
 have hm:=List.mem_of_getElem? h
 unfold cutV at hm
 have hm:=List.mem_of_mem_drop (List.mem_of_mem_take hm)
 obtain ⟨n,_,e⟩:=List.mem_map.mp hm
 exact ⟨n,e.symm⟩
noncomputable def Dig (d:Int):Prop:=0≤d∧d<10000
theorem zbt (x:Int):Dig (x % 10000):=⟨Int.emod_nonneg _ (by decide),Int.emod_lt_of_pos _ (by decide)⟩
end L2
namespace L2
open PySem PySem.Spec PyProof.Rows
structure Fly (new:Addr→Prop) (H:Hp) (x C:Addr) (h:Heap):Prop where
 ob:∃ oe vs,h.get? x=some oe∧oe.cls = .ref C∧oe.dict=none∧oe.data = .fields vs∧1<vs.size ∧
  (vs[1]? = some .none ∨ ∃ T oT ts,vs[1]? = some (.ref T)∧T≠x∧h.get? T=some oT∧oT.data = .fields ts∧3<ts.size∧new T∧H T=none)
 new:new x
 free:H x=none
theorem Fly.imp {n n':Addr→Prop} {H:Hp} {x C:Addr} {h:Heap} (f:Fly n H x C h) (k:∀ b,n b→n' b):Fly n' H x C h:=by
 obtain ⟨⟨oe,vs,a,b,c,d,e,g⟩,hn,hf⟩:=f
 refine ⟨⟨oe,vs,a,b,c,d,e,g.imp id ?_⟩,k _ hn,hf⟩
 rintro ⟨T,oT,ts,a,b,c,d,e,f,g⟩
 exact ⟨T,oT,ts,a,b,c,d,e,k _ f,g⟩
theorem zrr (o:Obj) (f:Array Value→Array Value):(o.mapFields f).dict=o.dict:=by
 obtain ⟨c,d,dt,sl⟩:=o
 cases dt <;> rfl
section
variable {M:Model} {A:Around} {E:Value→Shared→Prop} {s:Shared}
theorem zti {env env':Env} (h:env.frame=env'.frame):PySem.frameOf env=PySem.frameOf env':=by
 unfold PySem.frameOf
 rw [h]
theorem zag {env env':Env} {e:Value} (h:env.frame=env'.frame):noteFrame e env=noteFrame e env':=by
 unfold noteFrame
 rw [zti h,h]
structure Kept (x T:Addr) (frames:List Addr) (h h':Heap):Prop where
 keep:∀ b o,b≠x→b≠T→b∉frames→h.get? b=some o→h'.get? b=some o
 slot:∀ b o,b≠x→b≠T→h.get? b=some o→∃ sl,h'.get? b=some { o with slots:=sl }
theorem zgk {base:Heap} {env:Env} {outer:List Env} {L x:Addr} {oe:Obj} {vs:Array Value} {head:Value} {hadNext:Bool} {Q:Unit→Shared→Prop}
  (hfr:A.frames=some (env::outer)) (hl:s.heap.FunFrames base (env::outer)) (hf:env.frame=some L)
  (he:s.heap.get? x=some oe) (hd:oe.data = .fields vs) (hz:1<vs.size)
  (h:∀ h' T,(∃ oe' vs',h'.get? x=some oe'∧oe'.cls=oe.cls∧oe'.dict=oe.dict∧oe'.data = .fields vs'∧1<vs'.size∧vs'[1]? = some (.ref T))→(∃ oT ts,h'.get? T=some oT∧oT.data = .fields ts∧3<ts.size)→s.heap.objs.size≤T →
   Kept x x (frs (env::outer)) s.heap h'→Q () { s with heap:=h' }) :
  wpAny M A (do let a ← PySem.frameOf env;let pl ← entryPlaceOf L hadNext;let b ← EntryCells.newEntry head a .none (rawInt L) .none pl;setField (.ref x) 1 b) Q E s:=by
 have xnf:x∉(env::outer).filterMap (·.frame):=λ hm=>by
  obtain ⟨_,o,ho,hnf⟩:=hl.mem hm
  rw [he] at ho
  cases ho
  exact hnf vs hd
 refine wpAny_bind (wpAny_frameOf_fun hfr hl hf λ h1 g1=>?_)
 refine wpAny_bind (wpAny_entryPlaceOf λ pl hpl=>?_)
 unfold EntryCells.newEntry newFields
 refine wpAny_bind (wpAny_newObj_type ?_ (hpl.sizeOk5 _ _ _ _ _))
 have e1:h1.get? x=some oe:=(g1.2.1 x xnf).trans he
 have lt1:x<h1.objs.size:=Heap.lt_size e1
 have e2:=Heap.get?_push_of_some (h:=h1) { cls := .type "traceback",dict:=none,data := .fields ([head,.ref L,.none,rawInt L,.none]++(if pl.isEmpty then List.replicate 6 Value.none else pl)).toArray } e1
 have dm:=Obj.data_mapFields hd (·.setIfInBounds 1 (Value.ref h1.objs.size))
 refine wpAny_setField e2 hd hz (h _ h1.objs.size ⟨_,_,Heap.get?_update_self _ e2 (Obj.isFreed_of_fields dm),Obj.cls_mapFields _ _,zrr _ _,dm,by simpa using hz,by simp [hz]⟩
  ⟨_,_,(Heap.get?_update_other _ _ (Nat.ne_of_lt lt1)).trans (Heap.get?_push_size _ rfl),rfl,by simp only [List.size_toArray,List.length_append,List.length_cons];omega⟩ (by rw [g1.1];exact Nat.le_refl _) ⟨λ b o bx _ bf eb=>?_,λ b o bx _ eb=>?_⟩)
 ·rw [Heap.get?_update_other _ _ (Ne.symm bx)]
  exact Heap.get?_push_of_some _ ((g1.2.1 b bf).trans eb)
 ·obtain ⟨sl,q⟩:=g1.2.2 b o eb
  exact ⟨sl,by rw [Heap.get?_update_other _ _ (Ne.symm bx)];exact Heap.get?_push_of_some _ q⟩
end
section
variable {X:Cx} {σ:St} {H:Hp} {s:Shared} {x C:Addr}
noncomputable def Cx.new (X:Cx) (b:Addr):Prop:=(∀ o,X.s₀.heap.get? b=some o→b∈X.ex)∧∀ p∈X.pn,p.1≠b
theorem Inv.stepN {h':Heap} {t':Nat} {ch:List Addr} (I:Inv X [] σ H s) (hch:∀ b∈ch,X.new b∧H b=none∧b≠X.env.locals∧∀ y c,X.env.cells.lookup y=some c→c≠b)
  (keep:∀ b o,b∉ch→b∉frs X.stack→s.heap.get? b=some o→h'.get? b=some o) (slot:∀ b o,b∉ch→s.heap.get? b=some o→∃ sl,h'.get? b=some { o with slots:=sl }) :
  Inv X [] σ H { s with heap:=h',toks:=t' }:=by
 have old:∀ b o,X.s₀.heap.get? b=some o→b∉X.ex→b∉ch:=λ b o e hx hb=>hx ((hch b hb).1.1 o e)
 have neL:∀ b o,X.s₀.heap.get? b=some o→b≠X.env.locals:=λ b o e=>Nat.ne_of_lt (Nat.lt_of_lt_of_le (Heap.lt_size e) I.ok.above)
 have trk:∀ b u,H b=some u→b∉ch:=λ b u e hb=>by have:=(hch b hb).2.1;rw [e] at this;cases this
 have trs:∀ b u,H b=some u→b∉frs X.stack:=λ b u e hb=>by have:=I.stkFree b hb;rw [e] at this;cases this
 have nfs:∀ b,b≠X.env.locals→b∉X.fs→b∉frs X.stack:=λ b h1 h2 z=>(List.mem_cons.mp (I.stkSub b z)).elim h1 h2
 have cellK:∀ y c,X.env.cells.lookup y=some c→∀ v,s.heap.IsCell c v→h'.IsCell c v:=λ y c e v ⟨o,ho,hd⟩=>by
  obtain ⟨sl,q⟩:=slot c o (λ z=>(hch c z).2.2.2 y c e rfl) ho
  exact ⟨_,q,hd⟩
 refine ⟨I.ok,I.os,I.bare,⟨λ b o e n hb hx=>?_,λ b o e n hb hx=>?_,I.base.free,λ b o e hx=>?_,I.base.tups,I.base.frzs,I.base.tbls⟩,?_,λ y c e=>?_,I.free,I.freeC,λ p hp=>?_,λ b u e=>?_,I.len⟩
 ·exact keep b o (old b o e hx) (nfs b (neL b o e) hb) (I.base.keep b o e n hb hx)
 ·obtain ⟨sl,q⟩:=I.base.slot b o e n hb hx
  obtain ⟨sl',q'⟩:=slot b _ (old b o e hx) q
  exact ⟨sl',q'⟩
 ·obtain ⟨o',q⟩:=I.base.there b o e hx
  obtain ⟨sl,q'⟩:=slot b o' (old b o e hx) q
  exact ⟨_,q'⟩
 ·obtain ⟨m,⟨o,es,ep,ho,r⟩,hl⟩:=I.loc
  obtain ⟨sl,q⟩:=slot _ o (λ z=>(hch _ z).2.2.1 rfl) ho
  refine ⟨m,⟨_,es,ep,q,r⟩,λ i y v e1 e2 e3=>?_⟩
  obtain ⟨u,ru,lk⟩:=hl i y v e1 e2 e3
  exact ⟨u,ru,lk.imp id λ ⟨k,c,e,z⟩=>⟨k,c,e,cellK y c e _ z⟩⟩
 ·obtain ⟨v,z⟩:=I.cell y c e
  exact ⟨v,cellK y c e v z⟩
 ·obtain ⟨e,n,ne,nf,d⟩:=I.pin p hp
  have hp':p∈X.pn:=by simpa using hp
  exact ⟨keep p.1 p.2 (λ z=>(hch p.1 z).1.2 p hp' rfl) (nfs p.1 ne nf) e,n,ne,nf,d⟩
 ·refine (I.hok b u e).stay (λ c v hc q=>?_) (λ _ q=>q) λ _ _ q=>q
  rcases hc with rfl | hc
  ·exact keep c v (trk c u e) (trs c u e) q
  ·exact keep c v (trk c _ hc) (trs c _ hc) q
theorem Inv.fieldsNe (I:Inv X [] σ H s) {b:Addr} {o:Obj} {vs:Array Value} (e:s.heap.get? b=some o) (d:o.data = .fields vs):b≠X.env.locals∧(∀ y c,X.env.cells.lookup y=some c→c≠b)∧b∉frs X.stack:=by
 refine ⟨λ z=>?_,λ y c ec z=>?_,λ z=>?_⟩
 ·obtain ⟨m,⟨o',es,ep,ho,r,_⟩,_⟩:=I.loc
  rw [← z,e] at ho
  cases ho
  rw [d] at r
  cases r
 ·obtain ⟨v,o',ho,hd⟩:=I.cell y c ec
  rw [z,e] at ho
  cases ho
  rw [d] at hd
  cases hd
 ·obtain ⟨_,o',ho,hnf⟩:=I.stack.mem z
  rw [e] at ho
  cases ho
  exact hnf vs d
theorem Inv.kept2 {h':Heap} {T:Addr} (I:Inv X [] σ H s) (F:Fly X.new H x C s.heap) (hT:T=x ∨ ∃ oe vs oT ts,s.heap.get? x=some oe∧oe.data = .fields vs∧vs[1]? = some (.ref T)∧s.heap.get? T=some oT∧oT.data = .fields ts)
  (k:Kept x T (frs X.stack) s.heap h'):Inv X [] σ H { s with heap:=h' }:=by
 obtain ⟨oe,vs,e,_,_,d,_,tb⟩:=F.ob
 have one:X.new x∧H x=none∧x≠X.env.locals∧∀ y c,X.env.cells.lookup y=some c→c≠x:=⟨F.new,F.free,(I.fieldsNe e d).1,(I.fieldsNe e d).2.1⟩
 have two:X.new T∧H T=none∧T≠X.env.locals∧∀ y c,X.env.cells.lookup y=some c→c≠T:=by
  rcases hT with rfl | ⟨oe',vs',oT,ts,e',d',v',eT,dT⟩
  ·exact one
  ·rw [e] at e'
   cases e'
   rw [d] at d'
   cases d'
   rcases tb with z | ⟨T',oT',ts',v,_,_,_,_,hn,hf⟩
   ·rw [z] at v';cases v'
   ·rw [v] at v'
    cases v'
    exact ⟨hn,hf,(I.fieldsNe eT dT).1,(I.fieldsNe eT dT).2.1⟩
 refine I.stepN (ch:=[x,T]) (λ b hb=>?_) (λ b o hb hs q=>k.keep b o (λ z=>hb (by simp [z])) (λ z=>hb (by simp [z])) hs q) λ b o hb q=>k.slot b o (λ z=>hb (by simp [z])) (λ z=>hb (by simp [z])) q
 have:b=x ∨ b=T:=by simpa using hb
 rcases this with rfl | rfl
 ·exact one
 ·exact two
structure Cx.Top (X:Cx):Prop where
 top:∃ env outer L,X.stack=env::outer∧env.frame=some L∧X.env.frame=some L
theorem Cx.newAt {X:Cx} {σ:St} {H:Hp} {s:Shared} (I:Inv X [] σ H s) {T:Addr} (h:s.heap.objs.size≤T):X.new T:=by
 refine ⟨λ o q=>?_,λ p hp z=>?_⟩
 ·exact absurd (Nat.lt_of_lt_of_le (Heap.lt_size q) (Nat.le_trans I.sz h)) (Nat.lt_irrefl _)
 ·have:=Heap.lt_size (I.pin p (List.mem_append_left _ hp)).1
  rw [z] at this
  exact absurd (Nat.lt_of_lt_of_le this h) (Nat.lt_irrefl _)
theorem zin {E:Value→Shared→Prop} {Q:Unit→Shared→Prop} (I:Inv X [] σ H s) (tp:X.Top) (F:Fly X.new H x C s.heap)
  (h:∀ h',Inv X [] σ H { s with heap:=h' }→Fly X.new H x C h'→(∃ oe vs T,h'.get? x=some oe∧oe.data = .fields vs∧vs[1]? = some (.ref T))→Q () { s with heap:=h' }) :
  wpAny (model X.prog X.w) X.A (noteFrame (.ref x) X.env) Q E s:=by
 obtain ⟨env,outer,L,hst,hf,hfe⟩:=tp.top
 have hfr:X.A.frames=some (env::outer):=by rw [I.ok.frames,hst]
 have hl:s.heap.FunFrames X.base (env::outer):=by rw [← hst];exact I.stack
 obtain ⟨oe,vs,e,ec,ed,d,z,tb⟩:=id F.ob
 rw [zag (show X.env.frame=env.frame by rw [hfe,hf])]
 unfold noteFrame
 simp only [hf]
 rcases tb with v | ⟨T,oT,ts,v,nx,eT,dT,zT,hn,hfT⟩
 ·refine wpAny_bind (wpAny_field e d v ?_)
  rw [if_neg (by decide)]
  refine zgk hfr hl hf e d z λ h' T ⟨oe',vs',a1,a2,a3,a4,a5,a6⟩ ⟨oT,ts,b1,b2,b3⟩ hz k=>?_
  rw [← hst] at k
  refine h h' (I.kept2 F (.inl rfl) k) ⟨⟨oe',vs',a1,a2.trans ec,a3.trans ed,a4,a5,.inr ⟨T,oT,ts,a6,?_,b1,b2,b3,Cx.newAt I hz,I.hok.fresh hz⟩⟩,F.new,F.free⟩ ⟨_,_,_,a1,a4,a6⟩
  exact Nat.ne_of_gt (Nat.lt_of_lt_of_le (Heap.lt_size e) hz)
 ·refine wpAny_bind (wpAny_field e d v ?_)
  rw [if_pos (show (Value.ref T != Value.none)=true from by simp)]
  have v3:ts[3]? = some ts[3]:=by simp [zT]
  refine wpAny_bind (wpAny_field eT dT v3 ?_)
  by_cases hq:(ts[3] == rawInt L)=true
  ·rw [if_pos hq]
   exact wpAny_pure (h s.heap I F ⟨_,_,_,e,d,v⟩)
  ·rw [if_neg hq]
   refine wpAny_bind (wpAny_setField eT dT zT ?_)
   have oth:∀ b,b≠T→(s.heap.update T (Obj.mapFields (·.setIfInBounds 3 Value.none))).get? b=s.heap.get? b:=λ b hb=>Heap.get?_update_other _ _ (Ne.symm hb)
   have e2:(s.heap.update T (Obj.mapFields (·.setIfInBounds 3 Value.none))).get? x=some oe:=(oth x (Ne.symm nx)).trans e
   have hl2:(s.heap.update T (Obj.mapFields (·.setIfInBounds 3 Value.none))).FunFrames X.base (env::outer):=hl.of_keeps λ b o ho hnf=>⟨o,(oth b λ q=>by rw [q,eT] at ho;cases ho;exact hnf ts dT).trans ho,rfl⟩
   refine zgk (s:={ s with heap:=s.heap.update T (Obj.mapFields (·.setIfInBounds 3 Value.none)) }) hfr hl2 hf e2 d z λ h' T' ⟨oe',vs',a1,a2,a3,a4,a5,a6⟩ ⟨oT',ts',b1,b2,b3⟩ hz k=>?_
   rw [← hst] at k
   have hz':s.heap.objs.size≤T':=by
    have e3:(s.heap.update T (Obj.mapFields (·.setIfInBounds 3 Value.none))).objs.size=s.heap.objs.size:=Heap.size_after_update ..
    have hz2:(s.heap.update T (Obj.mapFields (·.setIfInBounds 3 Value.none))).objs.size≤T':=hz
    omega
   have k':Kept x T (frs X.stack) s.heap h':=⟨λ b o b1 b2 b3 q=>k.keep b o b1 b1 b3 ((oth b b2).trans q),λ b o b1 b2 q=>k.slot b o b1 b1 ((oth b b2).trans q)⟩
   refine h h' (I.kept2 F (.inr ⟨_,_,_,_,e,d,v,eT,dT⟩) k') ⟨⟨oe',vs',a1,a2.trans ec,a3.trans ed,a4,a5,.inr ⟨T',oT',ts',a6,?_,b1,b2,b3,Cx.newAt I hz',I.hok.fresh hz'⟩⟩,F.new,F.free⟩ ⟨_,_,_,a1,a4,a6⟩
   exact Nat.ne_of_gt (Nat.lt_of_lt_of_le (Heap.lt_size e) hz')
theorem zef {A:Around} {E:Value→Shared→Prop} {Q:Unit→Shared→Prop} {f:Option Addr} (I:Inv X [] σ H s) (F:Fly X.new H x C s.heap) (ht:∃ oe vs T,s.heap.get? x=some oe∧oe.data = .fields vs∧vs[1]? = some (.ref T))
  (h:∀ h',Inv X [] σ H { s with heap:=h' }→Fly X.new H x C h'→(∃ oe vs T,h'.get? x=some oe∧oe.data = .fields vs∧vs[1]? = some (.ref T))→Q () { s with heap:=h' }) :
  wpAny (model X.prog X.w) A (setFlight (.ref x) f) Q E s:=by
 obtain ⟨oe,vs,e,ec,ed,d,z,tb⟩:=id F.ob
 obtain ⟨oe',vs',T,e',d',v⟩:=ht
 rw [e] at e'
 cases e'
 rw [d] at d'
 cases d'
 rcases tb with v' | ⟨T',oT,ts,v',nx,eT,dT,zT,hn,hfT⟩
 ·rw [v'] at v;cases v
 rw [v'] at v
 cases v
 unfold setFlight
 refine wpAny_bind (wpAny_field e d v' ?_)
 rw [if_pos (show (Value.ref T != Value.none)=true from by simp)]
 refine wpAny_setField eT dT zT ?_
 have oth:∀ b,b≠T→(s.heap.update T (Obj.mapFields (·.setIfInBounds 3 (f.elim Value.none λ f=>rawInt f)))).get? b=s.heap.get? b:=λ b hb=>Heap.get?_update_other _ _ (Ne.symm hb)
 have dm:=Obj.data_mapFields dT (·.setIfInBounds 3 (f.elim Value.none λ f=>rawInt f))
 have e2:=(oth x (Ne.symm nx)).trans e
 refine h _ (I.kept2 F (.inr ⟨_,_,_,_,e,d,v',eT,dT⟩) ⟨λ b o _ b2 _ q=>(oth b b2).trans q,λ b o _ b2 q=>⟨o.slots,(oth b b2).trans q⟩⟩)
  ⟨⟨oe,vs,e2,ec,ed,d,z,.inr ⟨T,_,_,v',nx,Heap.get?_update_self _ eT (Obj.isFreed_of_fields dm),dm,by simpa using zT,hn,hfT⟩⟩,F.new,F.free⟩ ⟨_,_,_,e2,d,v'⟩
end
end L2
namespace L2
open PySem PySem.Spec PyProof.Rows
noncomputable def CX1 (P:Program) (w:World) (base:Heap):CXT:=λ outer H s E e s'=>∃ (x C:Addr) (H':Hp),e = .ref x∧s'.os=s.os∧AllBare s'.gens∧Un (frs outer) [] H H' s.heap s'.heap∧HOk P w H' s'.heap ∧
 Fly (λ b=>s.heap.get? b=none) H' x C s'.heap∧E (.ref C) none H'
noncomputable def Wants (X:Cx) (E:XK):Prop:=∀ (σ:St) (H':Hp) (s':Shared) (x C:Addr),Inv X [] σ H' s'→Fly X.new H' x C s'.heap→E (.ref C) none H'→X.xe (.ref x) s'
theorem zo1 {X:Cx} {pins:List (Addr×Obj)} {σ:St} {H:Hp} {s:Shared} (I:Inv X pins σ H s) {b:Addr} (h:s.heap.get? b=none):X.new b:=by
 refine ⟨λ o e=>?_,λ p hp z=>?_⟩
 ·by_cases hx:b∈X.ex
  ·exact hx
  ·obtain ⟨o',q⟩:=I.base.there b o e hx
   rw [h] at q
   cases q
 ·have:=(I.pin p (List.mem_append_left _ hp)).1
  rw [z,h] at this
  cases this
theorem Inv.nopins {X:Cx} {pins:List (Addr×Obj)} {σ:St} {H:Hp} {s:Shared} (I:Inv X pins σ H s):Inv X [] σ H s:=I.pins_of λ p hp=>absurd hp (by simp)
theorem Wants.passes {X:Cx} {E:XK} (W:Wants X E):zyf (CX1 X.prog X.w X.base) X E:=λ pins σ H s e s' I ⟨x,C,H',ee,os,bare,un,hok,F,q⟩=>by
 subst ee
 have J:Inv X pins σ H' s':=I.call' (ch:=[]) os un hok bare λ b z=>absurd z (by simp)
 exact W σ H' s' x C J.nopins (F.imp λ b hb=>zo1 I hb) q
theorem zec {P:Program} {w:World} {base:Heap} {X:Cx}:zyf (CX1 P w base) X E0:=λ _ _ _ _ _ _ _ ⟨_,_,_,_,_,_,_,_,_,q⟩=>q.elim
theorem zze {P:Program} {w:World} {K:W.Frag} {mg:Str→Option Value} {base:Heap} {N:List Str} {qual:Str} {scope:Scope} {f:Addr} {cd:Value} {A:Around} {outer:List Env} {s:Shared} {H:Hp} {E:XK} :
  Wants (cxOf (CX1 P w base) P w K mg base N qual scope f cd A outer s H E) E:=λ σ H' s' x C I F q=>by
 refine wpAny_bind (zin I ⟨⟨_,_,_,rfl,rfl,rfl⟩⟩ F λ h1 I1 F1 t1=>?_)
 refine zef I1 F1 t1 λ h2 I2 F2 _=>?_
 refine ⟨x,C,H',rfl,I2.os,I2.bare,I2.base,I2.hok,F2.imp λ b hb=>?_,q⟩
 cases e:s.heap.get? b with
 | none=>rfl
 | some o=>exact absurd (hb.1 o e) (by simp [cxOf])
section
variable {P:Program} {w:World} {K:W.Frag} {mg:Str→Option Value} {base:Heap}
theorem Fun.okX {x qual:Str} {st:Stmt} {f:Addr} {fd:FuncData} {N ps:List Str} {k:Nat} {sp:Sp} (F:Fun K x qual st f fd) (S:FnScope N ps (zka st)) (len:∀ vs H Q E,sp vs H Q E→vs.length=ps.length)
  (hbody:∀ (cdv:Value) (A:Around) (outer:List Env) (s:Shared) (H:Hp) (vs:List V) (Q:VK) (E:XK),Room k (A.deeper (envOfC qual (zka st) s.heap.objs.size f cdv))→sp vs H Q E →
   ∃ t,PSs (cxOf (CX1 P w base) P w K mg base N qual (zka st) f cdv A outer s H E) (zye st) t∧t { nx:=λ _ H'=>Q .non H',rt:=Q } (zjr N vs) H):FnOk P w K mg base (CX1 P w base) (k+1) f fd ps sp:=by
 obtain ⟨oc,od,kV,doc,pm,an,cdv,ct,osl,rfl,lk,hcd⟩:=F.ex
 exact zw3 lk hcd S len λ A outer s H vs Q E hr hsp=>hbody cdv A outer s H vs Q E hr hsp
theorem Fun.okN {x qual:Str} {st:Stmt} {f:Addr} {fd:FuncData} {N ps:List Str} {k:Nat} {sp:Sp} (F:Fun K x qual st f fd) (S:FnScope N ps (zka st)) (len:∀ vs H Q E,sp vs H Q E→vs.length=ps.length)
  (hbody:∀ (cdv:Value) (A:Around) (outer:List Env) (s:Shared) (H:Hp) (vs:List V) (Q:VK) (E:XK),Room k (A.deeper (envOfC qual (zka st) s.heap.objs.size f cdv))→sp vs H Q E →
   ∃ t,PSs (cxOf (CX1 P w base) P w K mg base N qual (zka st) f cdv A outer s H E).nox (zye st) t∧t { nx:=λ _ H'=>Q .non H',rt:=Q } (zjr N vs) H):FnOk P w K mg base (CX1 P w base) (k+1) f fd ps sp :=
 F.okX S len λ cdv A outer s H vs Q E hr hsp=>let ⟨t,h,q⟩:=hbody cdv A outer s H vs Q E hr hsp; ⟨t,h.nox,q⟩
end
abbrev bmV:List Value:=[.type "ValueError",.type "Exception",.type "BaseException",.type "object"]
structure XCls (K:W.Frag) (C:Addr):Prop where
 ex:W.excIn K C bmV "ValueError.__new__" = true
 ga:W.findIn K (.ref C) "__getattribute__" = some (some (.builtin "BaseException.__getattribute__"))
 gn:W.findIn K (.ref C) "__getattr__" = some none
 be:W.subIn K (.ref C) (.type "BaseException")=some true
 hd:W.hasDictIn K C=true
 ca:W.findIn K (.ref C) "__class__" = some (some (.builtin "object.__class__"))
 mo:W.mroIn K C (.type "object")=some true
 gs:W.specialIn K (.builtin "object.__class__") "__get__" = some (some (.builtin "getset_descriptor.__get__"))
 tk:W.takesIn K (.builtin "object.__class__")=some true
theorem XCls.obj {K:W.Frag} {C:Addr} {h:Heap} (c:XCls K C) (X:K.In h):∃ bm N nm q bs hdct sn sub ab col dd k0 k1 k2 k3 k5 mN,
  h.get? C=some (excClassObj nm q C N bs bm hdct sn sub ab col dd k0 k1 k2 k3 k5 "ValueError.__new__")∧h.Ns N mN∧mN "__init__" = none∧OwnTail h bmV bm ∧
  ∀ b r,W.mroIn K C b=some r→(Value.ref C::bm).contains b=r:=by
 have q:=c.ex
 unfold W.excIn at q
 split at q
 ·rename_i dd cd sl ho
  split at q
  ·rename_i C' bm k0 k1 k2 k3 n k5 hm hs
   simp only [Bool.and_eq_true,beq_iff_eq,Bool.not_eq_true'] at q
   obtain ⟨⟨⟨⟨⟨rfl,rfl⟩,hdel⟩,ht⟩,hok⟩,hni⟩:=q
   have hmro:∀ b r,W.mroIn K C' b=some r→(Value.ref C'::bm).contains b=r:=λ b r e=>by
    unfold W.mroIn W.clsIn at e
    rw [ho] at e
    simp only [Option.bind_some,hm] at e
    simpa using e
   obtain ⟨nm,bs,mro,ns,qn,hd,sn,sub,ab,col,del⟩:=cd
   dsimp only at hm hdel hok hni
   subst hm hdel
   have hsl:sl = #[k0,k1,k2,k3,some (.builtin "ValueError.__new__"),k5]:=by
    obtain ⟨l⟩:=sl
    simp only at hs
    rw [hs]
   subst hsl
   exact ⟨bm,ns,nm,qn,bs,hd,sn,sub,ab,col,dd,k0,k1,k2,k3,k5,_,X _ _ ho,.of_isNs (W.isNs_of_in X hok),W.nsMap_none_of_in X hok hni,W.tail_of_in X ht,hmro⟩
  ·cases q
 ·cases q
section
variable {X:Cx}
noncomputable def zl0 (C:Addr) (E:XK) (ta:TA):TS:=λ _ σ H=>ta σ H λ vs H1=>vs.length≤sizeLine∧E (.ref C) none H1
theorem zvi {C:Addr} {E:XK} {n:Str} {e:Expr} {es:List Expr} {ta:TA} {np cpos pos:Pos} (xc:XCls X.K C) (W:Wants X E) (hc:X.calm=true) (hg:Gl X n) (hm:X.mg n=some (.ref C)) (ha:PA X (e::es) ta)
  (hs:starEach (e::es) X.env=(false,eval e X.env)::starEach es X.env:=by rfl) (hp:(backTo cpos (starEach es X.env)).any (·.1)=false:=by rfl) (hdb:(n == ("__debug__" : Str))=false:=by decide) :
  PS X (.Raise (some (.Call (.Name n np) (e::es) [] cpos)) none pos) (zl0 C E ta) := .mk <| by
 intro pins s σ H D I h
 obtain ⟨bm,N,nm,q,bs,hdct,sn,sub,ab,col,dd,k0,k1,k2,k3,k5,mN,hC,hN,hni,T,_⟩:=xc.obj I.mod.kin
 refine wpAny_Raise_call_subT (C:=C) (nm:=nm) (q:=q) (N:=N) (bs:=bs) (bm:=bm) (hdct:=hdct) (sn:=sn) (sub:=sub) (ab:=ab) (col:=col) (dd:=dd) (k0:=k0) (k1:=k1) (k2:=k2) (k3:=k3) (k5:=k5)
  PySem.F.excBase_ValueError (mN:=mN) (T.hasType (by decide)) (I.ok.hd hc) (by rw [hs];show (false || (backTo cpos (starEach es X.env)).any (·.1))=false;rw [hp];rfl) hni (zte I hg hm ⟨rfl,?_⟩ hdb)
 have hA:=ha cpos pins s σ H _ I h
 rw [hs] at hA ⊢
 refine Calls.evalArgs_plain (thn hA λ us s1 ⟨vs,H1,I1,r1,hl,hE⟩=>⟨rfl,by rw [← r1.length];exact hl,I1.bk _ _ hC,hN.keeps I1.bk,T.keeps I1.bk,λ h' x mk=>?_⟩)
 obtain ⟨t,e1,_,_⟩:=mk.there
 have J:Inv X [] σ H1 { s1 with heap:=h' }:=(I1.kept (t':=s1.toks) mk.keeps).nopins
 refine W σ H1 _ x C J ⟨⟨_,_,e1,rfl,rfl,rfl,by simp,.inl rfl⟩,zo1 I1 mk.new,?_⟩ hE
 cases z:H1 x with
 | none=>rfl
 | some o =>
  have:=(I1.hok x o z)
  have lt:∃ ob,s1.heap.get? x=some ob:=by
   cases o with
   | lst xs=>obtain ⟨_,_,_,_,e⟩:=this;exact ⟨_,e⟩
   | tup xs=>obtain ⟨_,_,_,p⟩:=this;obtain ⟨ob,e,_⟩:=p;exact ⟨_,e⟩
   | dK kvs=>obtain ⟨_,_,_,_,o,_,_,e,_⟩:=this;exact ⟨_,e⟩
   | dT kvs=>obtain ⟨_,_,_,_,o,_,_,e,_⟩:=this;exact ⟨_,e⟩
   | set S n=>obtain ⟨o,_,_,_,e,_⟩:=this;exact ⟨_,e⟩
   | ins C dx fs=>obtain ⟨_,_,_,e,_⟩:=this;exact ⟨_,e⟩
   | own y=>exact this
   | xd fs=>obtain ⟨_,⟨_,_,_,e,_⟩,_⟩:=this;exact ⟨_,e⟩
   | rng lo hi=>obtain ⟨_,_,_,e⟩:=this;exact ⟨_,e⟩
   | frz ob u=>obtain ⟨e,_⟩:=this;exact ⟨_,e⟩
   | tbl ps=>exact ⟨_,(show s1.heap.get? x=some _ from this)⟩
   | met f y=>exact ⟨_,(show s1.heap.get? x=some _ from this)⟩
   | ext φ=>obtain ⟨_,e,_⟩:=this;exact e
  obtain ⟨ob,e⟩:=lt
  rw [mk.new] at e
  cases e
end
end L2
namespace L2
open PySem PySem.Spec PyProof.Rows
noncomputable def excO (x C:Addr):HO := .ext λ h=>∃ o,h.get? x=some o∧o.cls = .ref C∧o.dict=none∧W.notCls o=true
noncomputable def Cx.tryC (X:Cx) (E':Value→Shared→Prop) (pn':List (Addr×Obj)):Cx:={ X with xe:=E',pn:=X.pn++pn' }
noncomputable def Cx.hand (X:Cx) (x:Addr):Cx:={ X with A:=X.A.mark (some (.ref x)),calm:=false,xe:=λ _ _=>False }
section
variable {X:Cx} {pins:List (Addr×Obj)} {σ:St} {H:Hp} {s:Shared} {x C D:Addr}
theorem Inv.toTry (I:Inv X pins σ H s) (E':Value→Shared→Prop):Inv (X.tryC E' pins) [] σ H s :=
 ⟨⟨I.ok.mod,I.ok.kind,I.ok.glob,I.ok.blt,I.ok.above,I.ok.inj,I.ok.has,I.ok.cab,I.ok.hd,I.ok.frames,I.ok.stk,I.ok.exf,I.ok.bs,I.ok.bsz,I.ok.noex,I.ok.exfs,I.ok.funs,I.ok.frf⟩,I.os,I.bare,I.base,I.loc,I.cell,I.free,I.freeC,λ p hp=>I.pin p (by simpa [Cx.tryC] using hp),I.hok,I.len⟩
theorem Inv.ofTry {E':Value→Shared→Prop} (I:Inv (X.tryC E' pins) [] σ H s):Inv X pins σ H s :=
 ⟨⟨I.ok.mod,I.ok.kind,I.ok.glob,I.ok.blt,I.ok.above,I.ok.inj,I.ok.has,I.ok.cab,I.ok.hd,I.ok.frames,I.ok.stk,I.ok.exf,I.ok.bs,I.ok.bsz,I.ok.noex,I.ok.exfs,I.ok.funs,I.ok.frf⟩,I.os,I.bare,I.base,I.loc,I.cell,I.free,I.freeC,λ p hp=>I.pin p (by simpa [Cx.tryC] using hp),I.hok,I.len⟩
theorem Inv.toHand (I:Inv X pins σ H s) (x:Addr):Inv (X.hand x) pins σ H s :=
 ⟨⟨I.ok.mod,I.ok.kind,I.ok.glob,I.ok.blt,I.ok.above,I.ok.inj,I.ok.has,I.ok.cab,λ z=>absurd z Bool.false_ne_true,I.ok.frames,I.ok.stk,I.ok.exf,I.ok.bs,I.ok.bsz,I.ok.noex,I.ok.exfs,I.ok.funs,I.ok.frf⟩,I.os,I.bare,I.base,I.loc,I.cell,I.free,I.freeC,I.pin,I.hok,I.len⟩
theorem Inv.ofHand {y:Addr} (I:Inv (X.hand y) pins σ H s) (hd:X.calm=true→X.A.handled=none):Inv X pins σ H s :=
 ⟨⟨I.ok.mod,I.ok.kind,I.ok.glob,I.ok.blt,I.ok.above,I.ok.inj,I.ok.has,I.ok.cab,hd,I.ok.frames,I.ok.stk,I.ok.exf,I.ok.bs,I.ok.bsz,I.ok.noex,I.ok.exfs,I.ok.funs,I.ok.frf⟩,I.os,I.bare,I.base,I.loc,I.cell,I.free,I.freeC,I.pin,I.hok,I.len⟩
theorem Inv.track (I:Inv X pins σ H s) (hn:∀ o,X.s₀.heap.get? x=some o→x∈X.ex) (hp:∀ p∈X.pn++pins,p.1≠x) (hf:H x=none)
  (ob:∃ oe vs,s.heap.get? x=some oe∧oe.cls = .ref C∧oe.dict=none∧oe.data = .fields vs):Inv X pins σ (upd H x (excO x C)) s:=by
 obtain ⟨oe,vs,e,ec,ed,d⟩:=ob
 obtain ⟨n1,n2,n3⟩:=I.nopins.fieldsNe e d
 have ne:∀ b u,H b=some u→b≠x:=λ b u q=>zba q hf
 refine ⟨I.ok,I.os,I.bare,⟨I.base.keep,I.base.slot,λ b o q n hx=>?_,I.base.there,λ b xs q=>?_,λ b o u q=>?_,λ b ps q=>?_⟩,I.loc,I.cell,?_,λ y c q=>?_,λ p hp'=>?_,λ b u q=>?_,I.len⟩
 ·rw [zga (λ z=>hx (by subst z;exact hn o q))];exact I.base.free b o q n hx
 ·have:=I.base.tups b xs q;rw [zga (ne b _ this)];exact this
 ·have:=I.base.frzs b o u q;rw [zga (ne b _ this)];exact this
 ·obtain ⟨m,q'⟩:=I.base.tbls b ps q;exact ⟨m,by rw [zga (ne b _ q')];exact q'⟩
 ·rw [zga (Ne.symm n1)];exact I.free
 ·rw [zga (n2 y c q)];exact I.freeC y c q
 ·obtain ⟨a,b,c⟩:=I.pin p hp'
  exact ⟨a,by rw [zga (hp p hp')];exact b,c⟩
 ·by_cases hb:b=x
  ·subst hb
   rw [upd_same] at q
   cases q
   refine ⟨⟨oe,e,ec,ed,?_⟩,⟨oe,e⟩,λ h1 h2 ⟨o,a1,a2⟩ k=>⟨o,k o a1,a2⟩⟩
   unfold W.notCls
   rw [d]
  ·rw [zga hb] at q
   exact (I.hok b u q).stay (λ _ _ _ z=>z) (λ c z=>by rw [zga (ne c _ z)];exact z) λ c xs z=>by rw [zga (ne c _ z)];exact z
theorem Inv.goes {i:Nat} {n:Str} {h':Heap} {t':Nat} {v:Option Value} {m:Str→Option Value} (I:Inv X pins σ H s) (hN:X.N.Nodup) (hi:X.N[i]? = some n) (hm:s.heap.Ns X.env.locals m)
  (hl:∀ (j:Nat) (y:Str) (u:V),X.N[j]? = some y→σ[j]? = some (some u)→Vis X.env.scope y→∃ w,RelV u w∧Look X.env s.heap m y w)
  (hn:h'.Ns X.env.locals (λ y=>if y=n then v else m y)) (hs:Heap.SameBut X.env.locals s.heap h'):Inv X pins (σ.set i none) H { s with heap:=h',toks:=t' }:=by
 have neL:∀ b o,X.s₀.heap.get? b=some o→b≠X.env.locals:=λ b o e=>Nat.ne_of_lt (Nat.lt_of_lt_of_le (Heap.lt_size e) I.ok.above)
 have cl:∀ y c,X.env.cells.lookup y=some c→∀ w,s.heap.IsCell c w→h'.IsCell c w:=λ y c e w z=>z.sameBut hs (I.cne y c e)
 refine ⟨I.ok,I.os,I.bare,⟨λ b o e k hb hx=>(hs.2 b (neL b o e)).trans (I.base.keep b o e k hb hx),λ b o e k hb hx=>?_,I.base.free,λ b o e hx=>?_,I.base.tups,I.base.frzs,I.base.tbls⟩,⟨_,hn,λ j y u e1 e2 e3=>?_⟩,λ y c e=>?_,I.free,I.freeC,λ p hp=>?_,λ b u e=>?_,by rw [List.length_set];exact I.len⟩
 ·obtain ⟨sl,q⟩:=I.base.slot b o e k hb hx;exact ⟨sl,(hs.2 b (neL b o e)).trans q⟩
 ·obtain ⟨o',q⟩:=I.base.there b o e hx;exact ⟨o',(hs.2 b (neL b o e)).trans q⟩
 ·by_cases hj:j=i
  ·subst hj
   rw [List.getElem?_set] at e2
   simp at e2
  ·rw [List.getElem?_set_ne (Ne.symm hj)] at e2
   obtain ⟨w,r,q⟩:=hl j y u e1 e2 e3
   refine ⟨w,r,?_⟩
   rcases q with ⟨k,e⟩ | ⟨k,c,e,z⟩
   ·have ny:y≠n:=λ z=>hj (zpi hN e1 (by rw [z];exact hi))
    exact .inl ⟨k,by simp only [if_neg ny];exact e⟩
   ·exact .inr ⟨k,c,e,cl y c e _ z⟩
 ·obtain ⟨w,z⟩:=I.cell y c e;exact ⟨w,cl y c e w z⟩
 ·obtain ⟨e,k,ne,nf,d⟩:=I.pin p hp
  exact ⟨(hs.2 p.1 ne).trans e,k,ne,nf,d⟩
 ·refine (I.hok b u e).stay (λ c w hc q=>(hs.2 c ?_).trans q) (λ _ q=>q) λ _ _ q=>q
  rintro rfl
  rcases hc with rfl | hc
  ·rw [I.free] at e;cases e
  ·rw [I.free] at hc;cases hc
theorem zqr {M:Model} {A:Around} {E:Value→Shared→Prop} {K:W.Frag} {oe:Obj} {b:Bool} {Q:Bool→Shared→Prop} (X:K.In s.heap) (xd:XCls K D) (xc:XCls K C) (hs:W.mroIn K C (.ref D)=some b)
  (he:s.heap.get? x=some oe) (hcls:oe.cls = .ref C) (hq:Q b s):wpAny M A (excMatches (.ref x) (.ref D)) Q E s:=by
 obtain ⟨bm,N,nm,q,bs,hdct,sn,sub,ab,col,dd,k0,k1,k2,k3,k5,mN,hD,_,_,T,_⟩:=xd.obj X
 obtain ⟨bm',N',nm',q',bs',hdct',sn',sub',ab',col',dd',l0,l1,l2,l3,l5,mN',hC,_,_,T',hmC⟩:=xc.obj X
 have hcB:(Value.ref D::bm).contains (.type "BaseException")=true:=by rw [List.contains_cons,T.hasType (b:=true) (by decide),Bool.or_true]
 have hcC:=hmC _ _ hs
 have f:=tc_notTuple
 obtain ⟨h,g,d,t,os⟩:=s
 unfold excMatches
 repeat (first | (with_reducible refine wpAny_loadPart_at he ?_;rw [hcls]) | with_reducible refine wpAny_loadPart_at hD ?_ | (with_reducible refine wpAny_isSubtype_exc hD ?_;rw [hcB]) | (with_reducible refine wpAny_isSubtype_exc hC ?_;rw [hcC]) | wp_step)
 cases b <;> (wp_walk;exact hq)
noncomputable def zqm (CX:CXT) (X:Cx) (σ:St) (E:XK):Prop:=∀ (pins:List (Addr×Obj)) (H:Hp) (s:Shared) (e:Value) (s':Shared),Inv X pins σ H s→CX X.stack H s E e s'→X.xe e s'
theorem zgt {CX:CXT} {k:Nat} {f:Addr} {fd:FuncData} {ps:List Str} {sp:Sp} {dvs:List V} {ds:List Value} {E:XK} {y:Str} {p pos:Pos} {e:Expr} {es:List Expr} {t:TA} {σ₀:St}
  (F:FnOk X.prog X.w X.K X.mg X.base CX k f fd ps sp) (hr:Room k X.A) (hg:Gl X y) (hm:X.mg y=some (.ref f)) (hk:W.keepIn X.K (.ref f)=true) (hb:Binds X.K fd ps ds) (hd:Vals dvs ds) (hx:zqm CX X σ₀ E)
  (ha:PA X (e::es) t) (hdb:(y == ("__debug__" : Str))=false:=by decide) (he:starEach (e::es) X.env=(false,eval e X.env)::starEach es X.env:=by rfl) (hpl:(backTo pos (starEach es X.env)).any (·.1)=false:=by rfl) :
  PE X (.Call (.Name y p) (e::es) [] pos) (λ σ H Q=>σ=σ₀∧zsz sp dvs E t σ H Q) := .mk <| by
 rintro pins s σ H Q I ⟨rfl,h⟩
 refine wpAny_Call_Name_kw (zte I hg hm ?_ hdb)
 refine W.callWith_K (h₀:=X.base) I.ok.mod.kin hk (thn (ha pos pins s σ H _ I h) λ us s1 ⟨vs,H1,I1,r,q⟩=>⟨I1.kIn,?_⟩) he hpl
 have r2:Vals (vs++dvs) (us++ds):=r.append hd
 have hl:(us++ds).length=ps.length:=by rw [← r2.length];exact F.len _ _ _ _ q
 refine wpAny_call (codeAny_mono (F.run X.A X.stack s1 H1 ⟨us,[]⟩ (us++ds) (vs++dvs) Q E hr I1.env0 (hb s1 us I1.kIn hl) r2 q) λ r s' hq=>?_)
 cases r with
 | error e=>exact hx pins H1 s1 e s' I1 hq
 | ok fl =>
  cases fl with
  | ret u=>exact I1.after hq
  | next=>exact False.elim hq
  | brk=>exact False.elim hq
  | cont=>exact False.elim hq
noncomputable def tTry (K:W.Frag) (j i:Nat) (D:Addr) (te:XK→TE) (th:TS):TS:=λ Dn σ H=>∃ EX:XK,te EX σ H (λ v H1=>Dn.nx (σ.set j (some v)) H1) ∧
 ∀ (C y:Addr) (H1:Hp),EX (.ref C) none H1→H1 y=none→XCls K C∧W.mroIn K C (.ref D)=some true ∧
  th { nx:=λ σ2 H2=>Dn.nx (σ2.set i none) H2,rt:=λ v H2=>Dn.rt v H2,bk:=λ σ2 H2=>Dn.bk (σ2.set i none) H2,ct:=λ σ2 H2=>Dn.ct (σ2.set i none) H2 } (σ.set i (some (.ref y))) (upd H1 y (excO y C))
theorem ze1 {i j:Nat} {n y dn:Str} {e:Expr} {te:XK→TE} {b₀:Stmt} {suite:List Stmt} {th:TS} {p1 p2 p3 p4 pos:Pos} (hN:X.N.Nodup) (xd:XCls X.K D) (hg:Gl X dn) (hm:X.mg dn=some (.ref D)) (tp:X.Top) (hc:X.calm=true)
  (he:∀ σ₀ E' pn' EX,zqm (CX1 X.prog X.w X.base) (X.tryC E' pn') σ₀ EX→PE (X.tryC E' pn') e (λ σ H Q=>σ=σ₀∧te EX σ H Q))
  (hh:∀ x,PSs (X.hand x) (b₀::suite) th) (hj:X.N[j]? = some y:=by rfl) (hi:X.N[i]? = some n:=by rfl) (hy:X.env.scope.names.lookup y=some .local:=by rfl) (hn:X.env.scope.names.lookup n=some .local:=by rfl)
  (hs:swapsWith e (some (.Name y p1)) p2.line X.env=pure false:=by rfl) (hdb:(dn == ("__debug__" : Str))=false:=by decide) :
  PS X (.Try [.Assign [.Name y p1] e p2] [.ExceptHandler (some (.Name dn p3)) (some n) (b₀::suite) p4] [] [] pos) (tTry X.K j i D te th) := .mk <| by
 intro pins s σ H Dn I h
 obtain ⟨EX,hte,hth⟩:=h
 show wpAny (model X.prog X.w) X.A (do standAt pos;tryStmt false (execs [.Assign [.Name y p1] e p2] X.env) [.ExceptHandler (some (.Name dn p3)) (some n) (b₀::suite) p4] (execs [] X.env) [] X.env) (SP X pins Dn) X.xe s
 refine wpAny_bind (wpAny_standAt (wpAny_tryStmt_except ?_))
 generalize hE:(λ (e:Value) (s₁:Shared)=>wpAny (model X.prog X.w) X.A (noteFrame e X.env) (λ _ s₂=>wpAny (model X.prog X.w) X.A (setFlight e none) (λ _ s₃ =>
  wpAny (model X.prog X.w) X.A (handleBy e X.env [.ExceptHandler (some (.Name dn p3)) (some n) (b₀::suite) p4]) (SP X pins Dn) X.xe s₃) X.xe s₂) X.xe s₁)=E'
 have hx:zqm (CX1 X.prog X.w X.base) (X.tryC E' pins) σ EX:=by
  rintro pins' H1 s1 _ s' J1 ⟨x,C,H',rfl,os,bare,un,hok,F,q⟩
  have J:Inv (X.tryC E' pins) [] σ H' s':=(J1.call' (ch:=[]) os un hok bare λ b z=>absurd z (by simp)).nopins
  have F':Fly (X.tryC E' pins).new H' x C s'.heap:=F.imp λ b hb=>zo1 J1 hb
  have tp':(X.tryC E' pins).Top:=⟨tp.top⟩
  show E' (.ref x) s'
  rw [← hE]
  refine zin (X:=X.tryC E' pins) J tp' F' λ h1 I1 F1 t1=>?_
  refine zef (X:=X.tryC E' pins) (A:=X.A) I1 F1 t1 λ h2 I2 F2 t2=>?_
  obtain ⟨xc,hmro,hsuite⟩:=hth C x H' q F2.free
  obtain ⟨oe,vs,a1,a2,a3,a4,_,_⟩:=id F2.ob
  refine wpAny_handleBy_cons (codeAny_handlers_test ?_) (by intro q;cases q)
  refine zte (X:=X.hand x) (I2.ofTry.toHand x) hg hm ?_ hdb
  refine zqr (I2.kIn) xd xc hmro a1 a2 ?_
  refine codeAny_handlers_suite_as ?_
  refine zef (X:=X.tryC E' pins) (A:=X.A.mark (some (.ref x))) I2 F2 t2 λ h3 I3 F3 _=>?_
  obtain ⟨oe3,vs3,c1,c2,c3,c4,_,_⟩:=id F3.ob
  have I4:Inv (X.hand x) pins σ (upd H' x (excO x C)) { s' with heap:=h3 }:=(I3.ofTry.toHand x).track (λ o e=>F3.new.1 o e) (λ p hp=>F3.new.2 p hp) F3.free ⟨_,_,c1,c2,c3,c4⟩
  refine zri (X:=X.hand x) (v := .ref x) I4 hN hi (.inl hn) rfl (λ s5 I5=>?_) (.inr hn)
  refine wpAny_mono (hh x pins s5 _ _ _ I5 hsuite) (λ fl s6 q6=>?_) λ _ _ z=>z.elim
  show wpAny (model X.prog X.w) X.A (do bindName X.env n .none;unbindBehindTheSuite X.env n p4) (λ _ s₃=>SP X pins Dn fl s₃) X.xe s6
  have hcls:(X.env.scope.kind == .class || (X.env.scope.kind == .module && X.env.locals != X.env.globals))=false:=by rw [I.ok.kind];rfl
  have go:∀ {σ6:St} {H6:Hp} {R:Unit→Shared→Prop},Inv (X.hand x) pins σ6 H6 s6→(∀ s7,Inv X pins (σ6.set i none) H6 s7→R () s7)→wpAny (model X.prog X.w) X.A (do bindName X.env n .none;unbindBehindTheSuite X.env n p4) R X.xe s6:=fun {σ6 H6 R} I6 k=>by
   have I6':Inv X pins σ6 H6 s6:=I6.ofHand I.ok.hd
   obtain ⟨m,hm6,hl6⟩:=I6'.loc
   exact wpAny_nameGoes_keeps hn hm6 hcls λ h' v a b=>k _ (I6'.goes hN hi hm6 hl6 a b)
  cases fl with
  | next=>obtain ⟨σ6,H6,I6,r6⟩:=q6;exact go I6 λ s7 I7=>⟨_,H6,I7,r6⟩
  | brk=>obtain ⟨σ6,H6,I6,r6⟩:=q6;exact go I6 λ s7 I7=>⟨_,H6,I7,r6⟩
  | cont=>obtain ⟨σ6,H6,I6,r6⟩:=q6;exact go I6 λ s7 I7=>⟨_,H6,I7,r6⟩
  | ret u=>obtain ⟨v,σ6,H6,I6,rv,r6⟩:=q6;exact go I6 λ s7 I7=>⟨v,_,H6,I7,rv,r6⟩
 have B:=zha (zpa (X:=X.tryC E' pins) (i:=j) (pos:=p2) (pos':=p1) hN hj (.inl hy) (he σ E' pins EX hx) hs (.inr hy))
 refine thn (B [] s σ H { nx:=Dn.nx,rt:=λ _ _=>False } (I.toTry E') ⟨rfl,hte⟩) λ fl s1 q1=>?_
 cases fl with
 | next=>obtain ⟨σ1,H1,I1,r1⟩:=q1;exact wpAny_execs_nil ⟨σ1,H1,I1.ofTry,r1⟩
 | brk=>obtain ⟨_,_,_,r1⟩:=q1;exact r1.elim
 | cont=>obtain ⟨_,_,_,r1⟩:=q1;exact r1.elim
 | ret u=>obtain ⟨_,_,_,_,_,r1⟩:=q1;exact r1.elim
end
end L2
namespace L2
open PySem PySem.Spec PyProof.Rows
noncomputable def ExcAt (x C:Addr) (h:Heap):Prop:=∃ o,h.get? x=some o∧o.cls = .ref C∧o.dict=none∧W.notCls o=true
theorem ExcAt.inst {x C:Addr} {h:Heap} (p:ExcAt x C h):∃ ox,W.InstAt h x ox C none:=by
 obtain ⟨o,a,b,c,d⟩:=p
 refine ⟨o,a,b,d,?_⟩
 rw [c]
 trivial
theorem znr {M:Model} {A:Around} {E:Value→Shared→Prop} {s:Shared} {K:W.Frag} {x C:Addr} {ox:Obj} {nameV:Value} {Q:Unit→Shared→Prop} (X:K.In s.heap) (I:W.InstAt s.heap x ox C none)
  (be:W.subIn K (.ref C) (.type "BaseException")=some true) (h:Q () s):wpAny M A (checkBuiltinCall "BaseException.__getattribute__" ⟨[.ref x,nameV],[]⟩) Q E s:=by
 have hk:builtinKind "BaseException.__getattribute__" = some .slot:=by decide +kernel
 have hsplit:splitId "BaseException.__getattribute__" = some ("BaseException", "__getattribute__"):=by decide +kernel
 have ha:=F.args_bexc_ga (.ref x) nameV
 have L0:=I.type (M:=M)
 have L1:=W.looks_subIn (M:=M) X be
 simp only [checkBuiltinCall,hk,hsplit]
 refine wpAny_bind ?_
 unfold isInstance
 refine wpAny_bind (L0.at (L1.at ?_))
 repeat wp_step
 exact h
theorem zhq {prog:Program} {w:World} {A:Around} {E:Value→Shared→Prop} {s:Shared} {K:W.Frag} {x C:Addr} {ox:Obj} {tk:Tok} {P:Fin→Shared→Prop} (X:K.In s.heap) (I:W.InstAt s.heap x ox C none)
  (hf:W.findObj K C none "__class__" = some (.bind (.builtin "getset_descriptor.__get__") (.builtin "object.__class__"))) (mo:W.mroIn K C (.type "object")=some true) (h:P (.done (.ret (.ref C))) s) :
  wpAny (model prog w) A (Builtin.«object.__getattribute__» ⟨[.ref x,.str "__class__" tk],[]⟩) P E s:=by
 have L0:=I.type (M:=model prog w)
 have L1:=W.looks_find (M:=model prog w) X I hf
 refine wpAny_bind (wpAny_pure (wpAny_bind (wpAny_pure (wpAny_bind (L0.at (wpAny_bind (L1.at ?_)))))))
 show wpAny _ _ (holding [Value.builtin "object.__class__"] (call (.builtin "getset_descriptor.__get__") [.builtin "object.__class__",.ref x,.ref C]) >>= ret) _ _ _
 exact wpAny_bind (wpAny_holding (wpAny_call (W.class_get (ox:=ox) (od:=none) X I mo (wpAny_pure h))))
theorem zsr {prog:Program} {w:World} {A:Around} {E:Value→Shared→Prop} {s:Shared} {K:W.Frag} {x C:Addr} {ox:Obj} {Q:Option Value→Shared→Prop} (xc:XCls K C) (X:K.In s.heap) (I:W.InstAt s.heap x ox C none)
  (h:Q (some (.ref C)) { s with toks:=s.toks+1 }):wpAny (model prog w) A (getAttr? (.ref x) "__class__") Q E s:=by
 have hf:W.findObj K C none "__class__" = some (.bind (.builtin "getset_descriptor.__get__") (.builtin "object.__class__")):=by
  obtain ⟨cd,hc,_⟩:=W.any_some xc.hd
  unfold W.findObj
  rw [hc,Option.bind_some,xc.ca,Option.bind_some]
  simp only [xc.gs,xc.tk,Option.bind_some]
 obtain ⟨hh,g,d,t,os⟩:=s
 have L0:=I.type (M:=model prog w)
 have L1:=W.looks_findIn (M:=model prog w) X xc.ga
 have L2:=W.looks_findIn (M:=model prog w) X xc.gn
 have f3:=F.attr_ValueError.ga.bind (.ref x)
 unfold getAttr? getAttrBy? getAttrBy
 refine wpAny_bind (wpAny_mkText (wpAny_bind (wpAny_attempt (wpAny_holding (wpAny_bind (L0.at (wpAny_bind (L1.at ?_))))))))
 show wpAny _ _ (getAttrByItsOwn _ _ _ _ _ _) _ _ _
 unfold getAttrByItsOwn
 refine wpAny_bind ?_
 show wpAny _ _ (typeLookup (.ref C) "__getattr__") _ _ _
 refine L2.at (wpAny_bind (wpAny_attempt (wpAny_holding ?_)))
 show wpAny _ _ (boundAndCalled _ _ _) _ _ _
 unfold boundAndCalled
 rw [f3]
 refine wpAny_bind (wpAny_pure ?_)
 exact wpAny_call (codeAny_call_builtin F.attr_ValueError.ga.plain F.entry_bexc_ga (znr (s:=⟨hh,g,d,t+1,os⟩) X I xc.be (zhq (s:=⟨hh,g,d,t+1,os⟩) X I hf xc.mo (W.handed_on rfl (wpAny_pure h)))))
theorem zwm {K:W.Frag} {x C:Addr} (xc:XCls K C):W.KitX K (.ref x) (.ref C) (ExcAt x C) where
 ty:=λ _ _ _ p=>let ⟨_,I⟩:=p.inst;I.type
 it:=λ M h X _=>by
  obtain ⟨cdD,hcD,_⟩:=W.any_some xc.hd
  unfold W.clsIn at hcD
  split at hcD
  ·rename_i c' d' cd' sl' ho
   intro A' Q' E' s' k q
   unfold isType loadHead
   exact wpAny_bind (wpAny_loadPart (k _ _ (X _ _ ho)) (wpAny_pure q))
  ·cases hcD
 ne:=λ h tp dd its n sl X htp=>by
  obtain ⟨cdD,hcD,_⟩:=W.any_some xc.hd
  refine Bool.eq_false_iff.mpr λ q=>?_
  have e:C=tp:=Value.ref.inj (beq_iff_eq.mp q)
  subst e
  unfold W.clsIn at hcD
  split at hcD
  ·rename_i c' d' cd' sl' ho
   cases (X _ _ ho).symm.trans htp
  ·cases hcD
 ca:=fun {prog w A E Q s} X p h=>by
  obtain ⟨ox,I⟩:=p.inst
  exact zsr xc X I h
noncomputable def clsV:V→Option Value
 | .ref a=>some (.ref a)
 | .ty n=>some (.type n)
 | _=>none
theorem zym {v:V} {u c:Value} (r:RelV v u) (e:clsV v=some c):u=c:=by
 cases v with
 | ref a=>cases e;exact r
 | ty n=>cases e;exact r
 | _=>cases e
section
variable {X:Cx}
theorem zji:zvg X (.builtin "isinstance") (λ xs H Q=>∃ x C v c b,xs=[.ref x,v]∧H x=some (excO x C)∧XCls X.K C∧clsV v=some c∧W.kitOne X.K (.ref C) c=some b∧Q (.bl b) H):=by
 intro pins s σ H xs us Q I rv h
 obtain ⟨x,C,v,c,b,rfl,hx,xc,hv,hk,q⟩:=h
 obtain ⟨u,u',rfl,ru,rv'⟩:=rv.two
 cases (show u=Value.ref x from ru)
 have e:=zym rv' hv
 subst e
 have p:ExcAt x C s.heap:=(show ObjOk X.prog X.w H s.heap x (excO x C) from I.hok x _ hx).1
 exact W.kia_one (zwm xc) I.kIn p hk (λ z=>nomatch z) λ tk=>⟨.bl b,H,I.tok tk,rfl,q⟩
theorem zen:∀ {vs:List V} {cs us:List Value},vs.map clsV=cs.map some→Vals vs us→us=cs
 | [],cs,us,e,r=>by
  cases r
  cases cs with
  | nil=>rfl
  | cons c cs=>cases e
 | v::vs,cs,us,e,r=>by
  cases r with
  | cons h t =>
   cases cs with
   | nil=>cases e
   | cons c cs =>
    simp only [List.map_cons,List.cons.injEq] at e
    rw [zym h e.1,zen e.2 t]
theorem ztl:zvg X (.builtin "isinstance") (λ xs H Q=>∃ x C tp vs cs b,xs=[.ref x,.ref tp]∧H x=some (excO x C)∧XCls X.K C∧H tp=some (.tup vs)∧vs.map clsV=cs.map some∧W.kitAny X.K (.ref C) cs=some b∧Q (.bl b) H):=by
 intro pins s σ H xs us Q I rv h
 obtain ⟨x,C,tp,vs,cs,b,rfl,hx,xc,ht,hv,hk,q⟩:=h
 obtain ⟨u,u',rfl,ru,rv'⟩:=rv.two
 cases (show u=Value.ref x from ru)
 cases (show u'=Value.ref tp from rv')
 have p:ExcAt x C s.heap:=(show ObjOk X.prog X.w H s.heap x (excO x C) from I.hok x _ hx).1
 obtain ⟨_,its,r,o,e,ec,n,ed⟩:=(show ObjOk X.prog X.w H s.heap tp (.tup vs) from I.hok tp _ ht)
 have ei:=zen hv r
 subst ei
 obtain ⟨c,d,dt,sl⟩:=o
 dsimp only at ec ed
 subst ec ed
 exact W.kia_tup (zwm xc) I.kIn p e hk (λ z=>nomatch z) λ tk=>⟨.bl b,H,I.tok tk,rfl,q⟩
end
section
variable {X:Cx}
end
theorem zyu {l:W.OpenLaw} {n k:Nat} {q:Program} {loose:List Str} {XP:(Str→Option Value)→Heap→Prop} {YP:World→Heap→Prop} {d:DefRec} {K:Params→W.Frag} {sp:World→Sp} {x:Str}
  (hn:l.most=some n) (hn2:n≤sizeLine) (hdf:d.params.defaults=[]) (hr:Room k callerA) (hY:∀ (w:World) (h:Heap),YP w h→(K w.params).In h)
  (F:∀ (w:World) (mg:Str→Option Value) (fa:Addr) (h:Heap),(K w.params).In h→h.Ns mainGlobals mg→mg d.name=some (.ref fa) →
   ∃ fd:FuncData,(∀ (s:Shared) (u:Value),BindsTo s fd ⟨[u],[]⟩ [(x,u)])∧∀ base:Heap,(K w.params).In base→base.Ns mainGlobals mg→FnOk l.prog w (K w.params) mg base (CX1 l.prog w base) k fa fd [x] (sp w))
  (hsp:∀ (w:World) (H:Hp) (a:Addr) (ns:List Int),ns.length≤n→Only H→SqL (K w.params) H a (ns.map V.int)→sp w [.ref a] H (λ v _=>v = .bl true) λ _ _ _=>False) :
  W.WalkO q loose XP YP l.row.toRowW d [] (λ f vs=>PySem.call f vs):=by
 refine walk_of (x:=x) (K:=K) (CX:=λ _ _ _ _ _ _ _=>False) (sp:=λ w vs H Q E=>sp w vs H Q λ _ _ _=>False) hn hn2 hdf hr hY (λ w mg fa h a b c=>?_) (λ w H a ns h1 h2 h3=>hsp w H a ns h1 h2 h3) λ _ _ _ _ _ z=>z
 obtain ⟨fd,hb,hF⟩:=F w mg fa h a b c
 refine ⟨fd,hb,λ base h1 h2=>?_⟩
 have G:=hF base h1 h2
 refine ⟨λ vs H Q E h=>G.len vs H Q _ h,λ A outer s H args us vs Q E hr he hbi hv h=>codeAny_mono (G.run A outer s H args us vs Q _ hr he hbi hv h) λ r s' z=>?_⟩
 cases r with
 | error e=>obtain ⟨_,_,_,_,_,_,_,_,_,z⟩:=z;exact z
 | ok fl=>cases fl <;> exact z
end L2
namespace L2
open PySem PySem.Spec PyProof.Rows PySem.NumText
section
variable {P:Program} {w:World} {K:W.Frag} {mg:Str→Option Value} {base:Heap} {CX:CXT} {k:Nat} {f:Addr} {fd:FuncData} {ps:List Str}
end
section
variable {X:Cx}
end
end L2
namespace L2
open PySem PySem.Spec PyProof.Rows PySem.NumText
section
variable {X:Cx}
end
theorem Same.seqT {K:W.Frag} {H H':Hp} {a:Addr} {xs:List V} (e:Same H H') (h:SqT K H a xs):SqT K H' a xs:=by
 rcases h with h | h
 ·rcases h with h | ⟨o,h⟩
  ·exact .inl (.inl (e _ _ h))
  ·exact .inl (.inr ⟨o,e _ _ h⟩)
 ·exact .inr h
theorem zpd {J:It} {n:Nat} {nt:Nat} {cap:List Nat} {g:TG} {te:TE} {σ:St} {H1:Hp} {Q:VK} {D:Addr} (val:Nat→V) (R:Nat→V→Hp→Prop) (hD:H1 D=none) (hP:Plain H1) (hx:n≤sizeLine)
  (hJ:∀ i H2,Same H1 H2→(i<n→J.go i H2)∧(J.stop n H2)∧∀ x H3,i<n→J.yld i H2 x H3→H3=H2∧x=val i)
  (mono:∀ i y H H',R i y H→(∀ b o,b≠D→H b=some o→H' b=some o)→(∃ zs,H D=some (.lst zs))→R i y H')
  (step:∀ (i:Nat) H2 (T:VK),i<n→Plain H2→Same H1 H2→(∀ y H6,R i y H6→Same H2 H6→Plain H6→T y H6)→g (val i) (List.replicate nt none++caps cap σ) H2 λ σ4 H4=>te σ4 H4 T)
  (fin:∀ ys H2,ys.length=n→(∀ (i:Nat) y,ys[i]? = some y→R i y H2)→H2 D=some (.lst ys)→Same H1 H2→Plain H2→Q (.ref D) H2) :
  ztw J D nt cap g tYes te σ H1 Q:=by
 refine ⟨λ i m ys H2=>m=n - i∧i≤n∧ys.length=i∧H2 D=some (.lst ys)∧Same H1 H2∧Plain H2∧∀ (j:Nat) y,ys[j]? = some y→R j y H2,⟨_,rfl,Nat.zero_le _,rfl,upd_same,zca hD,hP.lst,λ j y e=>by simp at e⟩,?_⟩
 rintro i m ys H2 ⟨rfl,hi,hl,hd,hs,hp,hr⟩
 refine ⟨hd,?_⟩
 obtain ⟨j1,j2,j3⟩:=hJ i H2 hs
 by_cases hlt:i<n
 ·refine .inr ⟨j1 hlt,by omega,λ v H3 hy=>?_⟩
  obtain ⟨rfl,rfl⟩:=j3 v H3 hlt hy
  simp only [tYes,if_true]
  refine step i _ _ hlt hp hs λ y H6 hR hs6 hp6=>⟨hs6 _ _ hd,_,by omega,rfl,hlt,by simp [hl],upd_same,?_,hp6.lst,?_⟩
  ·exact (hs.trans hs6).upd hD
  ·intro j z e
   have up:∀ b o,b≠D→H6 b=some o→(upd H6 D (.lst (ys++[y]))) b=some o:=λ b o hb e=>by rw [zga hb];exact e
   rcases Nat.lt_or_ge j ys.length with hj | hj
   ·rw [List.getElem?_append_left hj] at e
    refine mono j z H6 _ (mono j z _ H6 (hr j z e) (λ b o _ e=>hs6 b o e) ⟨_,hd⟩) up ⟨_,hs6 _ _ hd⟩
   ·rw [List.getElem?_append_right hj] at e
    have hj0:j - ys.length=0:=by
     rcases Nat.eq_zero_or_pos (j - ys.length) with h0 | h0
     ·exact h0
     ·rw [List.getElem?_eq_none (by simp;omega)] at e;cases e
    rw [hj0] at e
    simp at e
    subst e
    have:j=i:=by omega
    subst this
    exact mono j y H6 _ hR up ⟨_,hs6 _ _ hd⟩
 ·have e:i=n:=by omega
  subst e
  exact .inl ⟨j2,fin ys H2 hl hr hd hs hp⟩
theorem zng {K:W.Frag} {a:Addr} {xs:List V} {H1:Hp} (h:SqL K H1 a xs):∀ i H2,Same H1 H2→(i<xs.length→(Itl K a).go i H2)∧((Itl K a).stop xs.length H2)∧∀ x H3,i<xs.length→(Itl K a).yld i H2 x H3→H3=H2∧x=xs.getD i .non:=λ i H2 e=>by
 refine ⟨λ hi=>⟨xs,xs[i],e.seq h,by simp [hi]⟩,⟨xs,e.seq h,Nat.le_refl _⟩,λ x H3 hi y=>⟨y.1,?_⟩⟩
 have:=y.2 xs (e.seq h)
 rw [List.getD_eq_getElem?_getD,this];rfl
mutual
noncomputable def DV (K:W.Frag) (H:Hp):PyData→V→Prop
 | .none,v=>v = .non
 | .bool b,v=>v = .bl b
 | .int i,v=>v = .int i
 | .str x,v=>v = .str x
 | .list xs,v=>∃ a vs,v = .ref a∧SqL K H a vs∧DVs K H xs vs
 | .tuple xs,v=>∃ a vs,v = .ref a∧SqT K H a vs∧DVs K H xs vs
 | .dict _,_=>False
noncomputable def DVs (K:W.Frag) (H:Hp):List PyData→List V→Prop
 | [],vs=>vs=[]
 | d::ds,vs=>∃ v r,vs=v::r∧DV K H d v∧DVs K H ds r
end
mutual
theorem DV.same {K:W.Frag} {H H':Hp} (e:Same H H'):∀ (d:PyData) (v:V),DV K H d v→DV K H' d v
 | .none,v,h=>h
 | .bool b,v,h=>h
 | .int i,v,h=>h
 | .str x,v,h=>h
 | .list xs,v,⟨a,vs,h1,h2,h3⟩=>⟨a,vs,h1,e.seq h2,DVs.same e xs vs h3⟩
 | .tuple xs,v,⟨a,vs,h1,h2,h3⟩=>⟨a,vs,h1,e.seqT h2,DVs.same e xs vs h3⟩
 | .dict _,v,h=>h.elim
theorem DVs.same {K:W.Frag} {H H':Hp} (e:Same H H'):∀ (ds:List PyData) (vs:List V),DVs K H ds vs→DVs K H' ds vs
 | [],vs,h=>h
 | d::ds,vs,⟨v,r,h1,h2,h3⟩=>⟨v,r,h1,DV.same e d v h2,DVs.same e ds r h3⟩
end
section
variable {X:Cx} {pins:List (Addr×Obj)} {σ:St} {H:Hp} {s:Shared}
mutual
theorem DV.reads (I:Inv X pins σ H s):∀ (d:PyData) (v:V) (u:Value),DV X.K H d v→RelV v u→∃ as,Reads s.heap u d as
 | .none,v,u,h,r=>by cases (show v=V.non from h);cases r;exact ⟨_,.none⟩
 | .bool b,v,u,h,r=>by cases (show v=V.bl b from h);cases r;exact ⟨_,.bool b⟩
 | .int i,v,u,h,r=>by cases (show v=V.int i from h);obtain ⟨t,rfl⟩:=r;exact ⟨_,.int i t⟩
 | .str x,v,u,h,r=>by cases (show v=V.str x from h);obtain ⟨t,rfl⟩:=r;exact ⟨_,.str x t⟩
 | .list xs,v,u,h,r=>by
  obtain ⟨a,vs,rfl,h2,h3⟩:=h
  cases r
  obtain ⟨its,rv,pl,_⟩:=I.list h2
  obtain ⟨o,ho,hc,n,hd⟩:=pl.isList
  obtain ⟨as,ra⟩:=DVs.reads I xs vs its h3 rv
  exact ⟨_,.list ho hc hd (by simpa using ra)⟩
 | .tuple xs,v,u,h,r=>by
  obtain ⟨a,vs,rfl,h2,h3⟩:=h
  cases r
  obtain ⟨its,rv,pl,_⟩:=I.tuple h2
  obtain ⟨o,ho,hc,n,hd⟩:=pl
  obtain ⟨as,ra⟩:=DVs.reads I xs vs its h3 rv
  exact ⟨_,.tuple ho hc hd (by simpa using ra)⟩
 | .dict _,v,u,h,r=>h.elim
theorem DVs.reads (I:Inv X pins σ H s):∀ (ds:List PyData) (vs:List V) (us:List Value),DVs X.K H ds vs→Vals vs us→∃ as,ReadsAll s.heap us ds as
 | [],vs,us,h,r=>by cases (show vs=[] from h);cases r;exact ⟨_,.nil⟩
 | d::ds,vs,us,h,r=>by
  obtain ⟨v,rest,rfl,h2,h3⟩:=h
  cases r with
  | cons r rr =>
   obtain ⟨as,ra⟩:=DV.reads I d _ _ h2 r
   obtain ⟨bs,rb⟩:=DVs.reads I ds _ _ h3 rr
   exact ⟨_,.cons ra rb⟩
end
end
section
variable {X:Cx}
noncomputable def rEqD (K:W.Frag):R2:=λ x y H Q=>∃ d e,DV K H d x∧DV K H e y∧SeqAt.shaped d=true∧SeqAt.shaped e=true∧Q (.bl (PyData.eqv d e)) H
noncomputable def rNeD (K:W.Frag):R2:=λ x y H Q=>∃ d e,DV K H d x∧DV K H e y∧SeqAt.shaped d=true∧SeqAt.shaped e=true∧Q (.bl (!PyData.eqv d e)) H
theorem ztz (hu:X.A.units+64<cLine):OpR X (compareOp .Eq) (rEqD X.K):=by
 intro pins s σ H x y v u Q I rx ry h
 obtain ⟨d,e,hd,he,sd,se,q⟩:=h
 obtain ⟨as,ra⟩:=DV.reads I d x v hd rx
 obtain ⟨bs,rb⟩:=DV.reads I e y u he ry
 exact SeqAt.compareEq_shaped ra rb sd se hu ⟨.bl _,H,I,rfl,q⟩
theorem zqj (hu:X.A.units+64<cLine):OpR X (compareOp .NotEq) (rNeD X.K):=by
 intro pins s σ H x y v u Q I rx ry h
 obtain ⟨d,e,hd,he,sd,se,q⟩:=h
 obtain ⟨as,ra⟩:=DV.reads I d x v hd rx
 obtain ⟨bs,rb⟩:=DV.reads I e y u he ry
 exact SeqAt.compareNe_shaped ra rb sd se hu ⟨.bl _,H,I,rfl,q⟩
end
noncomputable def zr3 {α:Type} (Pre:α→List V→Hp→Prop) (Post:α→V→Hp→Prop) (Exc:α→Addr→Prop):Sp:=λ vs H Q E=>Plain H∧∃ a,Pre a vs H∧(∀ v H',Post a v H'→Same H H'→Plain H'→Q v H')∧(∀ C H',Exc a C→Same H H'→Plain H'→E (.ref C) none H')
end L2
namespace L2
open PySem PySem.Spec PyProof.Rows PySem.NumText
section
variable {X:Cx}
theorem zzl {use:Option (Value→Sem Unit)} {QQ:Value→Shared→Prop} {p0:Pos} {pins:List (Addr×Obj)} {s:Shared} {σ:St} {H:Hp} {Q:VK} {elt tg iter:Expr} {ifs:List Expr} {scope:Scope} {pos:Pos} {N':List Str} {nt:Nat} {cap:List Nat} {wi:TI} {g:TG} {ti:TT} {te:TE}
  (EK:Addr→Shared→Hp→List Addr→(Value→Shared→Prop)→Prop)
  (hE:∀ (pins:List (Addr×Obj)) (σ:St) (s3:Shared) (H3:Hp) (fp:List Addr) (Q:VK) (D:Addr),Inv X pins σ H3 s3→(∀ b∈fp,FpOk X pins H3 b) →
   EK s3.heap.objs.size s3 H3 fp (notedBy (model X.prog X.w) X.A (compEnvC scope (clOf scope X.env) s3.heap.objs.size X.env) λ e s'=>compPost (model X.prog X.w) X.A X.xe none (EP X pins σ Q) (.ref D) s3.heap.objs.size (.error e) s'))
  (hc:X.calm=true) (hi:PI X tg iter wi)
  (hg:∀ C s₀ H₀ fp E',EK C s₀ H₀ fp E'→PG (X.comp scope C s₀ H₀ fp N' E') tg g)
  (hif:∀ C s₀ H₀ fp E',EK C s₀ H₀ fp E'→PIf (X.comp scope C s₀ H₀ fp N' E') ifs ti)
  (he:∀ C s₀ H₀ fp E',EK C s₀ H₀ fp E'→PE (X.comp scope C s₀ H₀ fp N' E') elt te)
  (hk:scope.kind = .function) (hb:zvc scope X.env=true) (hcap:zwn X scope N' nt cap=true)
  (hgk:zee nt g) (hs:∀ x,foldedSetIterable iter X.env x=pure x) (I:Inv X pins σ H s) (h:zgx wi nt cap g ti te σ H Q)
  (fin:∀ (D C:Addr) (m:Str→Option Value) (H5:Hp) (s6:Shared),Inv X pins σ H5 s6→Q (.ref D) H5→s6.heap.Ns C m→C≠X.env.locals→(∀ x c,X.env.cells.lookup x=some c→c≠C)→(∀ H',H' C=none→FpOk X pins H' C)→H5 C=none →
   compPost (model X.prog X.w) X.A X.xe use QQ (.ref D) C (.ok .next) s6) :
  wpAny (model X.prog X.w) X.A (comprehension (.ListComp elt [⟨tg,iter,ifs,0⟩] scope pos) scope X.env p0 (newList []) false (eval iter X.env) use) QQ X.xe s:=by
 have hclos:closureFor scope X.env=pure (clOf scope X.env):=zcd λ p hp e=>I.ok.has p.1 (zlb hb p hp e)
 refine wpAny_comprehension_free (use:=use) rfl hs hclos hk (zac hb) (thn (hi pins s σ H _ I h) λ v s1 h1=>thn h1 λ itv s2 h2=>?_)
 obtain ⟨it,fp,tn,J,H2,e,I2,T,st2,f2,q2⟩:=h2
 subst e
 refine wpAny_newObj_type (wpAny_newFunctionEnv (zwb hb) (by intro y hy;simp at hy) (λ h₁ hns₁ hsb₁=>?_) hk)
 have I3:=I2.lnew (ys:=[]) (its:=[]) (t':=s2.toks) .nil (Nat.zero_le _)
 have hfl:∀ b∈fp,b<s2.heap.objs.size:=λ b hb'=>let ⟨o,e,_⟩:=T.obj 0 _ st2 b hb';Heap.lt_size e
 obtain ⟨W,⟨m0,w0⟩,turn⟩:=q2 s2.heap.objs.size (I2.hok.fresh (Nat.le_refl _))
 have nD:∀ b∈fp,b≠s2.heap.objs.size:=λ b hb'=>Nat.ne_of_lt (hfl b hb')
 have f3:∀ b∈fp,FpOk X pins (upd H2 s2.heap.objs.size (.lst [])) b:=λ b hb'=>⟨by rw [zga (nD b hb')];exact (f2 b hb').1,(f2 b hb').2⟩
 obtain ⟨s3,hs3⟩:∃ s3:Shared,s3={ s2 with heap:=s2.heap.push { cls := .type "list",data := .seq ([]:List Value).toArray },toks:=s2.toks }:=⟨_,rfl⟩
 have hs3':s3.heap=s2.heap.push { cls := .type "list",data := .seq ([]:List Value).toArray }:=by rw [hs3]
 rw [← hs3] at I3
 have hsz:s3.heap.objs.size=s2.heap.objs.size+1:=by rw [hs3',Heap.size_push]
 have hfl3:∀ b∈fp,b<s3.heap.objs.size:=λ b hb'=>by rw [hsz];exact Nat.lt_succ_of_lt (hfl b hb')
 have hC:(s2.heap.push { cls:=Value.type "list",dict:=none,data:=Data.seq ([]:List Value).toArray }).objs.size=s3.heap.objs.size:=by rw [hs3']
 dsimp only at hns₁ hsb₁ ⊢
 rw [hC] at hns₁ hsb₁ ⊢
 rw [← hs3'] at hsb₁
 have kp:∀ b o,s3.heap.get? b=some o→h₁.get? b=some o:=λ b o e=>hsb₁.extBut b o (Nat.ne_of_lt (Heap.lt_size e)) (Heap.get?_push_of_some _ e)
 have hEE:=hE pins σ s3 _ fp Q s2.heap.objs.size I3 f3
 generalize hE':(notedBy (model X.prog X.w) X.A (compEnvC scope (clOf scope X.env) s3.heap.objs.size X.env) λ e s'=>compPost (model X.prog X.w) X.A X.xe none (EP X pins σ Q) (.ref s2.heap.objs.size) s3.heap.objs.size (.error e) s')=E' at hEE
 have hE2:(notedBy (model X.prog X.w) X.A (compEnvC scope (clOf scope X.env) s3.heap.objs.size X.env) λ e s'=>compPost (model X.prog X.w) X.A X.xe use QQ (.ref s2.heap.objs.size) s3.heap.objs.size (.error e) s')=E':=hE'
 have I4:=zbd (t4:=s2.toks+([]:List (Str×Value)).length) (E':=E') I3 hk hb hcap f3 hfl3 hns₁ kp
 have st4:tn 0 h₁:=T.keep 0 _ _ st2 λ b hb' o e=>kp b o (by rw [hs3'];exact Heap.get?_push_of_some _ e)
 obtain ⟨s4,hs4⟩:∃ s4:Shared,s4={ s3 with heap:=h₁,toks:=s2.toks+([]:List (Str×Value)).length }:=⟨_,rfl⟩
 rw [← hs4] at I4
 have st4':tn 0 s4.heap:=by rw [hs4];exact st4
 have cin:∀ x c,(clOf scope X.env).lookup x=some c→X.env.cells.lookup x=some c:=λ x c e=>zyv scope.names [] (λ y d q=>by simp at q) e
 have stat:∀ {H':Hp},(∀ b∈fp,H' b=none)→∀ b∈fp,FpOk (X.comp scope s3.heap.objs.size s3 (upd H2 s2.heap.objs.size (.lst [])) fp N' E') [] H' b:=λ hn b hb'=>by
  refine ⟨hn b hb',Nat.ne_of_lt (hfl3 b hb'),λ z=>?_,.inl hb',λ x c e=>(f3 b hb').2.2.2.2.1 x c (cin x c e),λ p hp=>absurd hp (by simp [Cx.comp])⟩
  rcases List.mem_cons.mp (I3.stkSub b z) with z | z
  ·exact (f3 b hb').2.1 z
  ·exact (f3 b hb').2.2.1 z
 have loop:codeAny (model X.prog X.w) X.A (.compLoop (.ListComp elt [⟨tg,iter,ifs,0⟩] scope pos) 0 (.ref it) (.ref s2.heap.objs.size) (compEnvC scope (clOf scope X.env) s3.heap.objs.size X.env))
   (compPost (model X.prog X.w) X.A X.xe use QQ (.ref s2.heap.objs.size) s3.heap.objs.size) s4:=by
  refine zqe (λ n s'=>∃ i ys H',Inv (X.comp scope s3.heap.objs.size s3 (upd H2 s2.heap.objs.size (.lst [])) fp N' E') [] (List.replicate nt none++caps cap σ) H' s'∧tn i s'.heap∧(∀ b∈fp,H' b=none)∧W i n ys H') ?_ m0
   ⟨0,[],_,I4,st4',λ b hb'=>(f3 b hb').1,w0⟩
  rintro n s5 ⟨i,ys,H5,I5,st5,fr5,w5⟩
  rw [hE2]
  obtain ⟨hD5,alt⟩:=turn i n ys H5 w5
  rcases alt with ⟨stop,qn⟩ | ⟨go,hyl,step⟩
  ·refine thn (T.done (X.comp scope s3.heap.objs.size s3 (upd H2 s2.heap.objs.size (.lst [])) fp N' E') rfl rfl rfl hc i [] s5 _ H5 E' I5 (stat fr5) st5 stop) λ r s6 ⟨hr,I6⟩=>?_
   subst hr
   obtain ⟨m6,hn6,_⟩:=I6.loc
   have I7:=zie I3 f3 I6
   refine fin _ _ m6 H5 s6 I7 qn hn6 ?_ ?_ (λ H' hn=>I3.fpOk (Nat.le_refl _) hn) I6.free
   ·intro z
    exact absurd (Nat.lt_of_lt_of_le I3.lt (Nat.le_of_eq z)) (Nat.lt_irrefl _)
   ·intro x c e z
    obtain ⟨v,q⟩:=I3.cell x c e
    exact absurd (Nat.lt_of_lt_of_le q.lt (by rw [z];exact Nat.le_refl _)) (Nat.lt_irrefl _)
  ·refine thn (T.item (X.comp scope s3.heap.objs.size s3 (upd H2 s2.heap.objs.size (.lst [])) fp N' E') rfl rfl rfl hc i [] s5 _ H5 E' I5 (stat fr5) st5 go) λ r s6 ⟨u,hr,h6⟩=>?_
   subst hr
   refine thn h6 λ _ s7 ⟨x,H7,I7,r7,y7,st7,fr7⟩=>?_
   have I7':=I7.pinned (stat fr7) (T.obj _ _ st7)
   have again:∀ {σ8:St} {H8:Hp} {ys':List V} {s8:Shared},Inv (X.comp scope s3.heap.objs.size s3 (upd H2 s2.heap.objs.size (.lst [])) fp N' E') ([]++zli fp s7.heap) σ8 H8 s8→(∃ m',m'<n∧W (i+1) m' ys' H8)→(∀ (j:Nat) v,(List.replicate nt none++caps cap σ)[j]? = some (some v)→σ8[j]? = some (some v)) →
     ∃ m,m<n∧∃ i ys H',Inv (X.comp scope s3.heap.objs.size s3 (upd H2 s2.heap.objs.size (.lst [])) fp N' E') [] (List.replicate nt none++caps cap σ) H' s8∧tn i s8.heap∧(∀ b∈fp,H' b=none)∧W i m ys H':=fun {σ8 H8 ys' s8} I8 ⟨m',hm,w8⟩ hσ=>by
    refine ⟨m',hm,i+1,ys',H8,I8.unpinned.weak (by rw [I8.len,I5.len]) hσ,T.keep _ _ _ st7 λ b hb o e=>(I8.pin (b,o) (List.mem_append_right _ (List.mem_append_right _ (zta hb e)))).1,λ b hb=>?_,w8⟩
    obtain ⟨o,e,d⟩:=T.obj _ _ st7 b hb
    exact (I8.pin (b,o) (List.mem_append_right _ (List.mem_append_right _ (zta hb e)))).2.1
   refine thn (hg _ _ _ _ _ hEE _ s7 _ H7 x u _ I7' r7 (hgk x _ H7 _ (step x H7 y7))) λ _ s8 ⟨σ8,H8,I8,q8,hσ⟩=>?_
   refine thn (hif _ _ _ _ _ hEE _ s8 σ8 H8 _ I8 q8) λ ok s9 ⟨H9,I9,q9⟩=>?_
   cases ok with
   | false =>
    rw [if_neg Bool.false_ne_true] at q9 ⊢
    exact again I9 q9 hσ
   | true =>
    rw [if_pos rfl] at q9 ⊢
    refine thn (he _ _ _ _ _ hEE _ s9 σ8 H9 _ I9 q9) λ y s10 ⟨vy,H10,I10,r10,hD10,hm10⟩=>?_
    exact thn (zob (X:=X.comp scope s3.heap.objs.size s3 (upd H2 s2.heap.objs.size (.lst [])) fp N' E') _ s10 σ8 H10 (.ref s2.heap.objs.size) [vy] (.ref s2.heap.objs.size) [y] (λ _ H'=>H'=upd H10 s2.heap.objs.size (.lst (ys++[vy]))) I10 rfl (.cons r10 .nil) ⟨_,_,_,rfl,rfl,hD10,hyl,rfl⟩) λ _ s11 ⟨_,H11,I11,_,e11⟩=>by
     subst e11
     exact again I11 hm10 hσ
 have e4:({ s2 with heap:=h₁,toks:=s2.toks+([]:List (Str×Value)).length }:Shared)=s4:=by rw [hs4,hs3]
 show codeAny _ _ _ _ { s2 with heap:=h₁,toks:=s2.toks+([]:List (Str×Value)).length }
 rw [e4]
 exact codeAny_compStart_list loop (T.self X.A 0 s4 _ _ st4' loop)
theorem zqu {elt tg iter:Expr} {ifs:List Expr} {scope:Scope} {cpos pos pos':Pos} {N':List Str} {nt:Nat} {cap:List Nat} {wi:TI} {g:TG} {ti:TT} {te:TE} {i:Nat} {x:Str}
  (EK:Addr→Shared→Hp→List Addr→(Value→Shared→Prop)→Prop)
  (hE:∀ (pins:List (Addr×Obj)) (σ:St) (s3:Shared) (H3:Hp) (fp:List Addr) (Q:VK) (D:Addr),Inv X pins σ H3 s3→(∀ b∈fp,FpOk X pins H3 b) →
   EK s3.heap.objs.size s3 H3 fp (notedBy (model X.prog X.w) X.A (compEnvC scope (clOf scope X.env) s3.heap.objs.size X.env) λ e s'=>compPost (model X.prog X.w) X.A X.xe none (EP X pins σ Q) (.ref D) s3.heap.objs.size (.error e) s'))
  (hc:X.calm=true) (hi:PI X tg iter wi)
  (hg:∀ C s₀ H₀ fp E',EK C s₀ H₀ fp E'→PG (X.comp scope C s₀ H₀ fp N' E') tg g)
  (hif:∀ C s₀ H₀ fp E',EK C s₀ H₀ fp E'→PIf (X.comp scope C s₀ H₀ fp N' E') ifs ti)
  (he:∀ C s₀ H₀ fp E',EK C s₀ H₀ fp E'→PE (X.comp scope C s₀ H₀ fp N' E') elt te)
  (hk:scope.kind = .function) (hb:zvc scope X.env=true) (hcap:zwn X scope N' nt cap=true)
  (hgk:zee nt g) (hs:∀ x,foldedSetIterable iter X.env x=pure x)
  (hN:X.N.Nodup) (hix:X.N[i]? = some x) (hx:Loc X.env.scope x) (hf:X.fn x=true ∨ X.env.scope.names.lookup x=some .local)
  (hsw:swapsWith (.ListComp elt [⟨tg,iter,ifs,0⟩] scope cpos) (some (.Name x pos')) pos.line X.env=pure true) :
  PS X (.Assign [.Name x pos'] (.ListComp elt [⟨tg,iter,ifs,0⟩] scope cpos) pos) (tAsg (zgx wi nt cap g ti te) (zfk i)) := .mk <| by
 intro pins s σ H D I h
 rw [exec_Assign_Name_used _ _ _ _ hsw]
 refine wpAny_bind (wpAny_standAt (wpAny_bind ?_))
 show wpAny _ X.A (do let _ ← comprehension (.ListComp elt [⟨tg,iter,ifs,0⟩] scope cpos) scope X.env _ (newList []) false (eval iter X.env) (some (assign (.Name x pos') X.env))) _ _ s
 refine wpAny_bind (thn (zzl (use:=some (assign (.Name x pos') X.env)) (QQ:=λ _ s'=>SP X pins D .next s') EK hE hc hi hg hif he hk hb hcap hgk hs I h ?_) λ _ s' hq=>wpAny_pure (wpAny_pure hq))
 intro Da C m H5 s6 I6 q6 hn hC hcell hfp h5
 show wpAny _ _ (assign (.Name x pos') X.env (.ref Da)) _ _ s6
 refine wpAny_assign_Name (zog I6 hN hix hx (v := .ref Da) rfl (λ s7 I7 ⟨a,hsb,ha⟩=>?_) hf)
 have hCa:C≠a:=by
  rcases ha with rfl | ha
  ·exact hC
  ·exact λ z=>hcell x a ha z.symm
 refine ⟨m,hn.sameBut hsb hCa,λ h' hsb'=>⟨_,H5,?_,q6⟩⟩
 refine I7.turnedL (ch:=[C]) (t':=s7.toks) (λ b hb'=>?_) λ b u hb' e=>(hsb'.2 b λ z=>hb' (by simp [z])).trans e
 have eb:b=C:=by simpa using hb'
 subst eb
 exact hfp _ h5
theorem zyx {elt tg iter:Expr} {ifs:List Expr} {scope:Scope} {cpos pos pos':Pos} {wi:TI} {g:TG} {ti:TT} {te:TE} {i:Nat} {x:Str} (N':List Str) (nt:Nat) (cap:List Nat)
  (hN:X.N.Nodup) (hix:X.N[i]? = some x) (hx:Loc X.env.scope x)
  (hc:X.calm=true) (hi:PI X tg iter wi) (hgk:zee nt g)
  (hg:∀ C s₀ H₀ fp E',PG (X.comp scope C s₀ H₀ fp N' E') tg g)
  (hif:∀ C s₀ H₀ fp E',PIf (X.comp scope C s₀ H₀ fp N' E') ifs ti)
  (he:∀ C s₀ H₀ fp E',PE (X.comp scope C s₀ H₀ fp N' E') elt te)
  (hk:scope.kind = .function:=by rfl) (hb:zvc scope X.env=true:=by rfl) (hcap:zwn X scope N' nt cap=true:=by rfl)
  (hs:∀ x,foldedSetIterable iter X.env x=pure x:=by intro _;rfl) (hf:X.fn x=true ∨ X.env.scope.names.lookup x=some .local:=by first | exact .inl rfl | exact .inr rfl | assumption)
  (hsw:swapsWith (.ListComp elt [⟨tg,iter,ifs,0⟩] scope cpos) (some (.Name x pos')) pos.line X.env=pure true:=by rfl) :
  PS X (.Assign [.Name x pos'] (.ListComp elt [⟨tg,iter,ifs,0⟩] scope cpos) pos) (tAsg (zgx wi nt cap g ti te) (zfk i)) :=
 zqu (λ _ _ _ _ _=>True) (λ _ _ _ _ _ _ _ _ _=>trivial) hc hi (λ C s₀ H₀ fp E' _=>hg C s₀ H₀ fp E') (λ C s₀ H₀ fp E' _=>hif C s₀ H₀ fp E') (λ C s₀ H₀ fp E' _=>he C s₀ H₀ fp E') hk hb hcap hgk hs hN hix hx hf hsw
end
end L2
namespace HT
open PySem PySem.Spec PyProof.Rows
section
variable {prog:Program} {w:World} {A:Around} {E:Value→Shared→Prop} {s:Shared}
end
end HT
namespace L2
open PySem PySem.Spec PyProof.Rows PySem.NumText
section
variable {X:Cx}
end
mutual
noncomputable def noL:PyData→Bool
 | .list _=>false
 | .tuple xs=>noLs xs
 | _=>true
noncomputable def noLs:List PyData→Bool
 | []=>true
 | d::ds=>noL d && noLs ds
end
theorem SqT.mono {K:W.Frag} {H H':Hp} {a D:Addr} {xs:List V} (k:∀ b o,b≠D→H b=some o→H' b=some o) (hd:∃ zs,H D=some (.lst zs)) (h:SqT K H a xs):SqT K H' a xs:=by
 obtain ⟨zs,hd⟩:=hd
 rcases h with h | h
 ·rcases h with h | ⟨o,h⟩
  ·exact .inl (.inl (k _ _ (zcp h hd (λ e=>nomatch e)) h))
  ·exact .inl (.inr ⟨o,k _ _ (zcp h hd (λ e=>nomatch e)) h⟩)
 ·exact .inr h
mutual
theorem DV.mono {K:W.Frag} {H H':Hp} {D:Addr} (k:∀ b o,b≠D→H b=some o→H' b=some o) (hd:∃ zs,H D=some (.lst zs)):∀ (d:PyData) (v:V),noL d=true→DV K H d v→DV K H' d v
 | .none,v,_,h=>h
 | .bool b,v,_,h=>h
 | .int i,v,_,h=>h
 | .str x,v,_,h=>h
 | .list xs,v,n,_=>by cases n
 | .tuple xs,v,n,⟨a,vs,h1,h2,h3⟩=>⟨a,vs,h1,h2.mono k hd,DVs.mono k hd xs vs n h3⟩
 | .dict _,v,_,h=>h.elim
theorem DVs.mono {K:W.Frag} {H H':Hp} {D:Addr} (k:∀ b o,b≠D→H b=some o→H' b=some o) (hd:∃ zs,H D=some (.lst zs)):∀ (ds:List PyData) (vs:List V),noLs ds=true→DVs K H ds vs→DVs K H' ds vs
 | [],vs,_,h=>h
 | d::ds,vs,n,⟨v,r,h1,h2,h3⟩=>by
  have n:noL d=true∧noLs ds=true:=by rw [noLs,Bool.and_eq_true] at n;exact n
  exact ⟨v,r,h1,DV.mono k hd d v n.1 h2,DVs.mono k hd ds r n.2 h3⟩
end
theorem DVs.length {K:W.Frag} {H:Hp}:∀ {ds:List PyData} {vs:List V},DVs K H ds vs→vs.length=ds.length
 | [],vs,h=>by cases (show vs=[] from h);rfl
 | d::ds,vs,⟨v,r,h1,h2,h3⟩=>by subst h1;simp [DVs.length h3]
theorem DVs.get {K:W.Frag} {H:Hp}:∀ {ds:List PyData} {vs:List V} {i:Nat} {d:PyData},DVs K H ds vs→ds[i]? = some d→∃ v,vs[i]? = some v∧DV K H d v
 | [],vs,i,d,h,e=>by simp at e
 | d::ds,vs,0,e',⟨v,r,h1,h2,h3⟩,e=>by subst h1;simp at e;subst e;exact ⟨v,rfl,h2⟩
 | d::ds,vs,i+1,e',⟨v,r,h1,h2,h3⟩,e=>by subst h1;simp at e;obtain ⟨u,hu,q⟩:=DVs.get h3 e;exact ⟨u,by simpa using hu,q⟩
theorem DVs.append {K:W.Frag} {H:Hp}:∀ {ds es:List PyData} {vs us:List V},DVs K H ds vs→DVs K H es us→DVs K H (ds++es) (vs++us)
 | [],es,vs,us,h,h'=>by cases (show vs=[] from h);exact h'
 | d::ds,es,vs,us,⟨v,r,h1,h2,h3⟩,h'=>by subst h1;exact ⟨v,r++us,rfl,h2,DVs.append h3 h'⟩
theorem DVs.of {α:Type} {K:W.Frag} {H:Hp} {f:α→PyData}:∀ {xs:List α} {vs:List V},vs.length=xs.length→(∀ (i:Nat) v x,vs[i]? = some v→xs[i]? = some x→DV K H (f x) v)→DVs K H (xs.map f) vs
 | [],vs,hl,h=>by cases vs with | nil=>rfl | cons _ _=>simp at hl
 | x::xs,vs,hl,h=>by
  cases vs with
  | nil=>simp at hl
  | cons v vs=>exact ⟨v,vs,rfl,h 0 v x rfl rfl,DVs.of (by simpa using hl) λ i u y e1 e2=>h (i+1) u y (by simpa using e1) (by simpa using e2)⟩
theorem znz {lo:Int} {n:Nat} {H1:Hp}:∀ i H2,Same H1 H2→(i<n→(Itr lo n).go i H2)∧((Itr lo n).stop n H2)∧∀ x H3,i<n→(Itr lo n).yld i H2 x H3→H3=H2∧x=V.int (lo+(i:Nat)):=λ i H2 e =>
 ⟨λ hi=>hi,Nat.le_refl _,λ x H3 hi y=>y⟩
theorem gk3 {K:W.Frag}:zee 3 (gTup K 3 (zep (zfk 0) (zep (zfk 1) (zep (zfk 2) gNil)))):=λ x c H Q h=>by
 obtain ⟨a,xs,e1,hq,hl,v,r,e2,v',r',e3,v2,r2,e4,e5,h⟩:=h
 refine ⟨a,xs,e1,hq,hl,v,r,e2,v',r',e3,v2,r2,e4,e5,h,λ j v e=>?_⟩
 match j,e with
 | 0,e=>simp [List.replicate] at e
 | 1,e=>simp [List.replicate] at e
 | 2,e=>simp [List.replicate] at e
 | j+3,e=>simpa [List.replicate,List.set] using e
section
variable {X:Cx} {K:W.Frag}
theorem zmo (h:X.K=K):IxR X (rIxL K):=h ▸ zla
end
end L2
namespace L2
open PySem PySem.Spec PyProof.Rows PySem.NumText
noncomputable abbrev Stp:=Int×Int×Int
noncomputable def stp (s:Stp):PyData := .tuple [.int s.1,.int s.2.1,.int s.2.2]
noncomputable def plc (ss:List Stp):PyData := .tuple (ss.map stp)
noncomputable abbrev sV (s:Stp):List V:=[.int s.1,.int s.2.1,.int s.2.2]
theorem zzw {K:W.Frag} {H:Hp} {s:Stp} {t:Addr} (h:SqT K H t (sV s)):DV K H (stp s) (.ref t):=⟨t,_,rfl,h,_,_,rfl,rfl,_,_,rfl,rfl,_,_,rfl,rfl,rfl⟩
theorem zpy (s:Stp):noL (stp s)=true:=rfl
theorem zkj:∀ ss:List Stp,noLs (ss.map stp)=true
 | []=>rfl
 | s::ss=>by rw [List.map_cons,noLs,zpy,zkj ss];rfl
theorem zvw (ss:List Stp):noL (plc ss)=true:=zkj ss
theorem zuf:∀ ss:List Stp,PyData.canLayAll0 (ss.map stp)=true
 | []=>rfl
 | s::ss=>by
  rw [List.map_cons,PyData.canLayAll0,zuf ss]
  rfl
theorem zlc:∀ ss:List Stp,PyData.depthAll (ss.map stp)≤1
 | []=>Nat.zero_le _
 | s::ss=>by
  rw [List.map_cons,PyData.depthAll]
  have h1:PyData.depth (stp s)=1:=rfl
  have h2:=zlc ss
  rw [h1]
  omega
theorem zto (ss:List Stp):PyData.canLay0 (plc ss)=true:=zuf ss
theorem zky (a b:Stp):PyData.eqv (stp a) (stp b)=decide (a=b):=by
 obtain ⟨a1,a2,a3⟩:=a
 obtain ⟨b1,b2,b3⟩:=b
 have e:PyData.eqv (stp (a1,a2,a3)) (stp (b1,b2,b3))=(a1 == b1 && (a2 == b2 && (a3 == b3 && true))):=rfl
 rw [e,Bool.eq_iff_iff]
 simp
theorem zun:∀ a b:List Stp,PyData.eqvAll (a.map stp) (b.map stp)=decide (a=b)
 | [],[]=>rfl
 | [],_::_=>rfl
 | _::_,[]=>rfl
 | x::a,y::b=>by
  rw [List.map_cons,List.map_cons,PyData.eqvAll,zky,zun a b,Bool.eq_iff_iff]
  simp
theorem zix (a b:List Stp):PyData.eqv (plc a) (plc b)=decide (a=b):=zun a b
end L2
namespace L2
open PySem PySem.Spec PyProof.Rows PySem.NumText
noncomputable def lexD (e r:Nat→Bool) (d:Bool):List Nat→Bool
 | []=>d
 | j::js=>if e j=true then lexD e r d js else r j
noncomputable def zxr (op:CmpOp) (A:Around) (s:Shared) (y x:Value) (b:Bool):Prop :=
 ∀ (prog:Program) (w:World) (E:Value→Shared→Prop) (Q:Value→Shared→Prop),Q (.bool b) s→wpAny (model prog w) A (richCompare op y x) Q E s
section
open PySem.SeqAt
open PySem.AutoSeq1 (wpAny_loadPart')
open PySem.MeetsSeq PySem.MeetsSeq2 PySem.MeetsSeq3
end
theorem zno (e r:Nat→Bool) (d:Bool):∀ js:List Nat,lexD e r d (js.map Nat.succ)=lexD (λ j=>e (j+1)) (λ j=>r (j+1)) d js
 | []=>rfl
 | j::js=>by
  rw [List.map_cons,lexD,lexD,zno e r d js]
section
variable {X:Cx} {pins:List (Addr×Obj)} {σ:St} {H:Hp} {s:Shared} {A:Around}
end
section
variable {X:Cx} {K:W.Frag}
end
theorem Room.u100 {k:Nat} {A:Around} (r:Room k A):A.units+100<cLine:=by have:=r.un;omega
end L2
namespace L2
open PySem PySem.Spec PyProof.Rows PySem.NumText
section
open PySem.SeqAt
open PySem.AutoSeq1 (wpAny_loadPart')
open PySem.MeetsSeq PySem.MeetsSeq2 PySem.MeetsSeq3
theorem zfl (l b:Addr) (items items2:Array Value) (n n2:Nat) (dd dd2:Option Addr) (sl sl2:Array (Option Value)) (e r:Nat→Bool) :
  Meets (Builtin.«tuple.__lt__» ⟨[.ref l,.ref b],[]⟩)
   (λ A R s=>s.heap.get? l=some { cls := .type "tuple",dict:=dd,data := .seq items n,slots:=sl }∧s.heap.get? b=some { cls := .type "tuple",dict:=dd2,data := .seq items2 n2,slots:=sl2 } ∧
    (∀ j (h1:j<items.size) (h2:j<items2.size),EqAt A.in1 s items[j] items2[j] (e j)) ∧
    (∀ j (h1:j<items.size) (h2:j<items2.size),(∀ i,i<j→e i=true)→e j=false→zxr .Lt A.in1 s items[j] items2[j] (r j)) ∧
    R (.ok (.ret (.bool (lexD e r (decide (items.size<items2.size)) (List.range (min items.size items2.size)))))) s) :=
 .of_wp λ prog w A R s h=>by
  obtain ⟨hp,g,d,tk,os⟩:=s;obtain ⟨hl,hb,he,hc,h⟩:=h
  have f2:=AutoSeq1.sub_tuple_tuple
  have hZ:(items.toList.zip items2.toList).length=min items.size items2.size:=by simp
  wp_walk using wpAny_loadPart' hl,wpAny_loadPart' hb,wpAny_forIn_list _ (λ rest b s'=>b.1=none∧s'=⟨hp,g,d,tk,os⟩∧∃ i,rest=(items.toList.zip items2.toList).drop i∧(∀ k,k<i→e k=true) ∧
   R (.ok (.ret (.bool (lexD e r (decide (items.size<items2.size)) ((List.range (min items.size items2.size)).drop i))))) ⟨hp,g,d,tk,os⟩) _
  case turn =>
   rintro ⟨y,x⟩ rest b s' ⟨hb',rfl,i,hz,hall,hR⟩
   have hlt:i<(items.toList.zip items2.toList).length:=by
    rcases Nat.lt_or_ge i (items.toList.zip items2.toList).length with h' | h'
    ·exact h'
    ·rw [List.drop_of_length_le h'] at hz;cases hz
   have hm:i<min items.size items2.size:=hZ ▸ hlt
   have h1:i<items.size:=Nat.lt_of_lt_of_le hm (Nat.min_le_left _ _)
   have h2:i<items2.size:=Nat.lt_of_lt_of_le hm (Nat.min_le_right _ _)
   rw [List.drop_eq_getElem_cons hlt] at hz
   injection hz with hyx hrest
   have hy:y=items[i]:=by have:=congrArg Prod.fst hyx;simpa using this
   have hx:x=items2[i]:=by have:=congrArg Prod.snd hyx;simpa using this
   subst hy hx
   have hd:(List.range (min items.size items2.size)).drop i=i::(List.range (min items.size items2.size)).drop (i+1):=by simp [List.drop_eq_getElem_cons,hm]
   rw [hd,lexD] at hR
   refine wpAny_bind (he i h1 h2 prog w _ _ ?_)
   cases hy:e i with
   | true =>
    rw [hy,if_pos rfl] at hR
    wp_walk
    exact ⟨rfl,rfl,i+1,hrest,λ k hk=>by
     rcases Nat.lt_or_ge k i with h' | h'
     ·exact hall k h'
     ·have:k=i:=by omega
      rw [this];exact hy,hR⟩
   | false =>
    rw [hy,if_neg Bool.false_ne_true] at hR
    have hri:=hc i h1 h2 hall hy prog w
    wp_walk using hri
    exact ⟨_,rfl,by simpa using hR⟩
  case fin =>
   rintro ⟨b1,b2⟩ s' ⟨hb',rfl,i,hz,hall,hR⟩
   simp only at hb'
   subst hb'
   have hge:min items.size items2.size≤i:=by
    rw [← hZ]
    rcases Nat.lt_or_ge i (items.toList.zip items2.toList).length with h' | h'
    ·rw [List.drop_eq_getElem_cons h'] at hz;cases hz
    ·exact h'
   rw [List.drop_of_length_le (by simpa using hge),lexD] at hR
   wp_walk
   exact ⟨_,rfl,by simpa [Builtin.Tuple.tupleCompareSizes] using hR⟩
  case h =>
   exact ⟨rfl,rfl,0,rfl,λ k hk=>absurd hk (Nat.not_lt_zero _),h⟩
theorem zwq {prog:Program} {w:World} {A:Around} {E:Value→Shared→Prop} {s:Shared} {l b:Addr} {items items2:Array Value} {e r:Nat→Bool} {Q:Value→Shared→Prop} (hl:IsTup s.heap l items) (hb:IsTup s.heap b items2)
  (he:∀ j (h1:j<items.size) (h2:j<items2.size),EqAt A.in1 s items[j] items2[j] (e j)) (hc:∀ j (h1:j<items.size) (h2:j<items2.size),(∀ i,i<j→e i=true)→e j=false→zxr .Lt A.in1 s items[j] items2[j] (r j))
  (hu:A.units<cLine) (h:Q (.bool (lexD e r (decide (items.size<items2.size)) (List.range (min items.size items2.size)))) s):wpAny (model prog w) A (compareOp .Lt (.ref l) (.ref b)) Q E s:=by
 obtain ⟨⟨cls,dd,data,sl⟩,ho,hc1,n,hd⟩:=id hl
 obtain ⟨⟨cls2,dd2,data2,sl2⟩,ho2,hc2,n2,hd2⟩:=id hb
 simp only at hc1 hd hc2 hd2
 subst hc1 hd hc2 hd2
 refine richCompare_meets_room (op := .Lt) ⟨_,ho,rfl⟩ ⟨_,ho2,rfl⟩ PySem.F.slot_tuple_lt PySem.F.entry_tuple_lt (PySem.F.args_tuple_lt_2 _ _) (zfl l b items items2 n n2 dd dd2 sl sl2 e r) ⟨ho,ho2,he,hc,?_⟩ hu
 exact (show Value.bool _≠Value.notImplemented∧Q (.bool _) s from ⟨(λ x=>nomatch x),h⟩)
theorem zil (l b:Addr) (items items2:Array Value) (n n2:Nat) (dd dd2:Option Addr) (sl sl2:Array (Option Value)) (e r:Nat→Bool) :
  Meets (Builtin.«tuple.__ge__» ⟨[.ref l,.ref b],[]⟩)
   (λ A R s=>s.heap.get? l=some { cls := .type "tuple",dict:=dd,data := .seq items n,slots:=sl }∧s.heap.get? b=some { cls := .type "tuple",dict:=dd2,data := .seq items2 n2,slots:=sl2 } ∧
    (∀ j (h1:j<items.size) (h2:j<items2.size),EqAt A.in1 s items[j] items2[j] (e j)) ∧
    (∀ j (h1:j<items.size) (h2:j<items2.size),(∀ i,i<j→e i=true)→e j=false→zxr .GtE A.in1 s items[j] items2[j] (r j)) ∧
    R (.ok (.ret (.bool (lexD e r (decide (items2.size≤items.size)) (List.range (min items.size items2.size)))))) s) :=
 .of_wp λ prog w A R s h=>by
  obtain ⟨hp,g,d,tk,os⟩:=s;obtain ⟨hl,hb,he,hc,h⟩:=h
  have f2:=AutoSeq1.sub_tuple_tuple
  have hZ:(items.toList.zip items2.toList).length=min items.size items2.size:=by simp
  wp_walk using wpAny_loadPart' hl,wpAny_loadPart' hb,wpAny_forIn_list _ (λ rest b s'=>b.1=none∧s'=⟨hp,g,d,tk,os⟩∧∃ i,rest=(items.toList.zip items2.toList).drop i∧(∀ k,k<i→e k=true) ∧
   R (.ok (.ret (.bool (lexD e r (decide (items2.size≤items.size)) ((List.range (min items.size items2.size)).drop i))))) ⟨hp,g,d,tk,os⟩) _
  case turn =>
   rintro ⟨y,x⟩ rest b s' ⟨hb',rfl,i,hz,hall,hR⟩
   have hlt:i<(items.toList.zip items2.toList).length:=by
    rcases Nat.lt_or_ge i (items.toList.zip items2.toList).length with h' | h'
    ·exact h'
    ·rw [List.drop_of_length_le h'] at hz;cases hz
   have hm:i<min items.size items2.size:=hZ ▸ hlt
   have h1:i<items.size:=Nat.lt_of_lt_of_le hm (Nat.min_le_left _ _)
   have h2:i<items2.size:=Nat.lt_of_lt_of_le hm (Nat.min_le_right _ _)
   rw [List.drop_eq_getElem_cons hlt] at hz
   injection hz with hyx hrest
   have hy:y=items[i]:=by have:=congrArg Prod.fst hyx;simpa using this
   have hx:x=items2[i]:=by have:=congrArg Prod.snd hyx;simpa using this
   subst hy hx
   have hd:(List.range (min items.size items2.size)).drop i=i::(List.range (min items.size items2.size)).drop (i+1):=by simp [List.drop_eq_getElem_cons,hm]
   rw [hd,lexD] at hR
   refine wpAny_bind (he i h1 h2 prog w _ _ ?_)
   cases hy:e i with
   | true =>
    rw [hy,if_pos rfl] at hR
    wp_walk
    exact ⟨rfl,rfl,i+1,hrest,λ k hk=>by
     rcases Nat.lt_or_ge k i with h' | h'
     ·exact hall k h'
     ·have:k=i:=by omega
      rw [this];exact hy,hR⟩
   | false =>
    rw [hy,if_neg Bool.false_ne_true] at hR
    have hri:=hc i h1 h2 hall hy prog w
    wp_walk using hri
    exact ⟨_,rfl,by simpa using hR⟩
  case fin =>
   rintro ⟨b1,b2⟩ s' ⟨hb',rfl,i,hz,hall,hR⟩
   simp only at hb'
   subst hb'
   have hge:min items.size items2.size≤i:=by
    rw [← hZ]
    rcases Nat.lt_or_ge i (items.toList.zip items2.toList).length with h' | h'
    ·rw [List.drop_eq_getElem_cons h'] at hz;cases hz
    ·exact h'
   rw [List.drop_of_length_le (by simpa using hge),lexD] at hR
   wp_walk
   exact ⟨_,rfl,by simpa [Builtin.Tuple.tupleCompareSizes] using hR⟩
  case h =>
   exact ⟨rfl,rfl,0,rfl,λ k hk=>absurd hk (Nat.not_lt_zero _),h⟩
theorem zop {prog:Program} {w:World} {A:Around} {E:Value→Shared→Prop} {s:Shared} {l b:Addr} {items items2:Array Value} {e r:Nat→Bool} {Q:Value→Shared→Prop} (hl:IsTup s.heap l items) (hb:IsTup s.heap b items2)
  (he:∀ j (h1:j<items.size) (h2:j<items2.size),EqAt A.in1 s items[j] items2[j] (e j)) (hc:∀ j (h1:j<items.size) (h2:j<items2.size),(∀ i,i<j→e i=true)→e j=false→zxr .GtE A.in1 s items[j] items2[j] (r j))
  (hu:A.units<cLine) (h:Q (.bool (lexD e r (decide (items2.size≤items.size)) (List.range (min items.size items2.size)))) s):wpAny (model prog w) A (compareOp .GtE (.ref l) (.ref b)) Q E s:=by
 obtain ⟨⟨cls,dd,data,sl⟩,ho,hc1,n,hd⟩:=id hl
 obtain ⟨⟨cls2,dd2,data2,sl2⟩,ho2,hc2,n2,hd2⟩:=id hb
 simp only at hc1 hd hc2 hd2
 subst hc1 hd hc2 hd2
 refine richCompare_meets_room (op := .GtE) ⟨_,ho,rfl⟩ ⟨_,ho2,rfl⟩ PySem.F.slot_tuple_ge PySem.F.entry_tuple_ge (PySem.F.args_tuple_ge_2 _ _) (zil l b items items2 n n2 dd dd2 sl sl2 e r) ⟨ho,ho2,he,hc,?_⟩ hu
 exact (show Value.bool _≠Value.notImplemented∧Q (.bool _) s from ⟨(λ x=>nomatch x),h⟩)
end
mutual
noncomputable def ltD:PyData→PyData→Option Bool
 | .int a,.int b=>some (decide (a<b))
 | .str a,.str b=>some (decide (a.cps.toList<b.cps.toList))
 | .tuple xs,.tuple ys=>ltDs xs ys
 | _,_=>none
noncomputable def ltDs:List PyData→List PyData→Option Bool
 | [],[]=>some false
 | [],_::_=>some true
 | _::_,[]=>some false
 | x::xs,y::ys=>if PyData.eqv x y=true then ltDs xs ys else ltD x y
end
theorem zuq {e r:Nat→Bool}:∀ {xs ys:List PyData} {b:Bool},ltDs xs ys=some b→(∀ (j:Nat) x y,xs[j]? = some x→ys[j]? = some y→e j=PyData.eqv x y) →
  (∀ (j:Nat) x y c,xs[j]? = some x→ys[j]? = some y→(∀ i,i<j→e i=true)→e j=false→ltD x y=some c→r j=c) →
  lexD e r (decide (xs.length<ys.length)) (List.range (min xs.length ys.length))=b:=by
 intro xs
 induction xs generalizing e r with
 | nil =>
  intro ys b h _ _
  cases ys with
  | nil=>cases h;rfl
  | cons y ys=>cases h;rw [List.length_nil,Nat.zero_min];exact decide_eq_true (Nat.succ_pos _)
 | cons x xs ih =>
  intro ys b h he hr
  cases ys with
  | nil=>cases h;rw [List.length_nil,Nat.min_zero];exact decide_eq_false (Nat.not_lt_zero _)
  | cons y ys =>
   have h0:=he 0 x y rfl rfl
   rw [List.length_cons,List.length_cons,Nat.succ_min_succ,List.range_succ_eq_map,lexD]
   rw [ltDs] at h
   by_cases hxy:PyData.eqv x y=true
   ·rw [if_pos hxy] at h
    rw [if_pos (h0.trans hxy),zno]
    have:=ih (ys:=ys) (e:=λ j=>e (j+1)) (r:=λ j=>r (j+1)) h (λ j a b h1 h2=>he (j+1) a b (by simpa using h1) (by simpa using h2))
     (λ j a b c h1 h2 h3 h4 h5=>hr (j+1) a b c (by simpa using h1) (by simpa using h2) (λ i hi=>by
      cases i with
      | zero=>exact h0.trans hxy
      | succ i=>exact h3 i (by omega)) h4 h5)
    rw [← this]
    congr 1
    exact decide_eq_decide.mpr (by omega)
   ·rw [if_neg hxy] at h
    have hf:e 0=false:=by rw [h0];simpa using hxy
    rw [if_neg (by rw [hf];exact Bool.false_ne_true)]
    exact hr 0 x y b rfl rfl (λ i hi=>absurd hi (Nat.not_lt_zero _)) hf h
theorem znn {e r:Nat→Bool} {d:Bool}:∀ js:List Nat,lexD e (λ j => !r j) (!d) js = !lexD e r d js
 | []=>rfl
 | j::js=>by
  rw [lexD,lexD,znn js]
  split <;> rfl
theorem znd {h:Heap}:∀ {xs:List PyData} {vs:List Value} {as:List Addr} {j:Nat} {v:Value},ReadsAll h vs xs as→vs[j]? = some v→∃ d bs,xs[j]? = some d∧Reads h v d bs∧d∈xs
 | _,_,_,0,v,.cons (v:=u) (d:=d) r rr,e=>by
  have:u=v:=by simpa using e
  subst this
  exact ⟨_,_,rfl,r,List.mem_cons_self⟩
 | _,_,_,j+1,v,.cons r rr,e=>by
  obtain ⟨d,bs,h1,h2,h3⟩:=znd rr (j:=j) (by simpa using e)
  exact ⟨d,bs,by simpa using h1,h2,List.mem_cons_of_mem _ h3⟩
theorem zhc:∀ {xs:List PyData} {d:PyData},d∈xs→PyData.canLayAll0 xs=true→PyData.canLay0 d=true
 | x::xs,d,h,c=>by
  rw [PyData.canLayAll0,Bool.and_eq_true] at c
  rcases List.mem_cons.mp h with rfl | h
  ·exact c.1
  ·exact zhc h c.2
theorem zjg:∀ {xs:List PyData} {d:PyData},d∈xs→PyData.depth d≤PyData.depthAll xs
 | x::xs,d,h=>by
  rw [PyData.depthAll]
  rcases List.mem_cons.mp h with rfl | h
  ·omega
  ·have:=zjg h
   omega
theorem zpn:∀ (n:Nat) (da db:PyData) (c:Bool) (A:Around) (s:Shared) (a b:Value) (as bs:List Addr),PyData.depth da≤n→Reads s.heap a da as→Reads s.heap b db bs→da.canLay0=true→db.canLay0=true→ltD da db=some c →
  A.units+n+2<cLine→zxr .Lt A s a b c∧zxr .GtE A s a b (!c):=by
 intro n
 induction n with
 | zero =>
  intro da db c A s a b as bs hd ra rb _ _ hc hu
  cases ra with
  | int i t =>
   cases rb with
   | int j u =>
    have hc:decide (i<j)=c:=by simpa [ltD] using hc
    subst hc
    refine ⟨λ prog w E Q hq=>(PyProof.Rows.lt_int hq:wpAny (model prog w) A (compareOp .Lt (.int i t) (.int j u)) Q E s),λ prog w E Q hq=>?_⟩
    have e:(!decide (i<j))=decide (j≤i):=by rw [← decide_not];exact decide_eq_decide.mpr (by omega)
    rw [e] at hq
    exact (PyProof.Rows.ge_int hq:wpAny (model prog w) A (compareOp .GtE (.int i t) (.int j u)) Q E s)
   | _=>simp [ltD] at hc
  | str x t =>
   cases rb with
   | str y u =>
    have hc:decide (x.cps.toList<y.cps.toList)=c:=by simpa [ltD] using hc
    subst hc
    exact ⟨λ prog w E Q hq=>(PyProof.Rows.lt_str hq:wpAny (model prog w) A (compareOp .Lt (.str x t) (.str y u)) Q E s),λ prog w E Q hq=>(PySem.P.ge_str hq:wpAny (model prog w) A (compareOp .GtE (.str x t) (.str y u)) Q E s)⟩
   | _=>simp [ltD] at hc
  | tuple h1 h2 h3 h4=>simp [PyData.depth] at hd
  | _=>simp [ltD] at hc
 | succ n ih =>
  intro da db c A s a b as bs hd ra rb la lb hc hu
  cases ra with
  | int i t =>
   cases rb with
   | int j u =>
    have hc:decide (i<j)=c:=by simpa [ltD] using hc
    subst hc
    refine ⟨λ prog w E Q hq=>(PyProof.Rows.lt_int hq:wpAny (model prog w) A (compareOp .Lt (.int i t) (.int j u)) Q E s),λ prog w E Q hq=>?_⟩
    have e:(!decide (i<j))=decide (j≤i):=by rw [← decide_not];exact decide_eq_decide.mpr (by omega)
    rw [e] at hq
    exact (PyProof.Rows.ge_int hq:wpAny (model prog w) A (compareOp .GtE (.int i t) (.int j u)) Q E s)
   | _=>simp [ltD] at hc
  | str x t =>
   cases rb with
   | str y u =>
    have hc:decide (x.cps.toList<y.cps.toList)=c:=by simpa [ltD] using hc
    subst hc
    exact ⟨λ prog w E Q hq=>(PyProof.Rows.lt_str hq:wpAny (model prog w) A (compareOp .Lt (.str x t) (.str y u)) Q E s),λ prog w E Q hq=>(PySem.P.ge_str hq:wpAny (model prog w) A (compareOp .GtE (.str x t) (.str y u)) Q E s)⟩
   | _=>simp [ltD] at hc
  | @tuple l o vs m xs as h1 h2 h3 h4 =>
   cases rb with
   | @tuple l2 o2 vs2 m2 ys bs g1 g2 g3 g4 =>
    have hc:ltDs xs ys=some c:=by simpa [ltD] using hc
    have z1:vs.size=xs.length:=by have:=SeqAt.ReadsAll.length _ _ _ h4;simpa using this
    have z2:vs2.size=ys.length:=by have:=SeqAt.ReadsAll.length _ _ _ g4;simpa using this
    have la':PyData.canLayAll0 xs=true:=la
    have lb':PyData.canLayAll0 ys=true:=lb
    have hd':PyData.depthAll xs≤n:=by have:PyData.depth (.tuple xs)=PyData.depthAll xs+1:=rfl;omega
    have at1:∀ j (h:j<vs.size),∃ d bs,xs[j]? = some d∧Reads s.heap vs[j] d bs∧d∈xs:=λ j h=>znd h4 (by simp [h])
    have at2:∀ j (h:j<vs2.size),∃ d bs,ys[j]? = some d∧Reads s.heap vs2[j] d bs∧d∈ys:=λ j h=>znd g4 (by simp [h])
    have he:∀ j (k1:j<vs.size) (k2:j<vs2.size),SeqAt.EqAt A.in1 s vs[j] vs2[j] (PyData.eqv ((xs[j]?).getD .none) ((ys[j]?).getD .none)):=λ j k1 k2=>by
     obtain ⟨d,b1,e1,r1,m1⟩:=at1 j k1
     obtain ⟨d2,b2,e2,r2,m2⟩:=at2 j k2
     rw [e1,e2]
     refine SeqAt.eqAt_reads d d2 A.in1 s _ _ b1 b2 r1 r2 (zhc m1 la') (zhc m2 lb') ?_
     have:=zjg m1
     have:min d.depth d2.depth≤d.depth:=Nat.min_le_left _ _
     show A.units+1+min d.depth d2.depth<cLine
     omega
    have hl:IsTup s.heap l vs:=⟨o,h1,h2,m,h3⟩
    have hr:IsTup s.heap l2 vs2:=⟨o2,g1,g2,m2,g3⟩
    have e0:∀ (j:Nat) x y,xs[j]? = some x→ys[j]? = some y→PyData.eqv ((xs[j]?).getD .none) ((ys[j]?).getD .none)=PyData.eqv x y:=λ j x y e1 e2=>by rw [e1,e2];rfl
    have lexlt:=zuq (e:=λ j=>PyData.eqv ((xs[j]?).getD .none) ((ys[j]?).getD .none)) (r:=λ j=>(ltD ((xs[j]?).getD .none) ((ys[j]?).getD .none)).getD false) hc e0 (λ j x y c' e1 e2 _ _ e3=>by rw [e1,e2];simp only [Option.getD_some];rw [e3];rfl)
    have ans:∀ (xs ys:List PyData) (c:Bool),ltDs xs ys=some c→∀ (j:Nat) x y,xs[j]? = some x→ys[j]? = some y→(∀ i x y,i<j→xs[i]? = some x→ys[i]? = some y→PyData.eqv x y=true)→PyData.eqv x y=false→∃ c',ltD x y=some c':=by
     intro xs
     induction xs with
     | nil=>intro ys c _ j x y e1;simp at e1
     | cons x0 xs ih2 =>
      intro ys c h j x y e1 e2 hall hne
      cases ys with
      | nil=>simp at e2
      | cons y0 ys =>
       rw [ltDs] at h
       cases j with
       | zero =>
        simp at e1 e2
        subst e1 e2
        rw [if_neg (by rw [hne];exact Bool.false_ne_true)] at h
        exact ⟨c,h⟩
       | succ j =>
        rw [if_pos (hall 0 x0 y0 (Nat.succ_pos _) rfl rfl)] at h
        exact ih2 ys c h j x y (by simpa using e1) (by simpa using e2) (λ i a b hi h1 h2=>hall (i+1) a b (by omega) (by simpa using h1) (by simpa using h2)) hne
    have hu1:A.in1.units+n+2<cLine:=by show A.units+1+n+2<cLine;omega
    have cmp:∀ j (k1:j<vs.size) (k2:j<vs2.size),(∀ i,i<j→PyData.eqv ((xs[i]?).getD .none) ((ys[i]?).getD .none)=true)→PyData.eqv ((xs[j]?).getD .none) ((ys[j]?).getD .none)=false →
      zxr .Lt A.in1 s vs[j] vs2[j] ((ltD ((xs[j]?).getD .none) ((ys[j]?).getD .none)).getD false)∧zxr .GtE A.in1 s vs[j] vs2[j] (!(ltD ((xs[j]?).getD .none) ((ys[j]?).getD .none)).getD false):=λ j k1 k2 hall hne=>by
     obtain ⟨d,b1,e1,r1,m1⟩:=at1 j k1
     obtain ⟨d2,b2,e2,r2,m2⟩:=at2 j k2
     rw [e1,e2] at hne ⊢
     obtain ⟨c',hc'⟩:=ans xs ys c hc j d d2 e1 e2 (λ i x y hi h1 h2=>by have:=hall i hi;rw [h1,h2] at this;exact this) hne
     simp only [Option.getD_some]
     rw [hc']
     exact ih d d2 c' A.in1 s _ _ b1 b2 (Nat.le_trans (zjg m1) hd') r1 r2 (zhc m1 la') (zhc m2 lb') hc' hu1
    refine ⟨λ prog w E Q hq=>?_,λ prog w E Q hq=>?_⟩
    ·refine (zwq hl hr he (λ j k1 k2 h3 h4=>(cmp j k1 k2 h3 h4).1) (by omega) ?_:wpAny (model prog w) A (compareOp .Lt (.ref l) (.ref l2)) Q E s)
     rw [z1,z2,lexlt]
     exact hq
    ·refine (zop hl hr he (λ j k1 k2 h3 h4=>(cmp j k1 k2 h3 h4).2) (by omega) ?_:wpAny (model prog w) A (compareOp .GtE (.ref l) (.ref l2)) Q E s)
     have e:decide (vs2.size≤vs.size) = !decide (vs.size<vs2.size):=by rw [← decide_not];exact decide_eq_decide.mpr (by omega)
     rw [e,znn,z1,z2,lexlt]
     exact hq
   | _=>simp [ltD] at hc
  | _=>simp [ltD] at hc
section
variable {X:Cx}
end
end L2
namespace L2
open PySem
noncomputable abbrev ST:=SetTable
structure Fit (t:ST):Prop where
 dum:t.dummies = #[]
 sz:t.place.size≤t.mask
 msk:t.mask=7 ∨ t.mask=31 ∨ t.mask=127 ∨ t.mask=511
noncomputable def lcg (m i:Nat):Nat:=(i * 5+1) % m
noncomputable def orb (m:Nat):Nat→Nat→Nat
 | 0,i=>i
 | n+1,i=>orb m n (lcg m i)
theorem zuj (m:Nat):∀ (a b i:Nat),orb m (a+b) i=orb m b (orb m a i)
 | 0,b,i=>by rw [Nat.zero_add];rfl
 | a+1,b,i=>by rw [Nat.succ_add];exact zuj m a b (lcg m i)
noncomputable def zyn (m:Nat):Nat→Nat→List Nat
 | 0,_=>[]
 | n+1,i=>i::zyn m n (lcg m i)
theorem zpf {m:Nat}:∀ {n i j:Nat},j∈zyn m n i→∃ k,k<n∧orb m k i=j
 | n+1,i,j,h=>by
  rcases List.mem_cons.mp h with rfl | h
  ·exact ⟨0,Nat.succ_pos _,rfl⟩
  ·obtain ⟨k,hk,e⟩:=zpf h
   exact ⟨k+1,by omega,e⟩
noncomputable def ztc (m:Nat):Bool:=(List.range m).all (λ j=>(zyn m m 0).contains j) && (orb m m 0 == 0)
theorem cov8:ztc 8=true:=by decide +kernel
theorem zu2:ztc 32=true:=by decide +kernel
theorem zmw:ztc 128=true:=by decide +kernel
theorem zvx:ztc 512=true:=by decide +kernel
theorem zup {t:ST} (f:Fit t):ztc (t.mask+1)=true:=by
 rcases f.msk with e | e | e | e <;> rw [e]
 ·exact cov8
 ·exact zu2
 ·exact zmw
 ·exact zvx
theorem zey {m j:Nat} (c:ztc m=true) (hj:j<m):∃ k,k<m∧orb m k 0=j:=by
 unfold ztc at c
 rw [Bool.and_eq_true] at c
 have:=List.all_eq_true.mp c.1 j (List.mem_range.mpr hj)
 exact zpf (by simpa using this)
theorem zx0 {m:Nat} (c:ztc m=true):orb m m 0=0:=by
 unfold ztc at c
 rw [Bool.and_eq_true] at c
 exact eq_of_beq c.2
theorem zq4 {m i j:Nat} (c:ztc m=true) (hi:i<m) (hj:j<m):∃ k,k<m∧orb m k i=j:=by
 obtain ⟨a,ha,ea⟩:=zey c hi
 obtain ⟨b,hb,eb⟩:=zey c hj
 rcases Nat.lt_or_ge b a with h | h
 ·refine ⟨m - a+b,by omega,?_⟩
  rw [← ea,← zuj,show a+(m - a+b)=m+b by omega,zuj,zx0 c,eb]
 ·refine ⟨b - a,by omega,?_⟩
  rw [← ea,← zuj,show a+(b - a)=b by omega,eb]
noncomputable abbrev zqz (mask:Nat) (p:Nat×Nat):Nat×Nat:=SetTable.leap mask p.1 p.2
noncomputable def zyi (mask:Nat):Nat→Nat×Nat→Nat×Nat
 | 0,p=>p
 | n+1,p=>zyi mask n (zqz mask p)
theorem zjk (mask:Nat):∀ (a b:Nat) (p:Nat×Nat),zyi mask (a+b) p=zyi mask b (zyi mask a p)
 | 0,b,p=>by rw [Nat.zero_add];rfl
 | a+1,b,p=>by rw [Nat.succ_add];exact zjk mask a b (zqz mask p)
theorem zbe (mask:Nat):∀ (n:Nat) (p:Nat×Nat),(zyi mask n p).2=p.2 / 32 ^ n
 | 0,p=>by simp [zyi]
 | n+1,p=>by
  show (zyi mask n (zqz mask p)).2=_
  rw [zbe mask n]
  show p.2 / 32 / 32 ^ n=_
  rw [Nat.div_div_eq_div_mul,Nat.pow_succ,Nat.mul_comm]
theorem zbi (mask:Nat):∀ (n i:Nat),zyi mask n (i,0)=(orb (mask+1) n i,0)
 | 0,i=>rfl
 | n+1,i=>by
  show zyi mask n ((i * 5+1+0 / 32) % (mask+1),0 / 32)=_
  rw [Nat.zero_div,Nat.add_zero,zbi mask n]
  rfl
theorem zjm (mask:Nat):∀ (n:Nat) (p:Nat×Nat),p.1<mask+1→(zyi mask n p).1<mask+1
 | 0,p,h=>h
 | n+1,p,h=>zjm mask n _ (Nat.mod_lt _ (Nat.succ_pos _))
theorem zfi {mask i perturb j:Nat} (c:ztc (mask+1)=true) (hi:i<mask+1) (hp:perturb<2 ^ 64) (hj:j<mask+1):∃ k,k<mask+14∧(zyi mask k (i,perturb)).1=j:=by
 have h13:(zyi mask 13 (i,perturb)).2=0:=by
  rw [zbe]
  exact Nat.div_eq_of_lt (Nat.lt_of_lt_of_le hp (by decide))
 have hl:=zjm mask 13 (i,perturb) hi
 generalize hq:zyi mask 13 (i,perturb)=q at h13 hl
 obtain ⟨qi,qp⟩:=q
 dsimp only at h13 hl
 subst h13
 obtain ⟨k,hk,e⟩:=zq4 c hl hj
 refine ⟨13+k,by omega,?_⟩
 rw [zjk,hq,zbi]
 exact e
open SetTable in
noncomputable def path (t:ST):Nat→Probe→Probe
 | 0,p=>p
 | n+1,p=>path t n (t.advance p)
theorem zaf (t:ST):∀ (a b:Nat) (p:SetTable.Probe),path t (a+b) p=path t b (path t a p)
 | 0,b,p=>by rw [Nat.zero_add];rfl
 | a+1,b,p=>by rw [Nat.succ_add];exact zaf t a b (t.advance p)
theorem zpb (t:ST) (n:Nat) (p:SetTable.Probe):path t (n+1) p=t.advance (path t n p):=by
 rw [zaf];rfl
theorem zyp (t:ST) (p:SetTable.Probe):(t.advance p).dummy=p.dummy:=by
 unfold SetTable.advance
 split <;> rfl
theorem zdh (t:ST):∀ (n:Nat) (p:SetTable.Probe),(path t n p).dummy=p.dummy
 | 0,p=>rfl
 | n+1,p=>by show (path t n (t.advance p)).dummy=_;rw [zdh t n,zyp]
theorem zxk (t:ST):∀ (m:Nat) (p:SetTable.Probe),p.more=m→path t (m+1) p={ p with j:=(SetTable.leap t.mask p.i p.perturb).1,more:=SetTable.runEnd t.mask (SetTable.leap t.mask p.i p.perturb).1 - (SetTable.leap t.mask p.i p.perturb).1,i:=(SetTable.leap t.mask p.i p.perturb).1,perturb:=(SetTable.leap t.mask p.i p.perturb).2 }
 | 0,p,h=>by
  show t.advance p=_
  unfold SetTable.advance
  rw [if_neg (by omega)]
 | m+1,p,h=>by
  show path t (m+1) (t.advance p)=_
  have e:t.advance p={ p with j:=p.j+1,more:=p.more - 1 }:=by
   unfold SetTable.advance
   rw [if_pos (by omega)]
  rw [e,zxk t m _ (by show p.more - 1=m;omega)]
theorem zts (mask i:Nat):SetTable.runEnd mask i - i≤9:=by
 unfold SetTable.runEnd
 split <;> omega
theorem zch (t:ST):∀ (k:Nat) (p:SetTable.Probe),p.more≤9→∃ n,n≤10+10 * k∧(path t n p).j=(zyi t.mask (k+1) (p.i,p.perturb)).1
 | 0,p,h=>by
  refine ⟨p.more+1,by omega,?_⟩
  rw [zxk t p.more p rfl]
  rfl
 | k+1,p,h=>by
  have e:=zxk t p.more p rfl
  obtain ⟨n,hn,e2⟩:=zch t k (path t (p.more+1) p) (by rw [e];exact zts _ _)
  refine ⟨(p.more+1)+n,by omega,?_⟩
  rw [zaf,e2,e]
  rfl
theorem met {t:ST} (f:Fit t) {p:SetTable.Probe} {j:Nat} (h9:p.more≤9) (hp:p.perturb<2 ^ 64) (hj:j<t.mask+1):∃ n,n<10 * SetTable.turns t.mask∧(path t n p).j=j:=by
 have hl:(SetTable.leap t.mask p.i p.perturb).1<t.mask+1:=Nat.mod_lt _ (Nat.succ_pos _)
 have hp2:(SetTable.leap t.mask p.i p.perturb).2<2 ^ 64:=Nat.lt_of_le_of_lt (Nat.div_le_self _ _) hp
 obtain ⟨k,hk,e⟩:=zfi (zup f) hl hp2 hj
 obtain ⟨n,hn,e2⟩:=zch t k p h9
 refine ⟨n,?_,?_⟩
 ·unfold SetTable.turns
  omega
 ·rw [e2];exact e
theorem zgh {t:ST} (f:Fit t) (j:Nat):t.slot j = .empty ∨ ∃ i,t.slot j = .live i∧t.place[i]? = some j:=by
 unfold SetTable.slot
 dsimp only
 by_cases h:(t.place[SetTable.below t.place j]? == some j)=true
 ·rw [if_pos h]
  exact .inr ⟨_,rfl,eq_of_beq h⟩
 ·rw [if_neg h]
  have hd:SetTable.has t.dummies j=false:=by rw [f.dum];unfold SetTable.has;simp
  rw [hd,if_neg Bool.false_ne_true]
  exact .inl rfl
theorem zj1:∀ (n:Nat) (g:Nat→Nat) (m:Nat),(∀ j,j<n→g j<m)→(∀ i j,i<n→j<n→g i=g j→i=j)→n≤m:=by
 intro n g m hm hi
 have h1:((List.range n).map g).Nodup:=by
  unfold List.Nodup
  rw [List.pairwise_map]
  refine List.Pairwise.imp_of_mem (λ ha hb hab e=>?_) (List.nodup_range (n:=n))
  exact hab (hi _ _ (List.mem_range.mp ha) (List.mem_range.mp hb) e)
 have h2:((List.range n).map g).length≤(List.range m).length:=List.Nodup.length_le_of_subset h1 (λ x hx=>by
  obtain ⟨j,hj,rfl⟩:=List.mem_map.mp hx
  exact List.mem_range.mpr (hm j (List.mem_range.mp hj)))
 simpa using h2
theorem zvn {t:ST} (f:Fit t):∃ j,j<t.mask+1∧t.slot j = .empty:=by
 refine Classical.byContradiction λ hn=>?_
 have h:∀ j,j<t.mask+1→t.place[SetTable.below t.place j]? = some j:=λ j hj=>by
  rcases zgh f j with e | ⟨i,e,e2⟩
  ·exact absurd ⟨j,hj,e⟩ hn
  ·unfold SetTable.slot at e
   dsimp only at e
   by_cases h:(t.place[SetTable.below t.place j]? == some j)=true
   ·exact eq_of_beq h
   ·rw [if_neg h] at e
    split at e <;> cases e
 have:=zj1 (t.mask+1) (λ j=>SetTable.below t.place j) t.place.size (λ j hj=>(Array.getElem?_eq_some_iff.mp (h j hj)).1) (λ i j hi hj e=>by
  have h1:=h i hi
  have h2:=h j hj
  have e:SetTable.below t.place i=SetTable.below t.place j:=e
  rw [e,h2] at h1
  exact (Option.some.inj h1).symm)
 have:=f.sz
 omega
theorem zrf {t:ST} (f:Fit t) {p:SetTable.Probe} (h9:p.more≤9) (hp:p.perturb<2 ^ 64):∃ N,N<10 * SetTable.turns t.mask∧t.slot (path t N p).j = .empty∧∀ k,k<N→∃ i,t.slot (path t k p).j = .live i∧t.place[i]? = some (path t k p).j:=by
 obtain ⟨j,hj,he⟩:=zvn f
 obtain ⟨n,hn,e⟩:=met f h9 hp hj
 have hex:∃ n,t.slot (path t n p).j = .empty:=⟨n,by rw [e];exact he⟩
 have hfirst:∀ m,t.slot (path t m p).j = .empty→∃ N,N≤m∧t.slot (path t N p).j = .empty∧∀ k,k<N→t.slot (path t k p).j ≠ .empty:=by
  intro m
  induction m using Nat.strongRecOn with
  | ind m ih =>
   intro hm
   by_cases h:∃ k,k<m∧t.slot (path t k p).j = .empty
   ·obtain ⟨k,hk,hk2⟩:=h
    obtain ⟨N,h1,h2,h3⟩:=ih k hk hk2
    exact ⟨N,by omega,h2,h3⟩
   ·exact ⟨m,Nat.le_refl _,hm,λ k hk hk2=>h ⟨k,hk,hk2⟩⟩
 obtain ⟨N,h1,h2,h3⟩:=hfirst n (by rw [e];exact he)
 refine ⟨N,by omega,h2,λ k hk=>?_⟩
 rcases zgh f (path t k p).j with e | e
 ·exact absurd e (h3 k hk)
 ·exact e
theorem zny {t:ST} {hashAt:Nat→Int} {h:Int} {p:SetTable.Probe} {N:Nat} (hd:p.dummy=none) (he:t.slot (path t N p).j = .empty) (hl:∀ k,k<N→∃ i,t.slot (path t k p).j = .live i∧t.place[i]? = some (path t k p).j) :
  ∀ (d m fuel:Nat),d=N - m→m≤N→d<fuel →
   (∃ k i,m≤k∧k<N∧t.slot (path t k p).j = .live i∧(hashAt i == h)=true∧SetTable.probe.go t hashAt h fuel (path t m p)=some (.candidate (path t k p).j i (path t (k+1) p))) ∨ SetTable.probe.go t hashAt h fuel (path t m p)=some (.empty (path t N p).j none):=by
 intro d
 induction d with
 | zero =>
  intro m fuel hdm hm hf
  have e:m=N:=by omega
  subst e
  cases fuel with
  | zero=>omega
  | succ fuel =>
   right
   unfold SetTable.probe.go
   rw [he,zdh,hd]
 | succ d ih =>
  intro m fuel hdm hm hf
  cases fuel with
  | zero=>omega
  | succ fuel =>
   obtain ⟨i,hi,_⟩:=hl m (by omega)
   unfold SetTable.probe.go
   rw [hi]
   dsimp only
   by_cases hh:(hashAt i == h)=true
   ·left
    refine ⟨m,i,Nat.le_refl _,by omega,hi,hh,?_⟩
    rw [if_pos hh,zpb]
   ·rw [if_neg hh,← zpb]
    rcases ih (m+1) fuel (by omega) (by omega) (by omega) with ⟨k,i',h1,h2,h3,h4,h5⟩ | h5
    ·exact .inl ⟨k,i',by omega,h2,h3,h4,h5⟩
    ·exact .inr h5
end L2
namespace L2
open PySem
noncomputable abbrev own (o:Array (Option Nat)) (j:Nat):Option Nat:=o.getD j none
theorem zmq {mask:Nat} {owner:Array (Option Nat)} (hs:owner.size=mask+1) {j0:Nat} (hj:j0<mask+1) (he:own owner j0=none) :
  ∀ (k fuel i perturb:Nat),k<fuel→i<mask+1→(zyi mask k (i,perturb)).1=j0→∃ j,SetTable.layClean.free mask owner fuel i perturb=some j∧j<mask+1∧own owner j=none:=by
 have get0:∀ j,(owner.getD j (some 0)).isNone=true→j<mask+1∧own owner j=none:=λ j h=>by
  rcases Nat.lt_or_ge j owner.size with hj | hj
  ·rw [Array.getD_eq_getD_getElem?,Array.getElem?_eq_getElem hj] at h
   refine ⟨by omega,?_⟩
   show owner.getD j none=none
   rw [Array.getD_eq_getD_getElem?,Array.getElem?_eq_getElem hj]
   cases e:owner[j] with
   | none=>rfl
   | some v=>rw [e] at h;cases h
  ·rw [Array.getD_eq_getD_getElem?,Array.getElem?_eq_none hj] at h
   cases h
 intro k
 induction k with
 | zero =>
  intro fuel i perturb hf hi e
  cases fuel with
  | zero=>omega
  | succ fuel =>
   have e:i=j0:=e
   subst e
   unfold SetTable.layClean.free
   cases hfd:(List.range (SetTable.runEnd mask i+1 - i)).find? λ k=>(owner.getD (i+k) (some 0)).isNone with
   | some q =>
    have:=List.find?_some hfd
    obtain ⟨h1,h2⟩:=get0 _ this
    exact ⟨_,rfl,h1,h2⟩
   | none =>
    exfalso
    have hr:0∈List.range (SetTable.runEnd mask i+1 - i):=by
     rw [List.mem_range]
     unfold SetTable.runEnd
     split <;> omega
    have:=List.find?_eq_none.mp hfd 0 hr
    apply this
    rw [Nat.add_zero,Array.getD_eq_getD_getElem?,Array.getElem?_eq_getElem (by omega)]
    have he2:owner.getD i none=none:=he
    rw [Array.getD_eq_getD_getElem?,Array.getElem?_eq_getElem (by omega)] at he2
    have he3:owner[i]=none:=he2
    rw [Option.getD_some,he3]
    rfl
 | succ k ih =>
  intro fuel i perturb hf hi e
  cases fuel with
  | zero=>omega
  | succ fuel =>
   unfold SetTable.layClean.free
   cases hfd:(List.range (SetTable.runEnd mask i+1 - i)).find? λ k=>(owner.getD (i+k) (some 0)).isNone with
   | some q =>
    have:=List.find?_some hfd
    obtain ⟨h1,h2⟩:=get0 _ this
    exact ⟨_,rfl,h1,h2⟩
   | none=>exact ih fuel _ _ (by omega) (Nat.mod_lt _ (Nat.succ_pos _)) e
noncomputable def zmf (M:Nat) (o:Array (Option Nat)):List (Nat×Nat):=(List.range M).filterMap λ j=>(own o j).map (j, ·)
theorem zdo {β:Type} {f g:Nat→Option β}:∀ {l:List Nat},(∀ x∈l,g x=f x)→l.filterMap g=l.filterMap f:=by
 intro l
 induction l with
 | nil=>intro _;rfl
 | cons x l ih =>
  intro h
  have h1:=ih λ y hy=>h y (List.mem_cons_of_mem _ hy)
  have h2:=h x List.mem_cons_self
  rw [List.filterMap_cons,List.filterMap_cons,h2,h1]
theorem zdi {β:Type} {f g:Nat→Option β} {y:β} {j:Nat}:∀ {l:List Nat},l.Nodup→j∈l→f j=none→g j=some y→(∀ x,x≠j→g x=f x)→(l.filterMap g).Perm (y::l.filterMap f):=by
 intro l hn hj hf hg he
 obtain ⟨a,b,rfl⟩:=List.append_of_mem hj
 have hna:∀ x∈a,x≠j:=λ x hx e=>by
  subst e
  have:=List.nodup_append.mp hn
  exact this.2.2 x hx x List.mem_cons_self rfl
 have hnb:∀ x∈b,x≠j:=λ x hx e=>by
  subst e
  have:=(List.nodup_append.mp hn).2.1
  exact (List.nodup_cons.mp this).1 hx
 have ea:a.filterMap g=a.filterMap f:=by
  refine zdo λ x hx=>he x (hna x hx)
 have eb:b.filterMap g=b.filterMap f:=by
  refine zdo λ x hx=>he x (hnb x hx)
 rw [List.filterMap_append,List.filterMap_append,List.filterMap_cons_some hg,List.filterMap_cons_none hf,ea,eb]
 exact List.perm_middle
theorem zvp {M j k:Nat} {o:Array (Option Nat)} (hs:o.size=M) (hj:j<M) (he:own o j=none):(zmf M (o.setIfInBounds j (some k))).Perm ((j,k)::zmf M o):=by
 refine zdi List.nodup_range (List.mem_range.mpr hj) (by rw [he];rfl) ?_ λ x hx=>?_
 ·have:own (o.setIfInBounds j (some k)) j=some k:=by
   show (o.setIfInBounds j (some k)).getD j none=some k
   rw [Array.getD_eq_getD_getElem?,Array.getElem?_setIfInBounds_self_of_lt (by omega)]
   rfl
  rw [this]
  rfl
 ·have:own (o.setIfInBounds j (some k)) x=own o x:=by
   show (o.setIfInBounds j (some k)).getD x none=o.getD x none
   rw [Array.getD_eq_getD_getElem?,Array.getD_eq_getD_getElem?,Array.getElem?_setIfInBounds_ne (λ e=>hx e.symm)]
  rw [this]
theorem zdq {M n:Nat} {o:Array (Option Nat)} (h:((zmf M o).map (·.2)).Perm (List.range n)) (hn:n<M):∃ j,j<M∧own o j=none:=by
 refine Classical.byContradiction λ hno=>?_
 have hl:(zmf M o).length=M:=by
  have:∀ l:List Nat,(∀ x∈l,x<M)→(l.filterMap λ j=>(own o j).map (j, ·)).length=l.length:=by
   intro l
   induction l with
   | nil=>intro _;rfl
   | cons x l ih =>
    intro hx
    have h1:=ih λ y hy=>hx y (List.mem_cons_of_mem _ hy)
    cases e:own o x with
    | none=>exact absurd ⟨x,hx x List.mem_cons_self,e⟩ hno
    | some v=>rw [List.filterMap_cons_some (by rw [e];rfl),List.length_cons,List.length_cons,h1]
  have h2:=this (List.range M) λ x hx=>List.mem_range.mp hx
  rw [List.length_range] at h2
  exact h2
 have:=h.length_eq
 rw [List.length_map,hl,List.length_range] at this
 omega
end L2
namespace L2
open PySem PySem.Spec PyProof.Rows PySem.NumText
mutual
noncomputable def zhf:PyData→Bool
 | .int _=>true
 | .tuple xs=>ztb xs
 | _=>false
noncomputable def ztb:List PyData→Bool
 | []=>true
 | x::xs=>zhf x && ztb xs
end
section
variable {prog:Program} {w:World}
theorem zph:∀ (n:Nat) (d:PyData) (A:Around) (E:Value→Shared→Prop) (s:Shared) (v:Value) (as:List Addr),d.depth≤n→Reads s.heap v d as→zhf d=true→∀ (k:Nat) (Q:Bool→Shared→Prop),n≤k→Q true s→wpAny (model prog w) A (eqIsQuiet k v) Q E s:=by
 intro n
 induction n with
 | zero =>
  intro d A E s v as hd r ho k Q hk h
  cases r with
  | int i t=>rw [eqIsQuiet_byValue _ rfl];exact wpAny_pure h
  | tuple=>simp [PyData.depth] at hd
  | _=>simp [zhf] at ho
 | succ n ih =>
  intro d A E s v as hd r ho k Q hk h
  cases r with
  | int i t=>rw [eqIsQuiet_byValue _ rfl];exact wpAny_pure h
  | @tuple a o vs m xs as h1 h2 h3 h4 =>
   have hT:s.TypeIs (.ref a) "tuple" := ⟨o,h1,h2⟩
   have hdx:PyData.depthAll xs≤n:=by have:PyData.depth (.tuple xs)=PyData.depthAll xs+1:=rfl;omega
   have hox:ztb xs=true:=ho
   obtain ⟨k,rfl⟩:∃ k',k=k'+1:=⟨k - 1,by omega⟩
   unfold eqIsQuiet
   refine wpAny_bind (wpAny_specialOf hT F.slot_tuple_eq.lookup ?_)
   show wpAny _ _ (isInstance (.ref a) (.type "tuple") >>= _) _ _ s
   refine wpAny_bind (wpAny_isInstance hT isSubtype_tuple_tuple ?_)
   simp only [Bool.not_true,Bool.false_eq_true,if_false]
   refine wpAny_bind (wpAny_seqItems h1 h3 ?_)
   refine wpAny_bind ?_
   show wpAny _ _ (forIn vs _ _) _ _ s
   rw [← Array.forIn_toList]
   refine wpAny_forIn_list _ (λ rest r s'=>r.1=none∧s'=s∧∃ ds bs,ReadsAll s.heap rest ds bs∧PyData.depthAll ds≤n∧ztb ds=true) _ ?_ ?_ _ _ ⟨rfl,rfl,xs,as,h4,hdx,hox⟩
   ·rintro x rest r s' ⟨hr,rfl,ds,bs,hrd,hd',ho'⟩
    cases hrd with
    | @cons _ _ d1 ds1 as1 bs1 r1 rr =>
     rw [PyData.depthAll] at hd'
     rw [ztb,Bool.and_eq_true] at ho'
     refine wpAny_bind (ih d1 _ _ _ x as1 (by omega) r1 ho'.1 k _ (by omega) ?_)
     simp only [Bool.not_true,Bool.false_eq_true,if_false]
     exact wpAny_pure ⟨rfl,rfl,ds1,bs1,rr,by omega,ho'.2⟩
   ·rintro ⟨r1,r2⟩ s' ⟨hr,rfl,_⟩
    simp only at hr
    subst hr
    exact wpAny_pure h
  | _=>simp [zhf] at ho
end
end L2
namespace L2
open PySem PySem.Spec PyProof.Rows PySem.NumText
section
variable {prog:Program} {w:World}
theorem zam:∀ (n:Nat) (d:PyData) (A:Around) (E:Value→Shared→Prop) (s:Shared) (v:Value) (as:List Addr),d.depth≤n→Reads s.heap v d as→zhf d=true→∀ (k:Nat) (Q:Bool→Shared→Prop),n≤k→Q false s→wpAny (model prog w) A (ofAClassStatement k v) Q E s:=by
 intro n
 induction n with
 | zero =>
  intro d A E s v as hd r ho k Q hk h
  cases r with
  | int i t=>unfold ofAClassStatement;exact wpAny_pure h
  | tuple=>simp [PyData.depth] at hd
  | _=>simp [zhf] at ho
 | succ n ih =>
  intro d A E s v as hd r ho k Q hk h
  cases r with
  | int i t=>unfold ofAClassStatement;exact wpAny_pure h
  | @tuple a o vs m xs as h1 h2 h3 h4 =>
   have hT:s.TypeIs (.ref a) "tuple" := ⟨o,h1,h2⟩
   have hdx:PyData.depthAll xs≤n:=by have:PyData.depth (.tuple xs)=PyData.depthAll xs+1:=rfl;omega
   have hox:ztb xs=true:=ho
   obtain ⟨k,rfl⟩:∃ k',k=k'+1:=⟨k - 1,by omega⟩
   unfold ofAClassStatement
   refine wpAny_bind (wpAny_typeOf hT ?_)
   dsimp only
   rw [if_pos (by decide)]
   refine wpAny_bind (wpAny_pure ?_)
   simp only [Bool.not_true,Bool.false_eq_true,if_false]
   refine wpAny_bind (wpAny_seqItems h1 h3 ?_)
   dsimp only
   refine wpAny_bind ?_
   rw [← Array.forIn_toList]
   refine wpAny_forIn_list _ (λ rest r s'=>r.1=none∧s'=s∧∃ ds bs,ReadsAll s.heap rest ds bs∧PyData.depthAll ds≤n∧ztb ds=true) _ ?_ ?_ _ _ ⟨rfl,rfl,xs,as,h4,hdx,hox⟩
   ·rintro x rest r s' ⟨hr,rfl,ds,bs,hrd,hd',ho'⟩
    cases hrd with
    | @cons _ _ d1 ds1 as1 bs1 r1 rr =>
     rw [PyData.depthAll] at hd'
     rw [ztb,Bool.and_eq_true] at ho'
     refine wpAny_bind (ih d1 _ _ _ x as1 (by omega) r1 ho'.1 k _ (by omega) ?_)
     simp only [Bool.false_eq_true,if_false]
     exact wpAny_pure ⟨rfl,rfl,ds1,bs1,rr,by omega,ho'.2⟩
   ·rintro ⟨r1,r2⟩ s' ⟨hr,rfl,_⟩
    simp only at hr
    subst hr
    exact wpAny_pure h
  | _=>simp [zhf] at ho
theorem zkm:∀ (n:Nat) (d:PyData) (A:Around) (E:Value→Shared→Prop) (s:Shared) (v:Value) (as:List Addr),d.depth≤n→Reads s.heap v d as→zhf d=true→∀ (k:Nat) (Q:Bool→Shared→Prop),n≤k→Q true s→wpAny (model prog w) A (hashByValue k v) Q E s:=by
 intro n
 induction n with
 | zero =>
  intro d A E s v as hd r ho k Q hk h
  cases r with
  | int i t=>cases k <;> exact wpAny_pure h
  | tuple=>simp [PyData.depth] at hd
  | _=>simp [zhf] at ho
 | succ n ih =>
  intro d A E s v as hd r ho k Q hk h
  cases r with
  | int i t=>cases k <;> exact wpAny_pure h
  | @tuple a o vs m xs as h1 h2 h3 h4 =>
   have hT:s.TypeIs (.ref a) "tuple" := ⟨o,h1,h2⟩
   have hdx:PyData.depthAll xs≤n:=by have:PyData.depth (.tuple xs)=PyData.depthAll xs+1:=rfl;omega
   have hox:ztb xs=true:=ho
   obtain ⟨k,rfl⟩:∃ k',k=k'+1:=⟨k - 1,by omega⟩
   unfold hashByValue
   refine wpAny_bind (wpAny_specialOf hT F.slot_tuple_hash.lookup ?_)
   dsimp only
   refine wpAny_bind (wpAny_seqItems h1 h3 ?_)
   refine wpAny_bind ?_
   show wpAny _ _ (forIn vs _ _) _ _ s
   rw [← Array.forIn_toList]
   refine wpAny_forIn_list _ (λ rest r s'=>r.1=none∧s'=s∧∃ ds bs,ReadsAll s.heap rest ds bs∧PyData.depthAll ds≤n∧ztb ds=true) _ ?_ ?_ _ _ ⟨rfl,rfl,xs,as,h4,hdx,hox⟩
   ·rintro x rest r s' ⟨hr,rfl,ds,bs,hrd,hd',ho'⟩
    cases hrd with
    | @cons _ _ d1 ds1 as1 bs1 r1 rr =>
     rw [PyData.depthAll] at hd'
     rw [ztb,Bool.and_eq_true] at ho'
     refine wpAny_bind (ih d1 _ _ _ x as1 (by omega) r1 ho'.1 k _ (by omega) ?_)
     simp only [Bool.not_true,Bool.false_eq_true,if_false]
     exact wpAny_pure ⟨rfl,rfl,ds1,bs1,rr,by omega,ho'.2⟩
   ·rintro ⟨r1,r2⟩ s' ⟨hr,rfl,_⟩
    simp only at hr
    subst hr
    exact wpAny_pure h
  | _=>simp [zhf] at ho
structure El (h:Heap) (v:Value) (d:PyData):Prop where
 rd:∃ as,Reads h v d as
 oi:zhf d=true
 dp:d.depth≤4
 rf:∃ a,v = .ref a
theorem zms {s:Shared} {A:Around} {E:Value→Shared→Prop} {x:Value} {dx:PyData} (hx:El s.heap x dx):∀ (l:List Value) (Q:Bool→Shared→Prop),(∀ y∈l,∃ d,El s.heap y d)→Q false s→wpAny (model prog w) A (searchCouldBeSeen x l) Q E s:=by
 intro l Q hl h
 obtain ⟨as,rx⟩:=hx.rd
 unfold searchCouldBeSeen
 refine wpAny_bind ?_
 refine wpAny_forIn_list _ (λ rest r s'=>r.1=none∧s'=s∧∀ y∈rest,∃ d,El s.heap y d) _ ?_ ?_ _ _ ⟨rfl,rfl,hl⟩
 ·rintro y rest r s' ⟨hr,rfl,hall⟩
  obtain ⟨d,hy⟩:=hall y List.mem_cons_self
  obtain ⟨bs,ry⟩:=hy.rd
  obtain ⟨a,rfl⟩:=hx.rf
  obtain ⟨b,rfl⟩:=hy.rf
  have nxt:(none:Option Bool)=none∧s'=s'∧∀ y∈rest,∃ d,El s'.heap y d:=⟨rfl,rfl,λ z hz=>hall z (List.mem_cons_of_mem _ hz)⟩
  dsimp only
  split
  ·exact wpAny_pure nxt
  ·refine wpAny_bind (zph 4 dx A _ _ _ as hx.dp rx hx.oi 8 _ (by decide) ?_)
   simp only [Bool.not_true,Bool.false_eq_true,if_false]
   refine wpAny_bind (zph 4 d A _ _ _ bs hy.dp ry hy.oi 8 _ (by decide) ?_)
   simp only [Bool.not_true,Bool.false_eq_true,if_false]
   refine wpAny_bind (zam 4 dx A _ _ _ as hx.dp rx hx.oi 8 _ (by decide) ?_)
   simp only [Bool.false_eq_true,if_false]
   refine wpAny_bind (zam 4 d A _ _ _ bs hy.dp ry hy.oi 8 _ (by decide) ?_)
   simp only [Bool.false_eq_true,if_false]
   exact wpAny_pure nxt
 ·rintro ⟨r1,r2⟩ s' ⟨hr,rfl,_⟩
  simp only at hr
  subst hr
  exact wpAny_pure h
end
end L2
namespace L2
open PySem PySem.Spec PyProof.Rows PySem.NumText
mutual
theorem zdd:∀ (d:PyData),zhf d=true→PyData.canLay0 d=true
 | .int _,_=>rfl
 | .tuple xs,h=>zoe xs h
 | .none,h=>by cases h
 | .bool _,h=>by cases h
 | .str _,h=>by cases h
 | .list _,h=>by cases h
 | .dict _,h=>by cases h
theorem zoe:∀ (ds:List PyData),ztb ds=true→PyData.canLayAll0 ds=true
 | [],_=>rfl
 | d::ds,h=>by
  rw [ztb,Bool.and_eq_true] at h
  rw [PyData.canLayAll0,zdd d h.1,zoe ds h.2]
  rfl
end
theorem zqo (t:ST) (h:Int):(t.probeStart h).more≤9∧(t.probeStart h).perturb<2 ^ 64∧(t.probeStart h).dummy=none:=by
 refine ⟨zts _ _,?_,rfl⟩
 show SetTable.bits h<2 ^ 64
 unfold SetTable.bits
 have:=Int.emod_nonneg h (show (2 ^ 64:Int)≠0 by decide)
 have:=Int.emod_lt_of_pos h (show (0:Int)<2 ^ 64 by decide)
 omega
section
variable {prog:Program} {w:World} {A:Around} {E:Value→Shared→Prop} {s:Shared}
end
end L2
namespace L2
open PySem PySem.Spec PyProof.Rows PySem.NumText
theorem zjj {α:Type} (xs:Array α) (p:Nat) (x:α):(SetTable.insertAt xs p x).toList=xs.toList.take p++x::xs.toList.drop p:=by
 unfold SetTable.insertAt
 simp [Array.toList_append,Array.toList_push,Array.toList_extract]
 rw [List.take_of_length_le (by rw [List.length_drop,Array.length_toList];exact Nat.le_refl _)]
theorem zhn {α:Type} (xs:Array α) (p:Nat) (x:α):(SetTable.insertAt xs p x).size=xs.size+1:=by
 rw [← Array.length_toList,zjj,List.length_append,List.length_cons,List.length_take,List.length_drop,Array.length_toList]
 omega
section
variable {prog:Program} {w:World} {A:Around} {E:Value→Shared→Prop} {s:Shared}
end
end L2
namespace L2
open PySem PySem.Spec PyProof.Rows PySem.NumText
section
variable {prog:Program} {w:World} {A:Around} {R:Result→Shared→Prop} {I:Addr} {fp wr:List Addr} {G:Array GenState→Array GenState→Prop} {n:Nat} {P:Nat→Value→Prop} {St:Nat→Shared→Prop}
end
section
variable {prog:Program} {w:World} {A:Around} {E:Value→Shared→Prop} {s:Shared}
end
end L2
namespace L2
open PySem PySem.Spec PyProof.Rows PySem.NumText
section
variable {X:Cx}
end
end L2
namespace L2
open PySem PySem.Spec PyProof.Rows PySem.NumText
noncomputable def redH (i:Int):Int :=
 if (decide (-(2:Int) ^ 63≤i) && decide (i<2 ^ 63))=true then (if (i == -1)=true then -2 else i)
 else if ((if i<0 then -((i.natAbs:Int) % (2 ^ 61 - 1)) else (i.natAbs:Int) % (2 ^ 61 - 1)) == -1)=true then -2 else (if i<0 then -((i.natAbs:Int) % (2 ^ 61 - 1)) else (i.natAbs:Int) % (2 ^ 61 - 1))
mutual
noncomputable def zni:PyData→Int
 | .int i=>hashInt i
 | .tuple xs=>redH (Builtin.Tuple.tupleHashOf (zve xs))
 | _=>0
noncomputable def zve:List PyData→List Int
 | []=>[]
 | x::xs=>zni x::zve xs
end
theorem zae:∀ (xs ys:List PyData),zve (xs++ys)=zve xs++zve ys
 | [],ys=>rfl
 | x::xs,ys=>by rw [List.cons_append,zve,zve,zae xs ys,List.cons_append]
section
variable {prog:Program} {w:World}
theorem zau:∀ (n:Nat) (d:PyData) (A:Around) (E:Value→Shared→Prop) (s:Shared) (v:Value) (as:List Addr),d.depth≤n→Reads s.heap v d as→zhf d=true→A.units+n<cLine→∀ (Q:Int→Shared→Prop),(∀ tk,s.toks≤tk→Q (zni d) { s with toks:=tk })→wpAny (model prog w) A (pyHash v) Q E s:=by
 intro n
 induction n with
 | zero =>
  intro d A E s v as hd r ho hu Q h
  cases r with
  | int i t=>exact (intKind prog w).pyHash (k:=i) (intKind_is _ _ _ _) (h _ (Nat.le_succ _))
  | tuple=>simp [PyData.depth] at hd
  | _=>simp [zhf] at ho
 | succ n ih =>
  intro d A E s v as hd r ho hu Q h
  cases r with
  | int i t=>exact (intKind prog w).pyHash (k:=i) (intKind_is _ _ _ _) (h _ (Nat.le_succ _))
  | @tuple a o vs m xs as h1 h2 h3 h4 =>
   have hT:s.TypeIs (.ref a) "tuple" := ⟨o,h1,h2⟩
   have hdx:PyData.depthAll xs≤n:=by have:PyData.depth (.tuple xs)=PyData.depthAll xs+1:=rfl;omega
   have hox:ztb xs=true:=ho
   unfold pyHash
   first | unfold pyHashByItsType | skip
   first | refine wpAny_bind (wpAny_cRoomFor_or (.inr (by omega)) ?_) | skip
   refine wpAny_bind (wpAny_specialOf hT F.slot_tuple_hash.lookup ?_)
   show wpAny _ _ (if (some (Value.builtin "tuple.__hash__") == some Value.none)=true then _ else _) Q E s
   rw [if_neg (by rw [beq_builtin_none];exact Bool.false_ne_true)]
   refine wpAny_bind (wpAny_specialOf hT F.slot_tuple_hash.lookup ?_)
   show wpAny _ _ (callSpecialIfBoundUnlessNone? (.ref a) "__hash__" _ >>= _) Q E s
   refine wpAny_bind (wpAny_callSpecialIfBoundUnlessNone?_slot hT F.slot_tuple_hash (wpAny_call_entry F.slot_tuple_hash hT F.entry_tuple_hash ?_ (F.args_tuple_hash_1 _)))
   show wpAny _ _ (Builtin.Tuple.tupleItemsOf (.ref a) >>= _) _ _ s
   refine wpAny_bind (wpAny_tupleItemsOf h1 h3 ?_)
   refine wpAny_bind ?_
   rw [← Array.forIn_toList]
   refine wpAny_forIn_list _ (λ rest (b:Array Int) s'=>∃ tk gone ds bs,s.toks≤tk∧s'={ s with toks:=tk }∧ReadsAll s.heap rest ds bs∧PyData.depthAll ds≤n∧ztb ds=true∧xs=gone++ds∧b.toList=zve gone) _ ?_ ?_ _ _ ⟨s.toks,[],xs,as,Nat.le_refl _,rfl,h4,hdx,hox,rfl,rfl⟩
   ·rintro x rest b s' ⟨tk,gone,ds,bs,htk,rfl,hr,hd',ho',hx,hb⟩
    cases hr with
    | @cons _ _ d1 ds1 as1 bs1 r1 rr =>
     rw [PyData.depthAll] at hd'
     rw [ztb,Bool.and_eq_true] at ho'
     refine wpAny_bind (ih d1 _ _ { s with toks:=tk } x as1 (by omega) r1 ho'.1 (by show A.units+1+n<cLine;omega) _ λ tk' htk'=>?_)
     have e1:xs=(gone++[d1])++ds1:=by rw [hx,List.append_assoc];rfl
     have e2:(b.push (zni d1)).toList=zve (gone++[d1]):=by rw [Array.toList_push,hb,zae];rfl
     first
      | exact wpAny_pure ⟨tk',_,ds1,bs1,Nat.le_trans htk htk',rfl,rr,by omega,ho'.2,e1,e2⟩
      | exact wpAny_bind (wpAny_pure (wpAny_pure ⟨tk',_,ds1,bs1,Nat.le_trans htk htk',rfl,rr,by omega,ho'.2,e1,e2⟩))
   ·rintro b s' ⟨tk,gone,ds,bs,htk,rfl,hr,hd',ho',hx,hb⟩
    cases hr
    rw [List.append_nil] at hx
    subst hx
    show wpAny _ _ (retInt (Builtin.Tuple.tupleHashOf b.toList)) _ _ _
    refine wpAny_ret_mkInt ?_
    rw [hb]
    have hq:∀ tk,s.toks≤tk→Q (redH (Builtin.Tuple.tupleHashOf (zve xs))) { s with toks:=tk }:=h
    generalize Builtin.Tuple.tupleHashOf (zve xs)=hv at hq ⊢
    show wpAny _ _ (if (decide (-(2:Int) ^ 63≤hv) && decide (hv<2 ^ 63))=true then _ else _) Q E _
    unfold redH at hq
    by_cases hr:(decide (-(2:Int) ^ 63≤hv) && decide (hv<2 ^ 63))=true
    ·rw [if_pos hr] at hq ⊢
     exact wpAny_pure (hq _ (Nat.le_succ_of_le htk))
    ·rw [if_neg hr] at hq ⊢
     exact wpAny_bind (wpAny_rule (wpAny_pure (hq _ (Nat.le_succ_of_le htk))))
  | _=>simp [zhf] at ho
end
mutual
theorem zry:∀ (d e:PyData),zhf d=true→zhf e=true→PyData.eqv d e=true→d=e
 | .int a,.int b,_,_,h=>by
  have h:(a == b)=true:=by simpa [PyData.eqv] using h
  rw [eq_of_beq h]
 | .tuple xs,.tuple ys,h1,h2,h=>by
  have h:PyData.eqvAll xs ys=true:=h
  rw [zsk xs ys h1 h2 h]
 | .int a,.tuple ys,_,_,h=>by simp [PyData.eqv] at h
 | .tuple xs,.int b,_,_,h=>by simp [PyData.eqv] at h
theorem zsk:∀ (ds es:List PyData),ztb ds=true→ztb es=true→PyData.eqvAll ds es=true→ds=es
 | [],[],_,_,_=>rfl
 | d::ds,e::es,h1,h2,h=>by
  rw [ztb,Bool.and_eq_true] at h1 h2
  have h:(PyData.eqv d e && PyData.eqvAll ds es)=true:=h
  rw [Bool.and_eq_true] at h
  rw [zry d e h1.1 h2.1 h.1,zsk ds es h1.2 h2.2 h.2]
 | [],e::es,_,_,h=>by simp [PyData.eqvAll] at h
 | d::ds,[],_,_,h=>by simp [PyData.eqvAll] at h
end
theorem zft {d:PyData} (h:zhf d=true):PyData.eqv d d=true:=by
 cases d with
 | int i=>simp [PyData.eqv]
 | tuple xs=>exact SeqAt.eqvAll_refl xs (zoe xs h)
 | _=>simp [zhf] at h
noncomputable def Mono (xs:Array Nat):Prop:=∀ (a b u v:Nat),a<b→xs[a]? = some u→xs[b]? = some v→u<v
theorem ztt {xs:Array Nat} {j:Nat} (hs:Mono xs):∀ (fuel lo hi:Nat),hi - lo≤fuel→lo≤hi→hi≤xs.size→(∀ i v,i<lo→xs[i]? = some v→v<j)→(∀ i v,hi≤i→xs[i]? = some v→j≤v) →
  SetTable.below.go xs j fuel lo hi≤xs.size∧(∀ i v,i<SetTable.below.go xs j fuel lo hi→xs[i]? = some v→v<j)∧(∀ i v,SetTable.below.go xs j fuel lo hi≤i→xs[i]? = some v→j≤v):=by
 intro fuel
 induction fuel with
 | zero =>
  intro lo hi h1 h2 h3 h4 h5
  have e:lo=hi:=by omega
  subst e
  unfold SetTable.below.go
  exact ⟨h3,h4,h5⟩
 | succ fuel ih =>
  intro lo hi h1 h2 h3 h4 h5
  unfold SetTable.below.go
  by_cases hl:lo<hi
  ·rw [if_pos hl]
   dsimp only
   have hm:(lo+hi) / 2<xs.size:=by omega
   have em:xs[(lo+hi) / 2]? = some (xs.getD ((lo+hi) / 2) j):=by rw [Array.getD_eq_getD_getElem?,Array.getElem?_eq_getElem hm];rfl
   by_cases hx:xs.getD ((lo+hi) / 2) j<j
   ·rw [if_pos hx]
    refine ih _ _ (by omega) (by omega) h3 (λ i v hi' e=>?_) h5
    rcases Nat.lt_or_ge i ((lo+hi) / 2) with hlt | hge
    ·exact Nat.lt_trans (hs _ _ _ _ hlt e em) hx
    ·have:i=(lo+hi) / 2:=by omega
     subst this
     rw [em] at e
     cases e
     exact hx
   ·rw [if_neg hx]
    refine ih _ _ (by omega) (by omega) (by omega) h4 (λ i v hi' e=>?_)
    rcases Nat.lt_or_ge ((lo+hi) / 2) i with hlt | hge
    ·exact Nat.le_of_lt (Nat.lt_of_le_of_lt (Nat.le_of_not_lt hx) (hs _ _ _ _ hlt em e))
    ·have:i=(lo+hi) / 2:=by omega
     subst this
     rw [em] at e
     cases e
     exact Nat.le_of_not_lt hx
  ·rw [if_neg hl]
   exact ⟨by omega,h4,λ i v hi' e=>h5 i v (by omega) e⟩
theorem zdc {xs:Array Nat} (hs:Mono xs) (j:Nat):SetTable.below xs j≤xs.size∧(∀ i v,i<SetTable.below xs j→xs[i]? = some v→v<j)∧(∀ i v,SetTable.below xs j≤i→xs[i]? = some v→j≤v):=by
 unfold SetTable.below
 exact ztt hs _ _ _ (by omega) (Nat.zero_le _) (Nat.le_refl _) (λ i v h=>by omega) (λ i v h e=>by rw [Array.getElem?_eq_none h] at e;cases e)
theorem zsv {xs:Array Nat} (hs:Mono xs) {i j:Nat} (h:xs[i]? = some j):SetTable.below xs j=i:=by
 obtain ⟨h1,h2,h3⟩:=zdc hs j
 rcases Nat.lt_trichotomy (SetTable.below xs j) i with hl | he | hg
 ·have hb:SetTable.below xs j<xs.size:=Nat.lt_trans hl (Array.getElem?_eq_some_iff.mp h).1
  have e:=Array.getElem?_eq_getElem hb
  have a1:=h3 _ _ (Nat.le_refl _) e
  have a2:=hs _ _ _ _ hl e h
  omega
 ·exact he
 ·have:=h2 _ _ hg h
  omega
theorem zhm {t:ST} (hs:Mono t.place) {i j:Nat} (h:t.place[i]? = some j):t.slot j = .live i:=by
 unfold SetTable.slot
 dsimp only
 rw [zsv hs h,h,if_pos (beq_self_eq_true _)]
theorem zjo {α:Type} {xs:Array α} {p:Nat} {x:α} (hp:p≤xs.size) (i:Nat):(SetTable.insertAt xs p x)[i]? = if i<p then xs[i]? else if i=p then some x else xs[i - 1]?:=by
 rw [← Array.getElem?_toList,zjj]
 by_cases h1:i<p
 ·rw [if_pos h1,List.getElem?_append_left (by rw [List.length_take,Array.length_toList];omega),List.getElem?_take,if_pos h1,Array.getElem?_toList]
 ·rw [if_neg h1,List.getElem?_append_right (by rw [List.length_take,Array.length_toList];omega),List.length_take,Array.length_toList,Nat.min_eq_left hp]
  by_cases h2:i=p
  ·subst h2
   rw [if_pos rfl,Nat.sub_self]
   rfl
  ·rw [if_neg h2]
   obtain ⟨k,hk⟩:∃ k,i - p=k+1:=⟨i - p - 1,by omega⟩
   rw [hk,List.getElem?_cons_succ,List.getElem?_drop,Array.getElem?_toList]
   congr 1
   omega
theorem zju {xs:Array Nat} (hs:Mono xs) {j:Nat} (hn:∀ i:Nat,xs[i]? ≠ some j):Mono (SetTable.insertAt xs (SetTable.below xs j) j):=by
 obtain ⟨h1,h2,h3⟩:=zdc hs j
 have h3':∀ (i v:Nat),SetTable.below xs j≤i→xs[i]? = some v→j<v:=λ i v hi e=>by
  have:=h3 i v hi e
  rcases Nat.lt_or_eq_of_le this with hl | he
  ·exact hl
  ·subst he;exact absurd e (hn i)
 intro a b u v hab ea eb
 rw [zjo h1] at ea eb
 by_cases a1:a<SetTable.below xs j
 ·rw [if_pos a1] at ea
  have a2:=h2 _ _ a1 ea
  by_cases b1:b<SetTable.below xs j
  ·rw [if_pos b1] at eb
   exact hs _ _ _ _ hab ea eb
  ·rw [if_neg b1] at eb
   by_cases b2:b=SetTable.below xs j
   ·rw [if_pos b2] at eb;cases eb;exact a2
   ·rw [if_neg b2] at eb
    exact Nat.lt_trans a2 (h3' _ _ (by omega) eb)
 ·rw [if_neg a1] at ea
  rw [if_neg (by omega:¬ b<SetTable.below xs j)] at eb
  rw [if_neg (by omega:¬ b=SetTable.below xs j)] at eb
  by_cases a2:a=SetTable.below xs j
  ·rw [if_pos a2] at ea;cases ea
   exact h3' _ _ (by omega) eb
  ·rw [if_neg a2] at ea
   exact hs _ _ _ _ (by omega) ea eb
theorem zjt {t t':ST} (h:t.mask=t'.mask) (p:SetTable.Probe):t.advance p=t'.advance p:=by
 unfold SetTable.advance
 rw [h]
theorem zfd {t t':ST} (h:t.mask=t'.mask):∀ (n:Nat) (p:SetTable.Probe),path t n p=path t' n p
 | 0,p=>rfl
 | n+1,p=>by rw [zpb,zpb,zfd h n p,zjt h]
theorem zhd {t t':ST} (h:t.mask=t'.mask) (x:Int):t.probeStart x=t'.probeStart x:=by
 unfold SetTable.probeStart
 rw [h]
structure Wp (t:ST) (es:Array (Int×Value)):Prop where
 mono:Mono t.place
 rch:∀ (i j:Nat) (e:Int×Value),t.place[i]? = some j→es[i]? = some e→∃ n,(path t n (t.probeStart e.1)).j=j∧∀ k,k<n→∃ i':Nat,t.place[i']? = some (path t k (t.probeStart e.1)).j
theorem Wp.ins {t t1:ST} {es:Array (Int×Value)} (h:Wp t es) (hz:t.place.size=es.size) {j N:Nat} {e:Int×Value} (he:(path t N (t.probeStart e.1)).j=j) (hf:∀ i:Nat,t.place[i]? ≠ some j) (hl:∀ k,k<N→∃ i':Nat,t.place[i']? = some (path t k (t.probeStart e.1)).j)
  (hm:t1.mask=t.mask) (hp:t1.place=SetTable.insertAt t.place (SetTable.below t.place j) j):Wp t1 (SetTable.insertAt es (SetTable.below t.place j) e):=by
 obtain ⟨b1,b2,b3⟩:=zdc h.mono j
 have grow:∀ (i' v:Nat),t.place[i']? = some v→∃ i'':Nat,t1.place[i'']? = some v:=λ i' v hv=>by
  rw [hp]
  by_cases hi:i'<SetTable.below t.place j
  ·exact ⟨i',by rw [zjo b1,if_pos hi];exact hv⟩
  ·exact ⟨i'+1,by rw [zjo b1,if_neg (by omega),if_neg (by omega),Nat.add_sub_cancel];exact hv⟩
 have mk:∀ (e':Int×Value) (j':Nat),(∃ n,(path t n (t.probeStart e'.1)).j=j'∧∀ k,k<n→∃ i':Nat,t.place[i']? = some (path t k (t.probeStart e'.1)).j)→∃ n,(path t1 n (t1.probeStart e'.1)).j=j'∧∀ k,k<n→∃ i':Nat,t1.place[i']? = some (path t1 k (t1.probeStart e'.1)).j:=by
  rintro e' j' ⟨n,q1,q2⟩
  refine ⟨n,?_,λ k hk=>?_⟩
  ·rw [zfd hm,zhd hm];exact q1
  ·obtain ⟨i',hi'⟩:=q2 k hk
   rw [zfd hm,zhd hm]
   exact grow i' _ hi'
 refine ⟨by rw [hp];exact zju h.mono hf,λ i j' e' h1 h2=>mk e' j' ?_⟩
 rw [hp,zjo b1] at h1
 rw [zjo (by rw [← hz];exact b1)] at h2
 by_cases i1:i<SetTable.below t.place j
 ·rw [if_pos i1] at h1 h2
  exact h.rch i j' e' h1 h2
 ·rw [if_neg i1] at h1 h2
  by_cases i2:i=SetTable.below t.place j
  ·rw [if_pos i2] at h1 h2
   cases h1
   cases h2
   exact ⟨N,he,hl⟩
  ·rw [if_neg i2] at h1 h2
   exact h.rch (i - 1) j' e' h1 h2
noncomputable abbrev tm (mask:Nat):ST:={ mask,place := #[],dummies := #[],finger:=0,led:=false,moves:=0,plain:=false }
theorem zfe (t:ST):∀ (q:Nat) (p:SetTable.Probe),q≤p.more→path t q p={ p with j:=p.j+q,more:=p.more - q }
 | 0,p,_=>rfl
 | q+1,p,h=>by
  rw [zpb,zfe t q p (by omega)]
  unfold SetTable.advance
  dsimp only
  rw [if_pos (by omega)]
  congr 1
theorem zhr {mask:Nat} {owner:Array (Option Nat)} (hs:owner.size=mask+1):∀ (fuel i perturb j:Nat) (p:SetTable.Probe),i<mask+1→p.j=i→p.more=SetTable.runEnd mask i - i→p.i=i→p.perturb=perturb→SetTable.layClean.free mask owner fuel i perturb=some j →
  ∃ N,(path (tm mask) N p).j=j∧∀ k,k<N→own owner (path (tm mask) k p).j≠none:=by
 have occ:∀ j,j<mask+1→¬ (owner.getD j (some 0)).isNone=true→own owner j≠none:=λ j hj h e=>by
  apply h
  rw [Array.getD_eq_getD_getElem?,Array.getElem?_eq_getElem (by omega)]
  have e:owner.getD j none=none:=e
  rw [Array.getD_eq_getD_getElem?,Array.getElem?_eq_getElem (by omega)] at e
  have e:owner[j]=none:=e
  rw [e]
  rfl
 have rng:∀ i k,i<mask+1→k<SetTable.runEnd mask i+1 - i→i+k<mask+1:=λ i k hi hk=>by
  unfold SetTable.runEnd at hk
  split at hk <;> omega
 intro fuel
 induction fuel with
 | zero =>
  intro i perturb j p hi h1 h2 h3 h4 hf
  unfold SetTable.layClean.free at hf
  cases hf
 | succ fuel ih =>
  intro i perturb j p hi h1 h2 h3 h4 hf
  unfold SetTable.layClean.free at hf
  cases hfd:(List.range (SetTable.runEnd mask i+1 - i)).find? λ k=>(owner.getD (i+k) (some 0)).isNone with
  | some q =>
   rw [hfd] at hf
   have hf:some (i+q)=some j:=hf
   cases hf
   have hq:q<SetTable.runEnd mask i+1 - i:=List.mem_range.mp (List.mem_of_find?_eq_some hfd)
   refine ⟨q,?_,λ k hk=>?_⟩
   ·rw [zfe _ q p (by rw [h2];omega)]
    show p.j+q=i+q
    rw [h1]
   ·rw [zfe _ k p (by rw [h2];omega)]
    show own owner (p.j+k)≠none
    rw [h1]
    refine occ _ (rng i k hi (by omega)) ?_
    have:=(List.find?_range_eq_some.mp hfd).2.2 k hk
    intro hc
    rw [hc] at this
    exact absurd this (by decide)
  | none =>
   rw [hfd] at hf
   have hall:=List.find?_eq_none.mp hfd
   have hrun:∀ k,k≤p.more→(path (tm mask) k p).j=i+k∧own owner (i+k)≠none:=λ k hk=>by
    have hk':k<SetTable.runEnd mask i+1 - i:=by
     rw [h2] at hk
     have:i≤SetTable.runEnd mask i:=by unfold SetTable.runEnd;split <;> omega
     omega
    refine ⟨?_,occ _ (rng i k hi hk') (hall k (List.mem_range.mpr hk'))⟩
    rw [zfe _ k p hk]
    show p.j+k=i+k
    rw [h1]
   have he:=zxk (tm mask) p.more p rfl
   obtain ⟨N,n1,n2⟩:=ih _ _ j (path (tm mask) (p.more+1) p) (Nat.mod_lt _ (Nat.succ_pos mask)) (by rw [he];show (SetTable.leap mask p.i p.perturb).1=_;rw [h3,h4];rfl) (by rw [he];show SetTable.runEnd mask (SetTable.leap mask p.i p.perturb).1 - (SetTable.leap mask p.i p.perturb).1=_;rw [h3,h4];rfl) (by rw [he];show (SetTable.leap mask p.i p.perturb).1=_;rw [h3,h4];rfl) (by rw [he];show (SetTable.leap mask p.i p.perturb).2=_;rw [h3,h4];rfl) hf
   refine ⟨p.more+1+N,by rw [zaf];exact n1,λ k hk=>?_⟩
   rcases Nat.lt_or_ge k (p.more+1) with hl | hg
   ·obtain ⟨e1,e2⟩:=hrun k (by omega)
    rw [e1]
    exact e2
   ·obtain ⟨d,rfl⟩:∃ d,k=p.more+1+d:=⟨k - (p.more+1),by omega⟩
    rw [zaf]
    exact n2 d (by omega)
end L2
namespace L2
open PySem PySem.Spec PyProof.Rows PySem.NumText
section
variable {X:Cx}
end
noncomputable abbrev Ext (h h':Heap):Prop:=∀ b o,h.get? b=some o→h'.get? b=some o
section
variable {prog:Program} {w:World} {A:Around} {R:Result→Shared→Prop} {I:Addr} {fp wr:List Addr} {n:Nat} {P:Nat→Value→Prop} {St:Nat→Heap→Prop} {h0:Heap} {kw:List (Str×Value)}
end
section
variable {X:Cx}
mutual
theorem zaq {h h':Heap} (e:Ext h h'):∀ {v:Value} {d:PyData} {as:List Addr},Reads h v d as→Reads h' v d as
 | _,_,_,.none=>.none
 | _,_,_,.bool b=>.bool b
 | _,_,_,.int i t=>.int i t
 | _,_,_,.str x t=>.str x t
 | _,_,_,.list a b c d=>.list (e _ _ a) b c (zgb e d)
 | _,_,_,.tuple a b c d=>.tuple (e _ _ a) b c (zgb e d)
 | _,_,_,.dict a b c d f=>.dict (e _ _ a) b c (zgb e d) (zgb e f)
theorem zgb {h h':Heap} (e:Ext h h'):∀ {vs:List Value} {ds:List PyData} {as:List Addr},ReadsAll h vs ds as→ReadsAll h' vs ds as
 | _,_,_,.nil=>.nil
 | _,_,_,.cons a b=>.cons (zaq e a) (zgb e b)
end
end
end L2
namespace L2
open PySem PySem.Spec PyProof.Rows
section
variable {X:Cx} {CX:CXT} {k:Nat} {f C D:Addr} {fd:FuncData} {ps:List Str} {sp:Sp} {dvs:List V} {ds:List Value} {EX:XK} {x m:Str} {p pos apos:Pos} {e o:Expr} {es:List Expr} {ta:TE} {t:TA} {σ₀:St}
end
end L2
namespace L2
open PySem PySem.Spec PyProof.Rows PySem.NumText
section
variable {X:Cx}
end
end L2
namespace L2
open PySem PySem.Spec PyProof.Rows PySem.NumText
theorem zpz {z:Str}:PyData.strOk z=true ↔ ∀ n∈z.cps.toList,n<0x110000:=by
 unfold PyData.strOk
 rw [← Array.all_toList,List.all_eq_true]
 constructor
 ·intro h n hn;exact of_decide_eq_true (h n hn)
 ·intro h n hn;exact decide_eq_true (h n hn)
theorem zd0 (s:String):PyData.strOk (Str.ofString s)=true:=by
 rw [zpz]
 intro n hn
 rw [signs_ofString] at hn
 obtain ⟨c,_,rfl⟩:=List.mem_map.mp hn
 have:=c.valid
 unfold UInt32.isValidChar Nat.isValidChar at this
 show c.val.toNat<1114112
 omega
end L2
namespace L2
open PySem PySem.Spec PyProof.Rows PySem.NumText
structure STO {α:Type} (lt:α→α→Bool):Prop where
 irr:∀ a,lt a a=false
 tr:∀ a b c,lt a b=true→lt b c=true→lt a c=true
 tri:∀ a b,a≠b→lt a b=false→lt b a=true
theorem STO.asym {α:Type} {lt:α→α→Bool} (h:STO lt) {a b:α} (x:lt a b=true):lt b a=false:=by
 cases e:lt b a with
 | false=>rfl
 | true=>have:=h.tr a b a x e;rw [h.irr] at this;cases this
noncomputable abbrev Ver:=Int×List Stp×Str
noncomputable def ver (v:Ver):PyData := .tuple [.int v.1,plc v.2.1,.str v.2.2]
noncomputable def vdat:Option Ver→PyData
 | none=>.none
 | some v=>ver v
noncomputable def okV (v:Ver):Prop:=PySem.PyData.strOk v.2.2=true
noncomputable def okO (o:Option Ver):Prop:=∀ v,o=some v→okV v
theorem zot {K:W.Frag} {H:Hp} {v:Ver} {x:V} (h:DV K H (ver v) x):∃ t pv,x = .ref t∧SqT K H t [.int v.1,pv,.str v.2.2]∧DV K H (plc v.2.1) pv:=by
 obtain ⟨t,vs,rfl,hq,a,r,rfl,ha,b,r2,rfl,hb,c,r3,rfl,hc,h4⟩:=h
 cases (show a=V.int v.1 from ha)
 cases (show c=V.str v.2.2 from hc)
 cases (show r3=[] from h4)
 exact ⟨t,b,rfl,hq,hb⟩
theorem zqt {K:W.Frag} {H:Hp} {v:Ver} {t:Addr} {pv:V} (h:SqT K H t [.int v.1,pv,.str v.2.2]) (hp:DV K H (plc v.2.1) pv):DV K H (ver v) (.ref t):=⟨t,_,rfl,h,_,_,rfl,rfl,_,_,rfl,hp,_,_,rfl,rfl,rfl⟩
theorem zgc (o:Option Ver):noL (vdat o)=true:=by
 cases o with
 | none=>rfl
 | some v =>
  show (noL (.int v.1) && (noL (plc v.2.1) && (noL (.str v.2.2) && true)))=true
  rw [zvw]
  rfl
theorem zvy (a b:Ver):PyData.eqv (ver a) (ver b)=decide (a=b):=by
 obtain ⟨a1,a2,a3⟩:=a
 obtain ⟨b1,b2,b3⟩:=b
 have e:PyData.eqv (ver (a1,a2,a3)) (ver (b1,b2,b3))=(a1 == b1 && (PyData.eqv (plc a2) (plc b2) && (a3 == b3 && true))):=rfl
 rw [e,zix,Bool.eq_iff_iff]
 simp
theorem zqg (a b:Option Ver):PyData.eqv (vdat a) (vdat b)=decide (a=b):=by
 cases a with
 | none=>cases b <;> rfl
 | some x =>
  cases b with
  | none=>rfl
  | some y =>
   show PyData.eqv (ver x) (ver y)=_
   rw [zvy]
   exact decide_eq_decide.mpr (by simp)
theorem zeo {v:Ver} (h:okV v):SeqAt.shaped (ver v)=true:=by
 unfold SeqAt.shaped
 have h1:PyData.canLay0 (ver v)=true:=by
  show (true && (PyData.canLay0 (plc v.2.1) && (PySem.PyData.strOk v.2.2 && true)))=true
  rw [zto,h]
  rfl
 rw [h1,Bool.true_and]
 have h2:PyData.depth (ver v)=max 0 (max (PyData.depthAll (v.2.1.map stp)+1) (max 0 0))+1:=rfl
 have:=zlc v.2.1
 exact decide_eq_true (by omega)
theorem zya {o:Option Ver} (h:okO o):SeqAt.shaped (vdat o)=true:=by
 cases o with
 | none=>rfl
 | some v=>exact zeo (h v rfl)
end L2
namespace L2
open PySem PySem.Spec PyProof.Rows PySem.NumText PySem.W
section
variable {n:Nat} {s:Shared} {cmp:Nat→Nat→(Bool→Shared→Prop)→Shared→Prop} {lt:Nat→Nat→Bool}
noncomputable def Asks (n:Nat) (s:Shared) (cmp:Nat→Nat→(Bool→Shared→Prop)→Shared→Prop) (lt:Nat→Nat→Bool):Prop:=∀ i j C,i<n→j<n→C (lt i j) s→cmp i j C s
structure Ord (n:Nat) (lt:Nat→Nat→Bool):Prop where
 tr:∀ a b c,a<n→b<n→c<n→lt a b=true→lt b c=true→lt a c=true
 tri:∀ a b,a<n→b<n→a≠b→lt a b=false→lt b a=true
 asy:∀ a b,a<n→b<n→lt a b=true→lt b a=false
structure Pm (n:Nat) (p:Array Nat):Prop where
 pm:p.toList.Perm (List.range n)
noncomputable abbrev at_ (p:Array Nat) (k:Nat):Nat:=p.getD k 0
theorem Pm.size {p:Array Nat} (h:Pm n p):p.size=n:=by have:=h.pm.length_eq;simpa using this
theorem zoy {p:Array Nat} {k:Nat} (h:k<p.size):at_ p k=p[k]:=by simp [at_,Array.getD,h]
theorem Pm.inb {p:Array Nat} (h:Pm n p) {k:Nat} (hk:k<n):at_ p k<n:=by
 have hs:=h.size
 rw [zoy (by omega)]
 have:p[k]'(by omega)∈p.toList:=by simp
 have:=h.pm.mem_iff.mp this
 simpa using this
theorem Pm.inj {p:Array Nat} (h:Pm n p) {i j:Nat} (hi:i<n) (hj:j<n) (e:at_ p i=at_ p j):i=j:=by
 have hs:=h.size
 rw [zoy (by omega),zoy (by omega)] at e
 have nd:p.toList.Nodup:=h.pm.nodup_iff.mpr List.nodup_range
 have pw:=List.pairwise_iff_getElem.mp nd
 rcases Nat.lt_trichotomy i j with z | z | z
 ·exact absurd e (pw i j (by simp;omega) (by simp;omega) z)
 ·exact z
 ·exact absurd e.symm (pw j i (by simp;omega) (by simp;omega) z)
noncomputable def Up (lt:Nat→Nat→Bool) (p:Array Nat) (m:Nat):Prop:=∀ i j,i<j→j<m→lt (at_ p i) (at_ p j)=true
theorem zfm {p:Array Nat} {m:Nat} (O:Ord n lt) (h:Pm n p) (hm:m≤n) (c:∀ k,1≤k→k<m→lt (at_ p (k - 1)) (at_ p k)=true):Up lt p m:=by
 intro i j hij hj
 induction j with
 | zero=>omega
 | succ j ih =>
  have h1:=c (j+1) (by omega) hj
  rw [Nat.add_sub_cancel] at h1
  by_cases e:i=j
  ·rw [e];exact h1
  ·exact O.tr _ _ _ (h.inb (by omega)) (h.inb (by omega)) (h.inb (by omega)) (ih (by omega) (by omega)) h1
theorem ziu (hc:Asks n s cmp lt) {p:Array Nat} (h:Pm n p):∀ (f m:Nat) {Q:Nat→Shared→Prop},1≤m→m+f≤n →
  (∀ r,m≤r→r≤m+f→(∀ k,m≤k→k<r→lt (at_ p k) (at_ p (k - 1))=false)→(r<m+f→lt (at_ p r) (at_ p (r - 1))=true)→Q r s)→(kas_asc p f m).kasWp cmp Q s
 | 0,m,Q,h1,hm,q=>q m (Nat.le_refl _) (Nat.le_refl _) (λ k a b=>by omega) (λ a=>by omega)
 | f+1,m,Q,h1,hm,q=>by
  refine hc _ _ _ (h.inb (by omega)) (h.inb (by omega)) ?_
  cases e:lt (at_ p m) (at_ p (m - 1)) with
  | true=>exact q m (Nat.le_refl _) (by omega) (λ k a b=>by omega) (λ _=>e)
  | false =>
   refine ziu hc h f (m+1) (by omega) (by omega) λ r a b c d=>q r (by omega) (by omega) (λ k k1 k2=>?_) (λ z=>d (by omega))
   by_cases ek:k=m
   ·rw [ek];exact e
   ·exact c k (by omega) k2
theorem zgs (O:Ord n lt) (hc:Asks n s cmp lt) {p:Array Nat} (h:Pm n p):∀ (f m:Nat) {Q:Array Nat×Nat×Nat→Shared→Prop},1≤m→m+f≤n →
  (∀ r,m≤r→r≤m+f→(∀ k,m≤k→k<r→lt (at_ p k) (at_ p (k - 1))=true)→Q (p,r,0) s)→(kas_desc f p m 0).kasWp cmp Q s
 | 0,m,Q,h1,hm,q=>q m (Nat.le_refl _) (Nat.le_refl _) (λ k a b=>by omega)
 | f+1,m,Q,h1,hm,q=>by
  refine hc _ _ _ (h.inb (by omega)) (h.inb (by omega)) ?_
  cases e:lt (at_ p m) (at_ p (m - 1)) with
  | true =>
   show (kas_desc f p (m+1) 0).kasWp cmp Q s
   refine zgs O hc h f (m+1) (by omega) (by omega) λ r a b c=>q r (by omega) (by omega) (λ k k1 k2=>?_)
   by_cases ek:k=m
   ·rw [ek];exact e
   ·exact c k (by omega) k2
  | false =>
   refine hc _ _ _ (h.inb (by omega)) (h.inb (by omega)) ?_
   have:=O.tri _ _ (h.inb (k:=m) (by omega)) (h.inb (k:=m - 1) (by omega)) (λ z=>by have:=h.inj (by omega) (by omega) z;omega) e
   rw [show lt (p.getD (m - 1) 0) (p.getD m 0)=true from this]
   exact q m (Nat.le_refl _) (by omega) (λ k a b=>by omega)
theorem zth {p q:Array Nat} (h:Pm n p) (e:q.Perm p):Pm n q:=⟨(Array.perm_iff_toList_perm.mp e).trans h.pm⟩
theorem zdy {p:Array Nat} (h:Pm n p) {m:Nat} (hm:m≤n) {k:Nat} (hk:k<n):at_ (kas_rev p 0 m) k=if k<m then at_ p (m - 1 - k) else at_ p k:=by
 have hs:=h.size
 have:=getElem?_mirror_all (xs:=p) (i:=0) (j:=m) (by omega) k
 unfold at_
 rw [Array.getD_eq_getD_getElem?,kas_rev,this]
 by_cases hkm:k<m
 ·rw [if_pos hkm,if_pos ⟨by omega,hkm⟩,Array.getD_eq_getD_getElem?,show 0+m - 1 - k=m - 1 - k by omega]
 ·rw [if_neg hkm,if_neg (by omega),Array.getD_eq_getD_getElem?]
theorem zuv (O:Ord n lt) (hc:Asks n s cmp lt) {p:Array Nat} (h:Pm n p) {m:Nat} {Q:Nat×Array Nat→Shared→Prop} (h1:1≤m) (hm:m≤n) (hd:∀ k,1≤k→k<m→lt (at_ p k) (at_ p (k - 1))=true)
  (q:∀ r p',1≤r→r≤n→Pm n p'→Up lt p' r→Q (r,p') s):(kas_tail3 m n p).kasWp cmp Q s:=by
 have hp':Pm n (kas_rev p 0 m):=zth h (mirror_perm _ _ _ _)
 unfold kas_tail3
 rw [KasT.kasWp_bind]
 refine ziu hc hp' (n - m) m h1 (by omega) λ r a b c _=>q r _ (by omega) (by omega) hp' (zfm O hp' (by omega) λ k k1 k2=>?_)
 by_cases hk:k<m
 ·rw [zdy h hm (by omega),zdy h hm (by omega),if_pos (by omega),if_pos hk]
  have:=hd (m - 1 - (k - 1)) (by omega) (by omega)
  rw [show m - 1 - (k - 1) - 1=m - 1 - k by omega] at this
  exact this
 ·exact O.tri _ _ (hp'.inb (by omega)) (hp'.inb (by omega)) (λ z=>by have:=hp'.inj (by omega) (by omega) z;omega) (c k (by omega) k2)
theorem zsl (O:Ord n lt) (hc:Asks n s cmp lt) {p:Array Nat} (h:Pm n p) {Q:Nat×Array Nat→Shared→Prop} (h2:2≤n) (hd:lt (at_ p 1) (at_ p 0)=true)
  (q:∀ r p',1≤r→r≤n→Pm n p'→Up lt p' r→Q (r,p') s):(kas_descPart 1 n p).kasWp cmp Q s:=by
 unfold kas_descPart
 rw [KasT.kasWp_bind]
 refine zgs O hc h (n - 2) 2 (by omega) (by omega) λ r a b c=>?_
 show (kas_tail3 r n p).kasWp cmp Q s
 refine zuv O hc h (by omega) (by omega) (λ k k1 k2=>?_) q
 by_cases e:k=1
 ·rw [e];exact hd
 ·exact c k (by omega) k2
theorem zhv (O:Ord n lt) (hc:Asks n s cmp lt) {p:Array Nat} (h:Pm n p) {Q:Nat×Array Nat→Shared→Prop} (h2:2≤n)
  (q:∀ r p',1≤r→r≤n→Pm n p'→Up lt p' r→Q (r,p') s):(kas_count n p).kasWp cmp Q s:=by
 unfold kas_count
 rw [KasT.kasWp_bind]
 refine ziu hc h (n - 1) 1 (by omega) (by omega) λ r a b c d=>?_
 have up:Up lt p r:=zfm O h (by omega) λ k k1 k2=>O.tri _ _ (h.inb (by omega)) (h.inb (by omega)) (λ z=>by have:=h.inj (by omega) (by omega) z;omega) (c k k1 k2)
 by_cases e:r=n
 ·rw [if_pos (by simp [e])]
  exact q r p (by omega) (by omega) h up
 ·rw [if_neg (by simp [e])]
  by_cases e1:r > 1
  ·rw [if_pos e1]
   refine hc _ _ _ (h.inb (by omega)) (h.inb (by omega)) ?_
   have:=up 0 (r - 1) (by omega) (by omega)
   rw [show lt (p.getD 0 0) (p.getD (r - 1) 0)=true from this]
   exact q r p (by omega) (by omega) h up
  ·rw [if_neg e1]
   obtain rfl:r=1:=by omega
   exact zsl O hc h h2 (d (by omega)) q
theorem zcj (O:Ord n lt) (hc:Asks n s cmp lt) {p:Array Nat} (h:Pm n p) {k:Nat} (hk:k<n) (up:Up lt p k):∀ (f l r:Nat) {Q:Nat→Shared→Prop},l≤r→r≤k→r - l≤f →
  (∀ i,i<l→lt (at_ p k) (at_ p i)=false)→(∀ i,r≤i→i<k→lt (at_ p k) (at_ p i)=true) →
  (∀ l',l'≤k→(∀ i,i<l'→lt (at_ p k) (at_ p i)=false)→(∀ i,l'≤i→i<k→lt (at_ p k) (at_ p i)=true)→Q l' s)→(kas_place p k f l r).kasWp cmp Q s
 | 0,l,r,Q,h1,h2,h3,a,b,q=>q l (by omega) a λ i i1 i2=>b i (by omega) i2
 | f+1,l,r,Q,h1,h2,h3,a,b,q=>by
  unfold kas_place
  by_cases e:l ≥ r
  ·rw [if_pos e]
   exact q l (by omega) a λ i i1 i2=>b i (by omega) i2
  ·rw [if_neg e]
   refine hc _ _ _ (h.inb hk) (h.inb (by omega)) ?_
   cases e2:lt (p.getD k 0) (p.getD ((l+r) / 2) 0) with
   | true =>
    refine zcj O hc h hk up f l ((l+r) / 2) (by omega) (by omega) (by omega) a (λ i i1 i2=>?_) q
    by_cases ei:i=(l+r) / 2
    ·rw [ei];exact e2
    ·exact O.tr _ _ _ (h.inb hk) (h.inb (by omega)) (h.inb (by omega)) e2 (up _ _ (by omega) i2)
   | false =>
    refine zcj O hc h hk up f ((l+r) / 2+1) r (by omega) h2 (by omega) (λ i i1=>?_) b q
    have hm:=O.tri _ _ (h.inb hk) (h.inb (k:=(l+r) / 2) (by omega)) (λ z=>by have:=h.inj hk (by omega) z;omega) e2
    by_cases ei:i=(l+r) / 2
    ·rw [ei];exact e2
    ·exact O.asy _ _ (h.inb (by omega)) (h.inb hk) (O.tr _ _ _ (h.inb (by omega)) (h.inb (k:=(l+r) / 2) (by omega)) (h.inb hk) (up i _ (by omega) (by omega)) hm)
theorem zay {p:Array Nat} (h:Pm n p) {k l:Nat} (hk:k<n) (hl:l≤k) {i:Nat} (hi:i<n):at_ (bubble p k (k - l)) i=if i<l then at_ p i else if i=l then at_ p k else if i≤k then at_ p (i - 1) else at_ p i:=by
 have hs:=h.size
 have:=getElem?_bubble (xs:=p) (src:=k) (by omega) (k - l) (by omega) i
 unfold at_
 simp only [Array.getD_eq_getD_getElem?]
 rw [this]
 rw [show k - (k - l)=l by omega]
 by_cases e1:i<l
 ·rw [if_pos e1,if_neg (by omega),if_neg (by omega)]
 ·rw [if_neg e1]
  by_cases e2:i=l
  ·rw [if_pos e2,if_pos e2]
  ·rw [if_neg e2,if_neg e2]
   by_cases e3:i≤k
   ·rw [if_pos e3,if_pos ⟨by omega,e3⟩]
   ·rw [if_neg e3,if_neg (by omega)]
theorem znx (O:Ord n lt) (hc:Asks n s cmp lt):∀ (f:Nat) (p:Array Nat) (k:Nat) {Q:Array Nat→Shared→Prop},Pm n p→k+f=n→Up lt p k→(∀ p',Pm n p'→Up lt p' n→Q p' s)→(kas_bin f p k).kasWp cmp Q s
 | 0,p,k,Q,h,hk,up,q=>by
  obtain rfl:k=n:=by omega
  exact q p h up
 | f+1,p,k,Q,h,hk,up,q=>by
  unfold kas_bin
  rw [KasT.kasWp_bind]
  have hkn:k<n:=by omega
  refine zcj O hc h hkn up k 0 k (by omega) (Nat.le_refl _) (by omega) (λ i z=>by omega) (λ i z z2=>by omega) λ l hl a b=>?_
  have hp':Pm n (bubble p k (k - l)):=zth h (bubble_perm _ _ _)
  refine znx O hc f _ (k+1) hp' (by omega) (λ i j hij hj=>?_) q
  rw [zay h hkn hl (by omega),zay h hkn hl (by omega)]
  have lo:∀ i,i<l→lt (at_ p i) (at_ p k)=true:=λ i hi=>O.tri _ _ (h.inb hkn) (h.inb (by omega)) (λ z=>by have:=h.inj hkn (by omega) z;omega) (a i hi)
  by_cases i1:i<l
  ·rw [if_pos i1]
   by_cases j1:j<l
   ·rw [if_pos j1];exact up i j hij (by omega)
   ·rw [if_neg j1]
    by_cases j2:j=l
    ·rw [if_pos j2];exact lo i i1
    ·rw [if_neg j2,if_pos (by omega)];exact up i (j - 1) (by omega) (by omega)
  ·rw [if_neg i1,if_neg (show ¬ j<l by omega),if_neg (show ¬ j=l by omega),if_pos (show j≤k by omega)]
   by_cases i2:i=l
   ·rw [if_pos i2];exact b (j - 1) (by omega) (by omega)
   ·rw [if_neg i2,if_pos (by omega)];exact up (i - 1) (j - 1) (by omega) (by omega)
theorem zpm:Pm n (List.range n).toArray:=⟨by simp⟩
theorem zow (O:Ord n lt) (hc:Asks n s cmp lt) (h2:2≤n) {Q:Array Nat→Shared→Prop} (q:∀ p',Pm n p'→Up lt p' n→Q p' s):(kas_sort n).kasWp cmp Q s:=by
 unfold kas_sort
 rw [KasT.kasWp_bind]
 refine zhv O hc zpm h2 λ r p' a b hp up=>?_
 by_cases e:r<n
 ·show (if r<n then kas_bin (n - max r 1) p' (max r 1) else .ret p':KasT _).kasWp cmp Q s
  rw [if_pos e,show max r 1=r by omega]
  exact znx O hc _ p' r hp (by omega) up q
 ·show (if r<n then kas_bin (n - max r 1) p' (max r 1) else .ret p':KasT _).kasWp cmp Q s
  rw [if_neg e]
  obtain rfl:r=n:=by omega
  exact q p' hp up
end
end L2
namespace L2
open PySem PySem.Spec PyProof.Rows PySem.NumText PySem.W
section
variable {prog:Program} {w:World} {A:Around} {E:Value→Shared→Prop} {s:Shared} {a:Addr} {vs:List Value} {lt:Nat→Nat→Bool}
noncomputable abbrev zpl (vs:List Value) (p:Array Nat):List Value:=p.toList.map λ i=>vs.getD i .none
theorem zcr (vs:List Value):zpl vs (List.range vs.length).toArray=vs:=by
 unfold zpl
 refine List.ext_getElem (by simp) λ i h1 h2=>?_
 simp only [List.getElem_map,List.getElem_range]
 simp [h2]
theorem zxm {c:Nat} {P:PySem.Fin→Shared→Prop} (ho:s.heap.get? a=some (seqObj "list" vs.toArray c)) (few:vs.length<64) (O:Ord vs.length lt)
  (hk:2≤vs.length→∀ h',(∀ b o,b≠a→s.heap.get? b=some o→h'.get? b=some o)→∃ κ,(∀ (R:SortKind→Shared→Prop) (E':Value→Shared→Prop),R κ { s with heap:=h' }→wpAny (model prog w) A (keyKind' vs.toArray) R E' { s with heap:=h' })∧Asks vs.length { s with heap:=h' } (kas_ask prog w A κ vs) lt)
  (h:∀ (p:Array Nat) (h':Heap) (c':Nat),Pm vs.length p→Up lt p vs.length→h'.get? a=some (seqObj "list" (zpl vs p).toArray c')→(∀ b o,b≠a→s.heap.get? b=some o→h'.get? b=some o)→P (.done (.ret .none)) { s with heap:=h' }) :
  wpAny (model prog w) A (Builtin.«list.sort» ⟨[.ref a],[]⟩) P E s:=by
 have la:a<s.heap.objs.size:=Heap.lt_size ho
 have line:vs.length≤sizeLine:=by rw [sizeLine_eq];omega
 obtain ⟨e1,ho1⟩:∃ e1,(s.heap.update a (Obj.mapSeq λ _=>(#[]:Array Value))).get? a=some (seqObj "list" #[] e1):=⟨_,get?_update_seq ho λ _ => #[]⟩
 generalize hh:((s.heap.update a (Obj.mapSeq λ _=>(#[]:Array Value))).push (seqObj "tuple" vs.toArray 0)).push (seqObj "list" #[] 0)=h3
 have keep3:∀ b o,b≠a→s.heap.get? b=some o→h3.get? b=some o:=λ b o nb q=>by
  rw [← hh]
  refine Heap.get?_push_of_some _ (Heap.get?_push_of_some _ ?_)
  rw [Heap.get?_update_other _ _ (Ne.symm nb)]
  exact q
 have at3:h3.get? a=some (seqObj "list" #[] e1):=by rw [← hh];exact Heap.get?_push_of_some _ (Heap.get?_push_of_some _ ho1)
 have fin:∀ (p:Array Nat),Pm vs.length p→Up lt p vs.length→P (.done (.ret .none)) { s with heap:=h3.update a (Obj.mapSeq λ _=>(zpl vs p).toArray) }:=λ p hp up=>by
  obtain ⟨c2,hc2⟩:∃ c2,(h3.update a (Obj.mapSeq λ _=>(zpl vs p).toArray)).get? a=some (seqObj "list" (zpl vs p).toArray c2):=⟨_,get?_update_seq at3 λ _=>(zpl vs p).toArray⟩
  refine h p _ c2 hp up hc2 λ b o nb q=>?_
  rw [Heap.get?_update_other _ _ (Ne.symm nb)]
  exact keep3 b o nb q
 rw [list_sort_plain]
 refine wpAny_bind (listItems_at ho rfl (wpAny_bind (listUpdate_at ho rfl ?_ (by rw [List.size_toArray];exact line) (Nat.zero_le _))))
 refine wpAny_bind (seqEpoch_at ho1 rfl (wpAny_bind (wpAny_newTuple (wpAny_bind (wpAny_newList (wpAny_holding ?_) (Nat.zero_le _))) line)))
 show wpAny (model prog w) A _ P E { s with heap:=((s.heap.update a (Obj.mapSeq λ _=>(#[]:Array Value))).push (seqObj "tuple" vs.toArray 0)).push (seqObj "list" #[] 0) }
 rw [hh]
 dsimp only
 by_cases few2:vs.toArray.size<2
 ·rw [if_pos few2,if_pos few2]
  refine wpAny_bind (wpAny_pure ?_)
  rw [StateT.run_pure]
  refine wpAny_bind (wpAny_pure ?_)
  dsimp only
  have hsz:vs.length<2:=by simpa using few2
  have e:(arrOf (SortSt.mk' general' (vs.toArray.zip vs.toArray) #[] 7 none)).map (·.2)=(zpl vs (List.range vs.length).toArray).toArray:=by
   rw [zcr]
   show (vs.toArray.zip vs.toArray).map (·.2)=vs.toArray
   refine Array.ext (by simp) λ i h1 h2=>?_
   simp
  refine wpAny_bind (seqEpoch_at at3 rfl (wpAny_bind (listUpdate_at at3 rfl ?_ (Nat.zero_le _) ?_)))
  ·simp only [bne_self_eq_false,Bool.false_eq_true,if_false]
   refine wpAny_pure ?_
   rw [e]
   exact fin _ zpm λ i j hij hj=>by omega
  ·rw [e]
   simp only [zpl,List.size_toArray,List.length_map,List.length_range]
   omega
 ·rw [if_neg few2,if_neg few2]
  have two:2≤vs.length:=by
   have:¬ vs.length<2:=by simpa using few2
   omega
  obtain ⟨κ,kind,asks⟩:=hk two h3 keep3
  refine wpAny_bind (kind _ _ ?_)
  refine wpAny_bind (wpAny_mono (kat_run (Q:=λ st' s'=>s'={ s with heap:=h3 }∧∃ p:Array Nat,Pm vs.length p∧Up lt p vs.length∧arrOf st'=p.map (kas_item (vs.toArray.zip vs.toArray))∧failedOf st'=none)
   (G:=λ p s'=>s'={ s with heap:=h3 }∧Pm vs.length p∧Up lt p vs.length) rfl two few (λ p' st' s' _ a2 a3 a4=>⟨a4.1,p',a4.2.1,a4.2.2,a2,a3⟩) (zow O asks two λ p' hp up=>⟨rfl,hp,up⟩)) ?_ λ _ _ e=>e)
  rintro ⟨⟨⟩,st'⟩ s' ⟨rfl,p,hp,up,har,hf⟩
  have e:=kat_snds rfl har
  dsimp only
  rw [e]
  refine wpAny_bind (seqEpoch_at at3 rfl (wpAny_bind (listUpdate_at at3 rfl ?_ (Nat.zero_le _) ?_)))
  ·rw [hf]
   simp only [bne_self_eq_false,Bool.false_eq_true,if_false]
   exact wpAny_pure (fin p hp up)
  ·rw [List.size_toArray,List.length_map,Array.length_toList,hp.size]
   omega
noncomputable def zhu (prog:Program) (w:World) (A:Around) (vs:List Value) (s:Shared) (Q:Value→Shared→Prop):Prop:=∃ lt,vs.length<64∧Ord vs.length lt ∧
 (2≤vs.length→∀ h',(∀ b o,s.heap.get? b=some o→h'.get? b=some o)→∃ κ,(∀ (R:SortKind→Shared→Prop) (E':Value→Shared→Prop),R κ { s with heap:=h' }→wpAny (model prog w) A.in1.in1 (keyKind' vs.toArray) R E' { s with heap:=h' })∧Asks vs.length { s with heap:=h' } (kas_ask prog w A.in1.in1 κ vs) lt) ∧
 ∀ (p:Array Nat) (h':Heap) (l c:Nat),Pm vs.length p→Up lt p vs.length→s.heap.objs.size≤l→h'.get? l=some (seqObj "list" (zpl vs p).toArray c)→(∀ b o,s.heap.get? b=some o→h'.get? b=some o)→Q (.ref l) { s with heap:=h' }
theorem zbc {x:Value} {Q:Value→Shared→Prop} (hc:wpAny (model prog w) A.in1 (collect x) (λ us s1=>zhu prog w A us s1 Q) E s) :
  wpAny (model prog w) A (call (.builtin "sorted") [x]) Q E s:=by
 refine Calls.call_function_entry kind_sorted plain_sorted entry_sorted (args_sorted1 _) ?_
 unfold Builtin.«sorted»
 refine wpAny_bind (m:=checkCount "sorted" 1 1 _) (wpAny_pure (wpAny_bind (wpAny_mono hc (λ us s1 hg=>?_) λ _ _ e=>e)))
 obtain ⟨lt,few,O,hk,h⟩:=hg
 have line:us.length≤sizeLine:=by rw [sizeLine_eq];omega
 refine wpAny_bind (wpAny_newList ?_ line)
 have at2:(s1.heap.push (seqObj "list" us.toArray 0)).get? s1.heap.objs.size=some (seqObj "list" us.toArray 0):=Heap.get?_push_size _ rfl
 have old:∀ b o,s1.heap.get? b=some o→b≠s1.heap.objs.size:=λ b o q=>Nat.ne_of_lt (Heap.lt_size q)
 refine wpAny_bind (wpAny_holding (wpAny_call_entry slot_list_sort ⟨_,at2,rfl⟩ entry_list_sort (zxm at2 few O (λ two h' kp=>hk two h' λ b o q=>kp b o (old b o q) (Heap.get?_push_of_some _ q)) λ p h' c hp up hl kp=>⟨_,rfl,?_⟩) (args_list_sort _)))
 exact wpAny_pure ⟨_,rfl,h p h' _ c hp up (Nat.le_refl _) hl λ b o q=>kp b o (old b o q) (Heap.get?_push_of_some _ q)⟩
end
end L2
namespace L2
open PySem PySem.Spec PyProof.Rows PySem.NumText PySem.W
section
variable {prog:Program} {w:World} {A:Around} {E:Value→Shared→Prop} {s:Shared}
theorem zqf (hu:A.units+70<cLine) {b fin:Bool} {Q:Bool→Shared→Prop}:∀ (ds es:List PyData) (us ws:List Value) (as bs:List Addr) (i:Nat) (c:Bool),ReadsAll s.heap us ds as→ReadsAll s.heap ws es bs →
  PyData.canLayAll0 ds=true→PyData.canLayAll0 es=true→PyData.depthAll ds≤64→(b=true→i=0→∀ d e r t,ds=d::r→es=e::t→∃ m n,d = .int m∧e = .int n) →
  fin=decide (us.length<ws.length)→ltDs ds es=some c→Q c s→KatLex prog w A b fin Q (us.zip ws) i s
 | [],[],_,_,_,_,i,c,.nil,.nil,_,_,_,_,hf,hc,hq=>by
  cases hc
  subst hf
  exact kat_nil hq
 | [],e::es,_,_,_,_,i,c,.nil,.cons r rr,_,_,_,_,hf,hc,hq=>by
  cases hc
  subst hf
  refine kat_nil ?_
  simpa using hq
 | d::ds,[],_,_,_,_,i,c,.cons r rr,.nil,_,_,_,_,hf,hc,hq=>by
  cases hc
  subst hf
  rw [List.zip_nil_right]
  refine kat_nil ?_
  simpa using hq
 | d::ds,e::es,_,_,_,_,i,c,.cons (v:=u) (vs:=us) r rr,.cons (v:=x) (vs:=ws) q qq,la,lb,hd,hi,hf,hc,hq=>by
  rw [PyData.canLayAll0,Bool.and_eq_true] at la lb
  rw [PyData.depthAll] at hd
  rw [ltDs] at hc
  have d1:PyData.depth d≤64:=by omega
  have d2:PyData.depthAll ds≤64:=by omega
  have hmin:min d.depth e.depth≤d.depth:=Nat.min_le_left _ _
  refine kat_cons (SeqAt.eqAt_reads d e A s _ _ _ _ r q la.1 lb.1 (by omega) prog w _ _ ?_)
  cases he:PyData.eqv d e with
  | true =>
   rw [he,if_pos rfl] at hc
   refine kat_yes (zqf hu ds es us ws _ _ (i+1) c rr qq la.2 lb.2 d2 (λ _ z=>by omega) ?_ hc hq)
   rw [hf]
   exact decide_eq_decide.mpr (by simp)
  | false =>
   rw [he,if_neg Bool.false_ne_true] at hc
   refine kat_no ?_
   cases hb:(b && i == 0) with
   | false=>exact kat_one _ _ ((zpn 64 d e c A s _ _ _ _ d1 r q la.1 lb.1 hc (by omega)).1 prog w _ _ (show W.BoolBack Q (.bool c) s from hq))
   | true =>
    rw [Bool.and_eq_true] at hb
    obtain ⟨m,n,rfl,rfl⟩:=hi hb.1 (by simpa using hb.2) d e ds es rfl rfl
    cases r
    cases q
    have hc:decide (m<n)=c:=by simpa [ltD] using hc
    subst hc
    exact oneLt_int hq
inductive FirstTy | int | tup
noncomputable def FirstTy.ty:FirstTy→Value
 | .int=>.type "int"
 | .tup=>.type "tuple"
noncomputable def FirstTy.of:FirstTy→PyData→Prop
 | .int,d=>∃ n,d = .int n
 | .tup,d=>∃ l,d = .tuple l
theorem zpj {h:Heap} {v:Value} {d:PyData} {as:List Addr} (r:Reads h v d as) {f:FirstTy} (hf:f.of d):Looks (model prog w) h (typeOf v) f.ty:=by
 cases f with
 | int =>
  obtain ⟨n,rfl⟩:=hf
  cases r
  exact λ A Q E s _ q=>wpAny_pure q
 | tup =>
  obtain ⟨l,rfl⟩:=hf
  cases r with
  | tuple h1 h2 h3 h4 =>
   have:=(show Looks (model prog w) h (typeOf (.ref _)) _ from (Looks.ld h1).andThen .now)
   rw [h2] at this
   exact this
theorem zks {prog:Program} {w:World} {h:Heap} {f:FirstTy}:∀ {vs:List Value} {ds:List PyData} {as:List Addr},ReadsAll h vs ds as→(∀ d∈ds,∃ x r,d = .tuple (x::r)∧f.of x)→∃ fs,KatTups h vs fs∧fs.length=vs.length∧∀ v∈fs,Looks (model prog w) h (typeOf v) f.ty
 | _,_,_,.nil,_=>⟨[],trivial,rfl,λ _ z=>nomatch z⟩
 | _,_,_,.cons r rr,hd=>by
  obtain ⟨fs,k,l,t⟩:=zks (prog:=prog) (w:=w) rr λ d hm=>hd d (List.mem_cons_of_mem _ hm)
  obtain ⟨x,rest,rfl,hx⟩:=hd _ List.mem_cons_self
  cases r with
  | @tuple a o vs n xs as h1 h2 h3 h4 =>
   have h4':=h4
   generalize hvs:vs.toList=vl at h4
   cases h4 with
   | @cons y ys _ _ _ _ ry rys =>
    refine ⟨y::fs,⟨⟨_,_,_,_,rfl,h1,h2,h3,?_⟩,k⟩,by simp [l],λ v hv=>?_⟩
    ·rw [← Array.getElem?_toList,hvs];rfl
    ·rcases List.mem_cons.mp hv with rfl | hv
     ·exact zpj ry hx
     ·exact t v hv
end
theorem zrd {h:Heap}:∀ {vs:List Value} {ds:List PyData} {as:List Addr},ReadsAll h vs ds as→∀ {i:Nat} {d:PyData},ds[i]? = some d→∃ v bs,vs[i]? = some v∧Reads h v d bs
 | _,_,_,.nil,i,d,e=>by simp at e
 | _,_,_,.cons r rr,0,d,e=>by
  have e:=Option.some.inj e
  subst e
  exact ⟨_,_,rfl,r⟩
 | _,_,_,.cons r rr,i+1,d,e=>by
  obtain ⟨v,bs,h1,h2⟩:=zrd rr (i:=i) (d:=d) (by simpa using e)
  exact ⟨v,bs,by simpa using h1,h2⟩
theorem zke {h:Heap}:∀ {vs:List Value} {ds:List PyData} {as:List Addr},ReadsAll h vs ds as→vs.length=ds.length
 | _,_,_,.nil=>rfl
 | _,_,_,.cons r rr=>by rw [List.length_cons,List.length_cons,zke rr]
structure Srt {α:Type} (as:List α) (enc:α→List PyData) (lt:α→α→Bool) (f:FirstTy):Prop where
 sto:STO lt
 few:as.length<64
 nd:as.Nodup
 lts:∀ a∈as,∀ b∈as,ltDs (enc a) (enc b)=some (lt a b)
 fst:∀ a∈as,∃ x r,enc a=x::r∧f.of x
 shp:∀ a∈as,SeqAt.shaped (.tuple (enc a))=true
section
variable {α:Type} {as:List α} {enc:α→List PyData} {lt:α→α→Bool} {f:FirstTy}
theorem Srt.ord (S:Srt as enc lt f) (d:α):Ord as.length (λ i j=>lt (as.getD i d) (as.getD j d)) where
 tr:=λ a b c _ _ _ h1 h2=>S.sto.tr _ _ _ h1 h2
 tri:=λ a b ha hb hn h=>S.sto.tri _ _ (λ e=>hn (by
  rw [List.getD_eq_getElem?_getD,List.getD_eq_getElem?_getD,List.getElem?_eq_getElem ha,List.getElem?_eq_getElem hb] at e
  have e:as[a]=as[b]:=e
  have pw:=List.pairwise_iff_getElem.mp S.nd
  rcases Nat.lt_trichotomy a b with z | z | z
  ·exact absurd e (pw a b ha hb z)
  ·exact z
  ·exact absurd e.symm (pw b a hb ha z))) h
 asy:=λ a b _ _ h=>S.sto.asym h
theorem Srt.go (S:Srt as enc lt f) (d:α) {prog:Program} {w:World} {A:Around} {s:Shared} {us:List Value} {bs:List Addr} {Q:Value→Shared→Prop} (hu:A.units+80<cLine) (r:ReadsAll s.heap us (as.map λ a=>.tuple (enc a)) bs)
  (q:∀ (p:Array Nat) (h':Heap) (l c:Nat),Pm as.length p→(p.toList.map λ i=>as.getD i d).Pairwise (λ a b=>lt a b=true)→(p.toList.map λ i=>as.getD i d).Perm as→s.heap.objs.size≤l→h'.get? l=some (seqObj "list" (zpl us p).toArray c)→(∀ b o,s.heap.get? b=some o→h'.get? b=some o)→Q (.ref l) { s with heap:=h' }) :
  zhu prog w A us s Q:=by
 have hl:us.length=as.length:=by rw [zke r,List.length_map]
 refine ⟨λ i j=>lt (as.getD i d) (as.getD j d),by rw [hl];exact S.few,by rw [hl];exact S.ord d,λ two h' kp=>?_,λ p h' l c hp up hlt hat kp=>?_⟩
 ·have r':=zgb kp r
  obtain ⟨fs,k,lf,tf⟩:=zks (prog:=prog) (w:=w) (f:=f) r' (λ x hx=>by
   obtain ⟨a,ha,rfl⟩:=List.mem_map.mp hx
   obtain ⟨y,t,e,hy⟩:=S.fst a ha
   exact ⟨y,t,by rw [e],hy⟩)
  refine ⟨tuples' (f.ty != .type "tuple"),λ R E' hR=>kat_kind (s:={ s with heap:=h' }) k (by omega) tf (by cases f <;> decide) hR,λ i j C hi hj hC=>?_⟩
  rw [hl] at hi hj
  have gi:as[i]? = some as[i]:=List.getElem?_eq_getElem hi
  have gj:as[j]? = some as[j]:=List.getElem?_eq_getElem hj
  have mi:=List.getElem_mem hi
  have mj:=List.getElem_mem hj
  have ei:as.getD i d=as[i]:=by rw [List.getD_eq_getElem?_getD,gi];rfl
  have ej:as.getD j d=as[j]:=by rw [List.getD_eq_getElem?_getD,gj];rfl
  dsimp only at hC
  rw [ei,ej] at hC
  obtain ⟨v,b1,hv,rv⟩:=zrd r' (i:=i) (d := .tuple (enc as[i])) (by rw [List.getElem?_map,gi];rfl)
  obtain ⟨x,b2,hx,rx⟩:=zrd r' (i:=j) (d := .tuple (enc as[j])) (by rw [List.getElem?_map,gj];rfl)
  have evi:us.getD i .none=v:=by rw [List.getD_eq_getElem?_getD,hv];rfl
  have evj:us.getD j .none=x:=by rw [List.getD_eq_getElem?_getD,hx];rfl
  unfold kas_ask
  rw [evi,evj]
  generalize as[i]=a at *
  generalize as[j]=b at *
  have sa:=S.shp a mi
  have sb:=S.shp b mj
  have la:PyData.canLayAll0 (enc a)=true:=SeqAt.canLay_of_shaped sa
  have lb:PyData.canLayAll0 (enc b)=true:=SeqAt.canLay_of_shaped sb
  have da:PyData.depth (.tuple (enc a))≤64:=SeqAt.depth_of_shaped sa
  have da:PyData.depthAll (enc a)+1≤64:=da
  have first:∀ d e r t,enc a=d::r→enc b=e::t→f = .int→∃ m n,d = .int m∧e = .int n:=λ d e r t e1 e2 hf=>by
   subst hf
   obtain ⟨y,t1,e3,m,hm⟩:=S.fst a mi
   obtain ⟨z,t2,e4,n,hn⟩:=S.fst b mj
   rw [e1] at e3
   rw [e2] at e4
   cases e3
   cases e4
   exact ⟨m,n,hm,hn⟩
  cases rv with
  | @tuple l1 o1 x1 n1 _ _ h1 h2 h3 h4 =>
   cases rx with
   | @tuple l2 o2 x2 n2 _ _ g1 g2 g3 g4 =>
    refine kat_lt h1 h3 g1 g3 (zqf (by show A.units+1+1+70<cLine;omega) _ _ _ _ _ _ 0 (lt a b) h4 g4 la lb (by omega) (λ hb _ d e r t e1 e2=>first d e r t e1 e2 ?_) (by simp) (S.lts a mi b mj) hC)
    cases f with
    | int=>rfl
    | tup=>exact absurd hb (by decide)
 ·rw [hl] at hp up
  refine q p h' l c hp ?_ ?_ hlt hat kp
  ·rw [List.pairwise_iff_getElem]
   intro i j hi hj hij
   simp only [List.length_map,Array.length_toList] at hi hj
   have hs:=hp.size
   have:=up i j hij (by omega)
   rw [List.getElem_map,List.getElem_map]
   rw [zoy (by omega),zoy (by omega)] at this
   simpa using this
  ·have h1:=hp.pm.map (λ i=>as.getD i d)
   refine h1.trans ?_
   have:(List.range as.length).map (λ i=>as.getD i d)=as:=by
    refine List.ext_getElem (by simp) λ i h1 h2=>?_
    simp [h2]
   rw [this]
end
end L2
namespace L2
open PySem PySem.Spec PyProof.Rows PySem.NumText PySem.W
section
variable {X:Cx}
theorem zbo {K:W.Frag} {H:Hp} {α:Type} {as:List α} {en:α→PyData} {vs:List V} (h:DVs K H (as.map en) vs) (d:α):∀ (is:List Nat),(∀ i∈is,i<as.length)→DVs K H ((is.map λ i=>as.getD i d).map en) (is.map λ i=>vs.getD i .non)
 | [],_=>rfl
 | i::is,hi=>by
  have h1:=hi i List.mem_cons_self
  obtain ⟨v,hv,hd⟩:=h.get (i:=i) (d:=en as[i]) (by rw [List.getElem?_map,List.getElem?_eq_getElem h1];rfl)
  have e1:as.getD i d=as[i]:=by rw [List.getD_eq_getElem?_getD,List.getElem?_eq_getElem h1];rfl
  have e2:vs.getD i .non=v:=by rw [List.getD_eq_getElem?_getD,hv];rfl
  refine ⟨v,_,?_,?_,zbo h d is λ j hj=>hi j (List.mem_cons_of_mem _ hj)⟩
  ·rw [List.map_cons,e2]
  ·show DV K H (en (as.getD i d)) v
   rw [e1]
   exact hd
theorem zpk {vs:List V} {us:List Value} (r:Vals vs us):∀ (is:List Nat),(∀ i∈is,i<vs.length)→Vals (is.map λ i=>vs.getD i .non) (is.map λ i=>us.getD i .none)
 | [],_=>.nil
 | i::is,hi=>by
  have h1:=hi i List.mem_cons_self
  obtain ⟨u,hu,ru⟩:=r.get (i:=i) (x:=vs[i]) (List.getElem?_eq_getElem h1)
  have e1:vs.getD i .non=vs[i]:=by rw [List.getD_eq_getElem?_getD,List.getElem?_eq_getElem h1];rfl
  have e2:us.getD i .none=u:=by rw [List.getD_eq_getElem?_getD,hu];rfl
  rw [List.map_cons,List.map_cons,e1,e2]
  exact .cons ru (zpk r is λ j hj=>hi j (List.mem_cons_of_mem _ hj))
noncomputable def zr0 (K:W.Frag) (H:Hp) {α:Type} (as:List α) (enc:α→List PyData) (lt:α→α→Bool) (Q:VK):Prop :=
 ∀ (l:Addr) (bs:List α) (ws:List V),H l=none→bs.Perm as→bs.Pairwise (λ a b=>lt a b=true)→DVs K H (bs.map λ a=>.tuple (enc a)) ws→Q (.ref l) (upd H l (.lst ws))
theorem zck {pins:List (Addr×Obj)} {s s1:Shared} {σ:St} {H:Hp} {Q:VK} {α:Type} {as:List α} {enc:α→List PyData} {lt:α→α→Bool} {f:FirstTy} {vs:List V} {us:List Value} (hu:X.A.units+100<cLine) (S:Srt as enc lt f)
  (I:Inv X pins σ H s1) (r:Vals vs us) (hd:DVs X.K H (as.map λ a=>.tuple (enc a)) vs) (q:zr0 X.K H as enc lt Q):zhu X.prog X.w X.A us s1 (EP X pins σ Q):=by
 obtain ⟨bs,ra⟩:=DVs.reads I _ _ _ hd r
 have hl:vs.length=as.length:=by rw [hd.length,List.length_map]
 have lay:∀ (p:Array Nat) (d:α) (h':Heap) (l c:Nat),Pm as.length p→(p.toList.map λ i=>as.getD i d).Pairwise (λ a b=>lt a b=true)→(p.toList.map λ i=>as.getD i d).Perm as→s1.heap.objs.size≤l →
   h'.get? l=some (seqObj "list" (zpl us p).toArray c)→(∀ b o,s1.heap.get? b=some o→h'.get? b=some o)→EP X pins σ Q (.ref l) { s1 with heap:=h' }:=λ p d h' l c hp pw pm hle hat kp=>by
  have hin:∀ i∈p.toList,i<as.length:=λ i hi=>by simpa using hp.pm.mem_iff.mp hi
  have hn:=I.hok.fresh hle
  refine ⟨.ref l,_,I.laid (t':=s1.toks) (o := .lst (p.toList.map λ i=>vs.getD i .non)) kp hle ⟨?_,_,c,zpk r p.toList (λ i hi=>by rw [hl];exact hin i hi),hat⟩,rfl,q l _ _ hn pm pw (zbo hd d p.toList hin)⟩
  rw [List.length_map,Array.length_toList,hp.size,sizeLine_eq]
  have:=S.few
  omega
 cases has:as with
 | nil =>
  have hus:us.length=0:=by rw [← r.length,hl,has];rfl
  refine ⟨λ _ _=>false,by omega,⟨λ a b c ha=>by omega,λ a b ha=>by omega,λ a b ha=>by omega⟩,λ two=>by omega,λ p h' l c hp up hle hat kp=>?_⟩
  have hp0:p.toList=[]:=by
   have:=hp.pm
   rw [hus] at this
   exact List.perm_nil.mp this
  have hn:=I.hok.fresh hle
  refine ⟨.ref l,_,I.laid (t':=s1.toks) (o := .lst []) kp hle ⟨Nat.zero_le _,_,c,.nil,?_⟩,rfl,q l [] [] hn (by rw [has]) .nil rfl⟩
  rw [hat,zpl,hp0]
  rfl
 | cons d rest =>
  exact S.go d (by omega) ra λ p h' l c hp pw pm hle hat kp=>lay p d h' l c hp pw pm hle hat kp
noncomputable def zi0 (K:W.Frag):List V→Hp→VK→Prop:=λ xs H Q=>∃ (α:Type) (as:List α) (enc:α→List PyData) (lt:α→α→Bool) (f:FirstTy) (p:Addr) (vs:List V),xs=[.ref p]∧SqL K H p vs∧DVs K H (as.map λ a=>.tuple (enc a)) vs∧Srt as enc lt f∧zr0 K H as enc lt Q
theorem zmj (hu:X.A.units+100<cLine):zvg X (.builtin "sorted") (zi0 X.K):=by
 intro pins s σ H xs us Q I r h
 obtain ⟨α,as,enc,lt,f,p,vs,rfl,hq,hd,S,q⟩:=h
 obtain ⟨u,rfl,rx⟩:=zzm r
 cases rx
 obtain ⟨its,rv,pl,hz⟩:=I.list hq
 refine zbc (collect_list pl.isList ?_ (by rw [← rv.length];exact hz))
 have kp:∀ b o,s.heap.get? b=some o→((s.heap.push (seqObj "list" #[] 0)).update s.heap.objs.size (Obj.mapSeq (· ++ its.toArray))).get? b=some o:=λ b o e=>by
  rw [Heap.get?_update_other _ _ (Nat.ne_of_gt (Heap.lt_size e))]
  exact Heap.get?_push_of_some _ e
 exact zck (s:=s) hu S (I.kept (t':=s.toks) kp) rv hd q
end
end L2
namespace L2
open PySem PySem.Spec PyProof.Rows PySem.NumText
noncomputable abbrev Mark:=Int×Int
noncomputable abbrev Ent:=Mark×Addr×V
noncomputable def mkK (m:Mark):List Key:=[.inl m.1,.inl m.2]
noncomputable def mkV (m:Mark):List V:=[.int m.1,.int m.2]
theorem zwh {a b:Mark} (h:mkK a=mkK b):a=b:=by
 unfold mkK at h
 have h1:=(List.cons.inj h).1
 have h2:=(List.cons.inj (List.cons.inj h).2).1
 exact Prod.ext (Sum.inl.inj h1) (Sum.inl.inj h2)
noncomputable def EntR (e:Ent) (x:List Key×Addr×Value):Prop:=x.1=mkK e.1∧x.2.1=e.2.1∧RelV e.2.2 x.2.2
noncomputable abbrev dK (P:Program) (w:World):=tupleKind (zqh P w)
noncomputable def dOk (P:Program) (w:World) (a:Addr) (es:List Ent) (o:Obj) (h:Heap):Prop:=es.length≤sizeLine∧(a == sysModules)=false∧h.get? a=some o∧∃ xs,Paired EntR es xs ∧
 ∃ ds ep,o.ExactDict∧o.data = .dict ds ep∧ds.toList=xs.map (entryOfKey (dK P w))∧(xs.map (·.1)).Nodup
noncomputable def dO (P:Program) (w:World) (a:Addr) (es:List Ent) (o:Obj):HO := .ext (dOk P w a es o)
structure DM (P:Program) (w:World) (K:W.Frag) (H:Hp) (a:Addr) (es:List Ent):Prop where
 ob:∃ o,H a=some (dO P w a es o)
 ky:∀ e∈es,SqT K H e.2.1 (mkV e.1)
theorem zqn {P:Program} {w:World} {h:Heap}:∀ {es:List Ent} {xs:List (List Key×Addr×Value)},Paired EntR es xs→(∀ e∈es,(dK P w).is h (mkK e.1) e.2.1)→∀ x∈xs,(dK P w).is h x.1 x.2.1
 | _,_,.nil,_,x,hx=>nomatch hx
 | _,_,.cons r rr,hk,x,hx=>by
  rcases List.mem_cons.mp hx with rfl | hx
  ·rw [r.1,r.2.1];exact hk _ List.mem_cons_self
  ·exact zqn rr (λ e he=>hk e (List.mem_cons_of_mem _ he)) x hx
noncomputable def zab:List Ent→Mark→Option V
 | [],_=>none
 | e::es,m=>if e.1=m then some e.2.2 else zab es m
theorem zwc:∀ {es:List Ent} {xs:List (List Key×Addr×Value)},Paired EntR es xs→∀ m,RelO (zab es m) ((atKey xs (mkK m)).map (·.2))
 | _,_,.nil,m=>trivial
 | e::es,x::xs,.cons r rr,m=>by
  unfold zab atKey
  rw [List.find?_cons]
  by_cases h:e.1=m
  ·rw [if_pos h,show decide (x.1=mkK m)=true from decide_eq_true (by rw [r.1,h])]
   exact r.2.2
  ·rw [if_neg h,show decide (x.1=mkK m)=false from decide_eq_false (by rw [r.1];exact λ z=>h (zwh z))]
   exact zwc rr m
theorem zbr {v:V} {o:Option Value} (h:RelO (some v) o):∃ u,o=some u∧RelV v u:=by
 cases o with
 | none=>exact h.elim
 | some u=>exact ⟨u,rfl,h⟩
theorem zgm {a:Option V} {b:Option Value} (h:RelO a b):a.isSome=b.isSome:=by
 cases a <;> cases b <;> first | rfl | exact h.elim
theorem zdk {a:Option V} {b:Option Value} {d:V} {e:Value} (h:RelO a b) (hd:RelV d e):RelV (a.getD d) (b.getD e):=by
 cases a <;> cases b <;> first | exact hd | exact h | exact h.elim
noncomputable def putM (es:List Ent) (m:Mark) (q:Addr) (v:V):List Ent:=if (zab es m).isSome then es.map (λ e=>if e.1=m then (e.1,e.2.1,v) else e) else es++[(m,q,v)]
theorem zro {es:List Ent} {xs:List (List Key×Addr×Value)} (r:Paired EntR es xs) (m:Mark) {q:Addr} {v:V} {u:Value} (rv:RelV v u):Paired EntR (putM es m q v) (storedH xs (mkK m) q u):=by
 have hi:(zab es m).isSome=(atKey xs (mkK m)).isSome:=by rw [zgm (zwc r m),Option.isSome_map]
 unfold putM storedH
 rw [hi]
 by_cases h:(atKey xs (mkK m)).isSome=true
 ·rw [if_pos h,if_pos h]
  clear hi h
  induction r with
  | nil=>exact .nil
  | @cons e x es xs a b ih =>
   rw [List.map_cons,List.map_cons]
   refine .cons ?_ ih
   unfold putAt
   by_cases he:e.1=m
   ·rw [if_pos he,if_pos (by rw [a.1,he])]
    exact ⟨a.1,a.2.1,rv⟩
   ·rw [if_neg he,if_neg (by rw [a.1];exact λ z=>he (zwh z))]
    exact a
 ·rw [if_neg h,if_neg h]
  exact Paired.snoc r ⟨rfl,rfl,rv⟩
theorem zqd (es:List Ent) (m:Mark) (q:Addr) (v:V):(putM es m q v).length≤es.length+1:=by
 unfold putM
 split
 ·rw [List.length_map];omega
 ·rw [List.length_append];exact Nat.le_refl _
theorem zuw {K:W.Frag} {H:Hp} {es:List Ent} {m:Mark} {q:Addr} {v:V} (h:∀ e∈es,SqT K H e.2.1 (mkV e.1)) (hq:SqT K H q (mkV m)):∀ e∈putM es m q v,SqT K H e.2.1 (mkV e.1):=by
 intro e he
 unfold putM at he
 split at he
 ·obtain ⟨e0,h0,rfl⟩:=List.mem_map.mp he
  by_cases z:e0.1=m
  ·rw [if_pos z];exact h e0 h0
  ·rw [if_neg z];exact h e0 h0
 ·rcases List.mem_append.mp he with z | z
  ·exact h e z
  ·rw [List.mem_singleton.mp z];exact hq
section
variable {X:Cx} {pins:List (Addr×Obj)} {σ:St} {H:Hp} {s:Shared} {a:Addr} {es:List Ent}
theorem zxt {P:Program} {w:World} {m:Mark} {us:List Value} (r:Vals (mkV m) us):ItemsAre (zqh P w) (mkK m) us:=by
 unfold mkV at r
 cases r with
 | cons r1 r2 =>
  cases r2 with
  | cons r3 r4 =>
   cases r4
   obtain ⟨t,rfl⟩:=r1
   obtain ⟨u,rfl⟩:=r3
   exact .cons (znf P w m.1 t) (.cons (znf P w m.2 u) .nil)
theorem Inv.mark (I:Inv X pins σ H s) {q:Addr} {m:Mark} (h:SqT X.K H q (mkV m)):(dK X.prog X.w).is s.heap (mkK m) q:=by
 obtain ⟨its,r,⟨o,h1,h2,n,h3⟩,hz⟩:=I.tuple h
 exact ⟨o,its.toArray,n,h1,h2,h3,by simpa using zxt r⟩
theorem Inv.dict (I:Inv X pins σ H s) (D:DM X.prog X.w X.K H a es):es.length≤sizeLine∧(a == sysModules)=false∧∃ xs,Paired EntR es xs∧s.heap.DictOfH (dK X.prog X.w) a xs:=by
 obtain ⟨o,ob⟩:=D.ob
 obtain ⟨⟨z,y,h1,xs,r,ds,ep,h2,h3,h4,h5⟩,_,_⟩:=(show ObjOk X.prog X.w H s.heap a (dO X.prog X.w a es o) from I.hok a _ ob)
 exact ⟨z,y,xs,r,o,ds,ep,h1,h2,h3,h4,zqn r λ e he=>I.mark (D.ky e he),h5⟩
theorem zcu {P:Program} {w:World} {H:Hp} {h:Heap} {a:Addr} {es:List Ent} {xs:List (List Key×Addr×Value)} (z:es.length≤sizeLine) (y:(a == sysModules)=false) (r:Paired EntR es xs) (d:h.DictOfH (dK P w) a xs):∃ o,ObjOk P w (upd H a (dO P w a es o)) h a (dO P w a es o):=by
 obtain ⟨o,ds,ep,h1,h2,h3,h4,_,h5⟩:=d
 exact ⟨o,⟨z,y,h1,xs,r,ds,ep,h2,h3,h4,h5⟩,⟨o,h1⟩,λ h1' h2' ⟨z,y,g1,g2⟩ k=>⟨z,y,k o g1,g2⟩⟩
theorem Inv.bigM (I:Inv X pins σ H s):sysModules<s.heap.objs.size:=Nat.lt_trans (by decide) (I.mod.glob.keeps I.bk).lt
variable {o i e value:Expr} {pos pos':Pos} {td ty tv:TE}
noncomputable def zxv (P:Program) (w:World):TE:=λ _ H Q=>∀ p o,H p=none→Q (.ref p) (upd H p (dO P w p [] o))
theorem zrh:PE X (.Dict [] [] pos) (zxv X.prog X.w) := .mk <| λ pins s σ H Q I h=>by
 obtain ⟨ob,hob⟩:=zcu (P:=X.prog) (w:=X.w) (H:=H) (es:=[]) (Nat.zero_le _) (beq_eq_false_iff_ne.mpr (Ne.symm (Nat.ne_of_lt I.bigM))) .nil (Heap.DictOfH.new s.heap)
 exact wpAny_Dict_empty ⟨.ref s.heap.objs.size,_,I.laid (t':=s.toks) (λ _ _ q=>Heap.get?_push_of_some _ q) (Nat.le_refl _) hob,rfl,h _ ob (I.hok.fresh (Nat.le_refl _))⟩
noncomputable def rInM (P:Program) (w:World) (K:W.Frag):R2:=λ x y H Q=>∃ q m a es,x = .ref q∧SqT K H q (mkV m)∧y = .ref a∧DM P w K H a es∧Q (.bl (zab es m).isSome) H
noncomputable def zfs (P:Program) (w:World) (K:W.Frag):R2:=λ x y H Q=>∃ q m a es,x = .ref q∧SqT K H q (mkV m)∧y = .ref a∧DM P w K H a es∧Q (.bl (!(zab es m).isSome)) H
theorem zg2 (hu:X.A.units+1<cLine):OpR X (compareOp .In) (rInM X.prog X.w X.K):=by
 intro pins s σ H x y v u Q I rx ry h
 obtain ⟨q,m,a,es,rfl,hm,rfl,D,k⟩:=h
 cases rx
 cases ry
 obtain ⟨_,hd,xs,r,dd⟩:=I.dict D
 refine wpAny_in_heap (tupleKind_room_in1 hu) (I.mark hm) hd dd ?_
 rw [← Option.isSome_map (f:=(·.2)),← zgm (zwc r m)]
 exact ⟨.bl _,H,I.tok _,rfl,k⟩
theorem zwj (hu:X.A.units+1<cLine):OpR X (compareOp .NotIn) (zfs X.prog X.w X.K):=by
 intro pins s σ H x y v u Q I rx ry h
 obtain ⟨q,m,a,es,rfl,hm,rfl,D,k⟩:=h
 cases rx
 cases ry
 obtain ⟨_,hd,xs,r,dd⟩:=I.dict D
 refine wpAny_notIn_heap (tupleKind_room_in1 hu) (I.mark hm) hd dd ?_
 rw [← Option.isSome_map (f:=(·.2)),← zgm (zwc r m)]
 exact ⟨.bl _,H,I.tok _,rfl,k⟩
noncomputable def rIxM (P:Program) (w:World) (K:W.Frag):R2:=λ x y H Q=>∃ a es q m v,x = .ref a∧DM P w K H a es∧y = .ref q∧SqT K H q (mkV m)∧zab es m=some v∧Q v H
theorem ix_M (hu:X.A.units+1<cLine):IxR X (rIxM X.prog X.w X.K):=by
 intro value slice pins s σ H x y v u Q I rx ry h hs
 obtain ⟨a,es,q,m,z,rfl,D,rfl,hm,hf,k⟩:=h
 cases rx
 cases ry
 obtain ⟨_,hd,xs,r,dd⟩:=I.dict D
 have fr:=zwc r m
 rw [hf] at fr
 obtain ⟨uz,e1,r1⟩:=zbr fr
 obtain ⟨p,hp,hp2⟩:=Option.map_eq_some_iff.mp e1
 have hT:s.TypeIs (.ref a) "dict" := dd.typeIs
 have fin:wpAny (model X.prog X.w) X.A (subscripted slice false (.ref a) (.ref q)) (λ r s3=>wpAny (model X.prog X.w) X.A (letTemporaryGo value (.ref a) r >>= λ _=>pure r) (EP X pins σ Q) X.xe s3) X.xe s:=by
  rw [hs]
  refine wpAny_operating (wpAny_getItem_heap (tupleKind_room_in1 hu) (I.mark hm) dd hp ?_)
  rw [hp2]
  exact wpAny_bind (wpAny_letTemporaryGo (wpAny_pure ⟨z,H,I.tok _,r1,k⟩))
 unfold subscriptTail
 refine wpAny_bind ?_
 rw [getitemInPython_of_ne hT.not_modules]
 refine wpAny_bind (wpAny_specialOf hT PySem.F.slot_dict_getitem.lookup ?_)
 first
  | exact wpAny_pure (wpAny_bind fin)
  | exact wpAny_bind (wpAny_pure (wpAny_bind fin))
  | exact wpAny_bind fin
noncomputable def zgp (P:Program) (w:World) (K:W.Frag) (td ty tv:TE):TS:=λ D σ H=>tv σ H λ v H1=>td σ H1 λ x H2=>ty σ H2 λ y H3=>∃ a es q m,x = .ref a∧DM P w K H3 a es∧y = .ref q∧SqT K H3 q (mkV m)∧es.length<sizeLine∧∀ o,D.nx σ (upd H3 a (dO P w a (putM es m q v) o))
theorem zyd (hu:X.A.units+1<cLine) (ho:PE X o td) (hi:PE X i ty) (hv:PE X value tv) (hs:swapsWith value (some (.Subscript o i pos')) pos.line X.env=pure false) :
  PS X (.Assign [.Subscript o i pos'] value pos) (zgp X.prog X.w X.K td ty tv) := .mk <| by
 intro pins s σ H D I h
 refine wpAny_Assign_Subscript (thn (hv pins s σ H _ I h) λ r s1 ⟨v,H1,I1,rv,q1⟩=>thn (ho pins s1 σ H1 _ I1 q1) λ u s2 ⟨x,H2,I2,rx,q2⟩=>thn (hi pins s2 σ H2 _ I2 q2) λ iv s3 ⟨y,H3,I3,ry,a,es,q,m,ex,DD,ey,hm,hl,k⟩=>?_) hs
 subst ex ey
 cases rx
 cases ry
 obtain ⟨z,hd,xs,rr,dd⟩:=I3.dict DD
 refine wpAny_setItem_heap (hsz:=by rw [← Paired.length rr];exact z) (tupleKind_room_in1 hu) (I3.mark hm) dd λ h' dd' sb=>?_
 have he:∃ ob,h'.get? a=some ob:=let ⟨ob,_,_,hq,_⟩:=dd'; ⟨ob,hq⟩
 obtain ⟨o1,o2⟩:=DD.ob
 obtain ⟨ob,hob⟩:=zcu (P:=X.prog) (w:=X.w) (H:=H3) (es:=putM es m q v) (by have:=zqd es m q v;omega) hd (zro rr m rv) dd'
 exact ⟨σ,_,I3.write (t':=_) (x:=a) (e:=a) (by rw [o2];exact True.intro) (.inl rfl) (λ b ob hb z=>(sb.2 b hb).trans z) he hob,k ob⟩
noncomputable def zg4 (P:Program) (w:World) (K:W.Frag) (td ty:TE):TE:=λ σ H Q=>td σ H λ x H1=>∃ a es,x = .ref a∧DM P w K H1 a es∧ty σ H1 λ y H2=>∃ q m,y = .ref q∧DM P w K H2 a es∧SqT K H2 q (mkV m)∧Q ((zab es m).getD .non) H2
theorem ziy {apos cpos:Pos} (hu:X.A.units+1<cLine) (ho:PE X o td) (he:PE X e ty) (hbase:attributeBase o "get" X.env (eval o X.env)=eval o X.env:=by rfl)
  (hfew:((backTo cpos (starEach [e] X.env)).all (λ x => !x.1) && (backToKw cpos (keywordEach [] X.env)).all (λ x=>x.1.isSome)
   && decide (([e]:List Expr).length+([]:List Keyword).length+(if ([]:List Keyword).isEmpty then 0 else 1)<30))=true:=by rfl)
  (hline:(apos.endLine == cpos.line)=true:=by rfl) (htr:backTo cpos (starEach [e] X.env)=[(false,eval e X.env)]:=by rfl):PE X (.Call (.Attribute o "get" apos) [e] [] cpos) (zg4 X.prog X.w X.K td ty) := .mk <| by
 intro pins s σ H Q I h
 refine wpAny_Call_method hbase hfew hline PySem.F.plainAttrs_dict PySem.F.slot_dict_get PySem.F.type_dict_get (thn (ho pins s σ H _ I h) λ u s1 ⟨x,H1,I1,rx,a,es,ex,D,q1⟩=>?_)
 subst ex
 cases rx
 obtain ⟨_,_,xs,_,dd⟩:=I1.dict D
 refine ⟨dd.typeIs,λ b q=>?_,?_⟩
 ·cases q
  obtain ⟨ob,_,_,h1,h2,_⟩:=dd
  exact ⟨ob,h1,h2.2.1⟩
 rw [htr]
 refine Calls.callWith_builtin rfl (Calls.evalArgs_plain (Calls.spliced_cons (thn (he pins s1 σ H1 _ I1 q1) λ iv s2 ⟨y,H2,I2,ry,q,m,ey,D2,hm,k⟩=>Calls.spliced_nil ?_)))
 subst ey
 cases ry
 obtain ⟨_,hd,xs,r,dd⟩:=I2.dict D2
 exact call_meetsIn PySem.F.slot_dict_get dd.typeIs PySem.F.entry_dict_get (PySem.F.args_dict_get_2 _ _) (meetsH_dict_get (dK X.prog X.w) a q hd) ⟨tupleKind_room_in1 hu,mkK m,xs,I2.mark hm,dd,⟨_,H2,I2.tok _,zdk (d := .non) (zwc r m) (show RelV .non Value.none from rfl),k⟩⟩
end
end L2
namespace L2
open PySem PySem.Spec PyProof.Rows PySem.NumText
noncomputable def RawD (h:Heap) (d:Addr) (ds:Array DictEntry) (ep:Nat):Prop:=∃ o,h.get? d=some o∧o.cls = .type "dict" ∧ o.data = .dict ds ep
noncomputable def zcg (d:Addr) (i n ep:Nat) (first:Value) (f:Bool) (ok ov:Value):Obj:={ cls := .type "dict_itemiterator",data := .fields #[first,.bool f,.ref d,.int i 0,.int n 0,.int ep 0,ok,ov] }
section
variable {prog:Program} {w:World} {A:Around} {E:Value→Shared→Prop} {s:Shared} {d it v:Addr} {ds:Array DictEntry} {ep i:Nat} {ok ov:Value}
theorem zxe:Builtin.Dict_items.ownsTuple "dict_itemiterator" = true:=by decide
theorem zkh {Q:Value→Shared→Prop} (hv:s.heap.IsItemsView v d) (hd:RawD s.heap d ds ep)
  (k:Q (.ref s.heap.objs.size) { s with heap:=s.heap.push (zcg d 0 ds.size ep .none false .none .none) }) :
  wpAny (model prog w) A (pyIter (.ref v)) Q E s:=by
 obtain ⟨vo,v1,v2,v3⟩:=id hv
 obtain ⟨o,d1,d2,d3⟩:=hd
 refine wpAny_pyIter_slot hv.typeIs F.slot_dict_items_iter (wpAny_call_entry F.slot_dict_items_iter hv.typeIs F.entry_dict_items_iter ?_ (F.args_dict_items_iter_1 _))
 unfold Builtin.«dict_items.__iter__» Builtin.Dict_items.dictOf Builtin.Dict_items.newIterator
 refine wpAny_bind (wpAny_pure (wpAny_bind (wpAny_bind (wpAny_field v1 v3 (x := .ref d) rfl (wpAny_pure (wpAny_bind (wpAny_bind (wpAny_dictEntries d1 d3 (wpAny_bind (wpAny_dictEpoch d1 d3 ?_))))))))))
 simp only [zxe,if_true]
 refine wpAny_newObj_type (wpAny_pure ⟨_,rfl, "dict_itemiterator",_,⟨_,Heap.get?_push_size _ rfl,rfl⟩,F.slot_dict_itemiterator_next.lookup,?_⟩) ?_
 ·simpa [rawInt,Builtin.Dict_items.ownedTupleFields,zcg] using k
 ·simp only [sizeOk,Builtin.Dict_items.ownedTupleFields,List.size_toArray,List.length_append,List.length_cons,List.length_nil,sizeLine_eq]
  omega
theorem zjp {Q:Option Value→Shared→Prop} {e:DictEntry} (hi:s.heap.get? it=some (zcg d i ds.size ep .none false ok ov)) (hd:RawD s.heap d ds ep) (he:ds[i]? = some e)
  (k:∀ h',h'.get? it=some (zcg d (i+1) ds.size ep (rawInt s.heap.objs.size) false e.key e.val)→h'.get? s.heap.objs.size=some { cls := .type "tuple",data := .seq #[e.key,e.val] }→h'.objs.size=s.heap.objs.size+1 →
   (∀ b o,b≠it→s.heap.get? b=some o→h'.get? b=some o)→Q (some (.ref s.heap.objs.size)) { s with heap:=h' }):wpAny (model prog w) A (pyNext (.ref it)) Q E s:=by
 obtain ⟨o,d1,d2,d3⟩:=hd
 have ty:s.TypeIs (.ref it) "dict_itemiterator" := ⟨_,hi,rfl⟩
 unfold pyNext
 refine wpAny_bind (wpAny_attempt (wpAny_callSpecial?_slot ty F.slot_dict_itemiterator_next (wpAny_call_entry F.slot_dict_itemiterator_next ty F.entry_dict_itemiterator_next ?_ (F.args_dict_itemiterator_next_1 _))))
 unfold Builtin.«dict_itemiterator.__next__»
 refine wpAny_bind (wpAny_pure (wpAny_bind (wpAny_bind (wpAny_bind (wpAny_typeNameOfWhole_itemiter ty (wpAny_pure (wpAny_bind (wpAny_fieldsOf hi rfl ?_))))))))
 simp only [zxe,if_true]
 have e1:(Value.ref d == Value.none)=false:=rfl
 dsimp only [List.drop,List.take]
 rw [if_neg (by rw [e1];exact Bool.false_ne_true)]
 refine wpAny_bind (wpAny_pure (wpAny_bind (wpAny_dictEntries d1 d3 ?_)))
 rw [if_neg (by simp)]
 refine wpAny_bind (wpAny_pure (wpAny_bind (wpAny_dictEpoch d1 d3 ?_)))
 rw [if_neg (by simp)]
 refine wpAny_pure ?_
 dsimp only
 rw [if_neg (by omega),Int.toNat_natCast,he]
 dsimp only
 refine wpAny_bind (wpAny_bind (wpAny_typeNameOfWhole_itemiter ty (wpAny_pure ?_)))
 refine wpAny_bind (wpAny_isOneOf_itemiter ty ?_)
 simp only [zxe,if_true]
 rw [if_neg (by decide)]
 refine wpAny_bind (wpAny_setField_rec (k:=3) hi (by show 3<8;decide) λ h1 g1 sb1=>?_)
 have g1:h1.get? it=some (zcg d (i+1) ds.size ep .none false ok ov):=g1
 have ty1:({ s with heap:=h1 }:Shared).TypeIs (.ref it) "dict_itemiterator" := ⟨_,g1,rfl⟩
 refine wpAny_bind (wpAny_holding (wpAny_bind (wpAny_isOneOf_itemiter ty1 ?_)))
 rw [if_neg (by decide)]
 refine wpAny_bind (wpAny_isOneOf_itemiter ty1 ?_)
 rw [if_neg (by decide)]
 unfold Builtin.Dict_items.pairFromOwner
 refine wpAny_bind (wpAny_newTuple ?_)
 have hz:h1.objs.size=s.heap.objs.size:=sb1.1
 obtain ⟨h2,hh2⟩:∃ h2,h2=h1.push { cls := .type "tuple",data := .seq [e.key,e.val].toArray }:=⟨_,rfl⟩
 dsimp only
 rw [← hh2]
 have g2:h2.get? it=some (zcg d (i+1) ds.size ep .none false ok ov):=by rw [hh2];exact Heap.get?_push_of_some _ g1
 have t2:h2.get? h1.objs.size=some { cls := .type "tuple",data := .seq [e.key,e.val].toArray }:=by rw [hh2];exact Heap.get?_push_size _ rfl
 have z2:h2.objs.size=s.heap.objs.size+1:=by rw [hh2,Heap.size_push,hz]
 have nit:h1.objs.size≠it:=Nat.ne_of_gt (Heap.lt_size g1)
 unfold Builtin.Dict_items.ownedTupleIsFree
 refine wpAny_bind (wpAny_bind (wpAny_field g2 rfl (x := .none) rfl (wpAny_pure ?_)))
 rw [if_pos rfl]
 refine wpAny_bind (wpAny_field g2 rfl (x:=ok) rfl (wpAny_bind (wpAny_field g2 rfl (x:=ov) rfl ?_)))
 refine wpAny_bind (wpAny_setField_rec (k:=6) g2 (by show 6<8;decide) λ h3 g3 sb3=>?_)
 refine wpAny_bind (wpAny_setField_rec (k:=7) g3 (by show 7<8;decide) λ h4 g4 sb4=>?_)
 refine wpAny_bind (wpAny_setField_rec (k:=0) g4 (by show 0<8;decide) λ h5 g5 sb5=>?_)
 refine wpAny_bind (wpAny_setField_rec (k:=1) g5 (by show 1<8;decide) λ h6 g6 sb6=>?_)
 refine wpAny_bind (wpAny_letGo (wpAny_pure (wpAny_pure ⟨_,rfl,wpAny_pure ?_⟩)))
 have kp:∀ b o,b≠it→h2.get? b=some o→h6.get? b=some o:=λ b o hb q=>(sb6.2 b hb).trans ((sb5.2 b hb).trans ((sb4.2 b hb).trans ((sb3.2 b hb).trans q)))
 rw [hz]
 refine k h6 ?_ ?_ ?_ λ b o hb q=>kp b o hb ?_
 ·rw [← hz];exact g6
 ·rw [← hz];exact kp _ _ nit t2
 ·rw [sb6.1,sb5.1,sb4.1,sb3.1];exact z2
 ·rw [hh2];exact Heap.get?_push_of_some _ ((sb1.2 b hb).trans q)
theorem zsp {Q:Option Value→Shared→Prop} {e:DictEntry} {a:Addr} {f:Bool} {oa:Obj} (hi:s.heap.get? it=some (zcg d i ds.size ep (rawInt a) f ok ov)) (ha:s.heap.get? a=some oa) (hn:a≠it) (hd:RawD s.heap d ds ep) (he:ds[i]? = some e)
  (k:∀ h',h'.get? it=some (zcg d (i+1) ds.size ep (rawInt a) true ok ov)→h'.get? s.heap.objs.size=some { cls := .type "tuple",data := .seq #[e.key,e.val] }→h'.objs.size=s.heap.objs.size+1 →
   (∀ b o,b≠it→s.heap.get? b=some o→h'.get? b=some o)→Q (some (.ref s.heap.objs.size)) { s with heap:=h' }):wpAny (model prog w) A (pyNext (.ref it)) Q E s:=by
 obtain ⟨o,d1,d2,d3⟩:=hd
 have ty:s.TypeIs (.ref it) "dict_itemiterator" := ⟨_,hi,rfl⟩
 unfold pyNext
 refine wpAny_bind (wpAny_attempt (wpAny_callSpecial?_slot ty F.slot_dict_itemiterator_next (wpAny_call_entry F.slot_dict_itemiterator_next ty F.entry_dict_itemiterator_next ?_ (F.args_dict_itemiterator_next_1 _))))
 unfold Builtin.«dict_itemiterator.__next__»
 refine wpAny_bind (wpAny_pure (wpAny_bind (wpAny_bind (wpAny_bind (wpAny_typeNameOfWhole_itemiter ty (wpAny_pure (wpAny_bind (wpAny_fieldsOf hi rfl ?_))))))))
 simp only [zxe,if_true]
 have e1:(Value.ref d == Value.none)=false:=rfl
 dsimp only [List.drop,List.take]
 rw [if_neg (by rw [e1];exact Bool.false_ne_true)]
 refine wpAny_bind (wpAny_pure (wpAny_bind (wpAny_dictEntries d1 d3 ?_)))
 rw [if_neg (by simp)]
 refine wpAny_bind (wpAny_pure (wpAny_bind (wpAny_dictEpoch d1 d3 ?_)))
 rw [if_neg (by simp)]
 refine wpAny_pure ?_
 dsimp only
 rw [if_neg (by omega),Int.toNat_natCast,he]
 dsimp only
 refine wpAny_bind (wpAny_bind (wpAny_typeNameOfWhole_itemiter ty (wpAny_pure ?_)))
 refine wpAny_bind (wpAny_isOneOf_itemiter ty ?_)
 simp only [zxe,if_true]
 rw [if_neg (by decide)]
 refine wpAny_bind (wpAny_setField_rec (k:=3) hi (by show 3<8;decide) λ h1 g1 sb1=>?_)
 have g1:h1.get? it=some (zcg d (i+1) ds.size ep (rawInt a) f ok ov):=g1
 have ty1:({ s with heap:=h1 }:Shared).TypeIs (.ref it) "dict_itemiterator" := ⟨_,g1,rfl⟩
 refine wpAny_bind (wpAny_holding (wpAny_bind (wpAny_isOneOf_itemiter ty1 ?_)))
 rw [if_neg (by decide)]
 refine wpAny_bind (wpAny_isOneOf_itemiter ty1 ?_)
 rw [if_neg (by decide)]
 unfold Builtin.Dict_items.pairFromOwner
 refine wpAny_bind (wpAny_newTuple ?_)
 have hz:h1.objs.size=s.heap.objs.size:=sb1.1
 obtain ⟨h2,hh2⟩:∃ h2,h2=h1.push { cls := .type "tuple",data := .seq [e.key,e.val].toArray }:=⟨_,rfl⟩
 dsimp only
 rw [← hh2]
 have g2:h2.get? it=some (zcg d (i+1) ds.size ep (rawInt a) f ok ov):=by rw [hh2];exact Heap.get?_push_of_some _ g1
 have t2:h2.get? h1.objs.size=some { cls := .type "tuple",data := .seq [e.key,e.val].toArray }:=by rw [hh2];exact Heap.get?_push_size _ rfl
 have a2:h2.get? a=some oa:=by rw [hh2];exact Heap.get?_push_of_some _ ((sb1.2 a hn).trans ha)
 have z2:h2.objs.size=s.heap.objs.size+1:=by rw [hh2,Heap.size_push,hz]
 have nit:h1.objs.size≠it:=Nat.ne_of_gt (Heap.lt_size g1)
 have old:∀ b o,b≠it→s.heap.get? b=some o→h2.get? b=some o:=λ b o hb q=>by rw [hh2];exact Heap.get?_push_of_some _ ((sb1.2 b hb).trans q)
 unfold Builtin.Dict_items.ownedTupleIsFree
 refine wpAny_bind (wpAny_bind (wpAny_field g2 rfl (x:=rawInt a) rfl ?_))
 show wpAny _ _ (do let x ← loadIfAlive (a:Int).toNat;_) _ _ _
 refine wpAny_bind (W.kdx_alive a2 ?_)
 rw [if_neg (by simp)]
 refine wpAny_bind (wpAny_field g2 rfl (x := .bool f) rfl ?_)
 cases f with
 | true =>
  rw [if_neg (by decide)]
  refine wpAny_pure ?_
  rw [if_neg (by decide)]
  refine wpAny_pure (wpAny_pure ⟨_,rfl,wpAny_pure ?_⟩)
  rw [hz]
  refine k h2 g2 ?_ z2 old
  rw [← hz];exact t2
 | false =>
  rw [if_pos (by decide)]
  refine wpAny_bind (wpAny_setField_rec (k:=1) g2 (by show 1<8;decide) λ h3 g3 sb3=>?_)
  refine wpAny_pure ?_
  rw [if_neg (by decide)]
  refine wpAny_pure (wpAny_pure ⟨_,rfl,wpAny_pure ?_⟩)
  rw [hz]
  refine k h3 g3 ?_ (by rw [sb3.1];exact z2) λ b o hb q=>(sb3.2 b hb).trans (old b o hb q)
  rw [← hz];exact (sb3.2 _ nit).trans t2
theorem zwp {Q:Option Value→Shared→Prop} {first:Value} {f:Bool} (hh:A.handled=none) (hi:s.heap.get? it=some (zcg d i ds.size ep first f ok ov)) (hd:RawD s.heap d ds ep) (he:ds[i]? = none)
  (k:∀ h',(∀ b o,b≠it→s.heap.get? b=some o→h'.get? b=some o)→Q none { s with heap:=h' }):wpAny (model prog w) A (pyNext (.ref it)) Q E s:=by
 obtain ⟨o,d1,d2,d3⟩:=hd
 have ty:s.TypeIs (.ref it) "dict_itemiterator" := ⟨_,hi,rfl⟩
 unfold pyNext
 refine wpAny_bind (wpAny_attempt (wpAny_callSpecial?_slot ty F.slot_dict_itemiterator_next (wpAny_call_entry F.slot_dict_itemiterator_next ty F.entry_dict_itemiterator_next ?_ (F.args_dict_itemiterator_next_1 _))))
 unfold Builtin.«dict_itemiterator.__next__»
 refine wpAny_bind (wpAny_pure (wpAny_bind (wpAny_bind (wpAny_bind (wpAny_typeNameOfWhole_itemiter ty (wpAny_pure (wpAny_bind (wpAny_fieldsOf hi rfl ?_))))))))
 simp only [zxe,if_true]
 have e1:(Value.ref d == Value.none)=false:=rfl
 dsimp only [List.drop,List.take]
 rw [if_neg (by rw [e1];exact Bool.false_ne_true)]
 refine wpAny_bind (wpAny_pure (wpAny_bind (wpAny_dictEntries d1 d3 ?_)))
 rw [if_neg (by simp)]
 refine wpAny_bind (wpAny_pure (wpAny_bind (wpAny_dictEpoch d1 d3 ?_)))
 rw [if_neg (by simp)]
 refine wpAny_pure ?_
 dsimp only
 rw [if_neg (by omega),Int.toNat_natCast,he]
 dsimp only
 refine wpAny_bind (wpAny_bind (wpAny_typeNameOfWhole_itemiter ty (wpAny_pure ?_)))
 simp only [zxe,if_true]
 refine wpAny_bind (wpAny_setField_rec (k:=2) hi (by show 2<8;decide) λ h1 g1 sb=>?_)
 unfold newExc raiseNew
 refine wpAny_bind (wpAny_bind (wpAny_newObj_type ?_))
 have fa:firstArgMember (.type "StopIteration") []=pure Value.none:=by
  rw [firstArgMember.eq_1]
  generalize (Manifest.find? "StopIteration").elim false (λ t=>t.mro.contains "StopIteration" || t.mro.contains "SystemExit")=b
  cases b <;> rfl
 refine wpAny_bind (wpAny_of_eq fa (wpAny_newObj_type ?_ (sizeOk_excFields _ _ _ _ _ _ _ _)))
 refine wpAny_bind (wpAny_handled ?_)
 rw [show A.in1.handled=none from hh]
 refine wpAny_throw ?_
 refine wpAny_bind (wpAny_isInstance ⟨_,Heap.get?_push_size _ rfl,rfl⟩ isSubtype_stop ?_)
 rw [if_pos rfl]
 refine wpAny_pure (k _ λ b o hb e=>?_)
 exact Heap.get?_push_of_some _ (Heap.get?_push_of_some _ ((sb.2 b hb).trans e))
end
end L2
namespace L2
open PySem PySem.Spec PyProof.Rows PySem.NumText
noncomputable def zyy (a b:Value):Obj:={ cls := .type "tuple",data := .seq #[a,b] }
structure Got (ds:Array DictEntry) (lo:Addr) (h:Heap) (as:List Addr):Prop where
 at_:∀ (j:Nat) (a:Addr),as[j]? = some a→lo≤a∧∃ e,ds[j]? = some e∧h.get? a=some (zyy e.key e.val)
 nd:as.Nodup
section
variable {prog:Program} {w:World} {A:Around} {E:Value→Shared→Prop} {s:Shared} {d it S r:Addr} {ds:Array DictEntry} {ep:Nat}
theorem zeh {R:Result→Shared→Prop} (hh:A.handled=none) (hn:ds.size≤sizeLine) (nSI:S≠it) (ndS:d≠S) (ndI:d≠it) (res:Value) {h1:Heap} {lo:Addr}
  (k:∀ h' tk acc c as,(∀ b o,b≠S→b≠it→h1.get? b=some o→h'.get? b=some o)→h'.get? S=some { cls := .type "list",data := .seq acc c }→as.length=ds.size→Got ds lo h' as→acc.toList=as.map Value.ref→R (.ok (.ret res)) { s with heap:=h',toks:=tk }) :
  ∀ (n i:Nat) (h:Heap) (tk c:Nat) (acc:Array Value) (as:List Addr) (first:Value) (f:Bool) (ok ov:Value),ds.size - i=n→i≤ds.size→h.get? it=some (zcg d i ds.size ep first f ok ov)→((first = .none∧f=false) ∨ ∃ (a:Addr) (oa:Obj),first=rawInt a∧h.get? a=some oa∧a≠it∧a≠S)→RawD h d ds ep →
   (∀ b o,b≠S→b≠it→h1.get? b=some o→h.get? b=some o)→h.get? S=some { cls := .type "list",data := .seq acc c }→acc.toList=as.map Value.ref→as.length=i→Got ds lo h as→(∀ a∈as,a≠S∧a≠it)→lo≤h.objs.size →
   codeAny (model prog w) A (.builtin "list.extend.loop" ⟨[.ref S,.ref it,res],[]⟩) R { s with heap:=h,toks:=tk }:=by
 intro n
 induction n with
 | zero =>
  intro i h tk c acc as first f ok ov hni hi hit hfirst hd kp hS hacc hal hG hne hlo
  refine codeAny_builtin F.entry_extend_loop ?_
  rw [Around.under_plainId F.plain_extend_loop]
  refine wpAny_bind (zwp (s:={ s with heap:=h,toks:=tk }) hh hit hd (by rw [Array.getElem?_eq_none];omega) λ h' kp'=>?_)
  refine wpAny_pure (k h' tk acc c as (λ b o h1' h2' e=>kp' b o h2' (kp b o h1' h2' e)) (kp' _ _ nSI hS) (by omega) ⟨λ j a e=>?_,hG.nd⟩ hacc)
  obtain ⟨q1,e1,q2,q3⟩:=hG.at_ j a e
  exact ⟨q1,e1,q2,kp' _ _ (hne a (List.mem_of_getElem? e)).2 q3⟩
 | succ n ih =>
  intro i h tk c acc as first f ok ov hni hi hit hfirst hd kp hS hacc hal hG hne hlo
  obtain ⟨e,he⟩:∃ e,ds[i]? = some e:=⟨_,Array.getElem?_eq_getElem (by omega)⟩
  refine codeAny_builtin F.entry_extend_loop ?_
  rw [Around.under_plainId F.plain_extend_loop]
  have hItL:=Heap.lt_size hit
  have hSL:=Heap.lt_size hS
  have go:∀ h' first' f' ok' ov',h'.get? it=some (zcg d (i+1) ds.size ep first' f' ok' ov')→((first' = .none∧f'=false) ∨ ∃ (a:Addr) (oa:Obj),first'=rawInt a∧h'.get? a=some oa∧a≠it∧a≠S)→h'.get? h.objs.size=some (zyy e.key e.val)→h'.objs.size=h.objs.size+1 →
    (∀ b o,b≠it→h.get? b=some o→h'.get? b=some o)→wpAny (model prog w) A.in1 (do Builtin.List.listUpdate (.ref S) λ x=>x.push (.ref h.objs.size);again (.builtin "list.extend.loop" ⟨[.ref S,.ref it,res],[]⟩))
     (λ fin s'=>match fin with | .done f=>R (.ok f) s' | .again c'=>c'.quiet=true∧codeAny (model prog w) A c' R s') (λ e s'=>R (.error e) s') { s with heap:=h',toks:=tk }:=by
   intro h' first' f' ok' ov' hit' hfirst' ht hz kp'
   have hS':=kp' _ _ nSI hS
   have haz:acc.size=as.length:=by rw [← Array.length_toList,hacc,List.length_map]
   refine wpAny_bind (wpAny_updateSeq (a:=S) (s:={ s with heap:=h',toks:=tk }) hS' rfl ?_ (by omega) (by rw [Array.size_push];omega))
   refine wpAny_pure ⟨plainId_quiet F.plain_extend_loop _,?_⟩
   have nt:h.objs.size≠S:=Nat.ne_of_gt hSL
   have nti:h.objs.size≠it:=Nat.ne_of_gt hItL
   have oth:∀ b,b≠S→(h'.update S (Obj.mapSeq λ x=>x.push (.ref h.objs.size))).get? b=h'.get? b:=λ b hb=>Heap.get?_update_other _ _ (Ne.symm hb)
   have self:(h'.update S (Obj.mapSeq λ x=>x.push (.ref h.objs.size))).get? S=some { cls := .type "list",data := .seq (acc.push (.ref h.objs.size)) (if (acc.push (.ref h.objs.size)).size == acc.size then c else c+1) }:=by
    exact Heap.get?_update_self _ hS' rfl
   refine ih (i+1) _ tk _ _ (as++[h.objs.size]) first' f' ok' ov' (by omega) (by omega) (by rw [oth _ nSI.symm];exact hit') ?_ ?_ ?_ self ?_ ?_ ?_ ?_ ?_
   ·rcases hfirst' with z | ⟨a,oa,z1,z2,z3,z4⟩
    ·exact .inl z
    ·exact .inr ⟨a,oa,z1,by rw [oth _ z4];exact z2,z3,z4⟩
   ·obtain ⟨o,o1,o2⟩:=hd
    exact ⟨o,by rw [oth _ ndS];exact kp' _ _ ndI o1,o2⟩
   ·intro b o hb1 hb2 q
    rw [oth _ hb1]
    exact kp' _ _ hb2 (kp b o hb1 hb2 q)
   ·rw [Array.toList_push,hacc,List.map_append]
    rfl
   ·rw [List.length_append,List.length_cons,List.length_nil];omega
   ·refine ⟨λ j a q=>?_,List.nodup_append.mpr ⟨hG.nd,List.nodup_cons.mpr ⟨by simp,List.nodup_nil⟩,λ x hx y hy=>?_⟩⟩
    rotate_left
    ·rw [List.mem_singleton.mp hy]
     obtain ⟨j,hj⟩:=List.getElem?_of_mem hx
     obtain ⟨_,_,_,q3⟩:=hG.at_ j x hj
     exact Nat.ne_of_lt (Heap.lt_size q3)
    rcases Nat.lt_or_ge j as.length with hj | hj
    ·rw [List.getElem?_append_left hj] at q
     obtain ⟨q1,e1,q2,q3⟩:=hG.at_ j a q
     obtain ⟨n1,n2⟩:=hne a (List.mem_of_getElem? q)
     exact ⟨q1,e1,q2,by rw [oth _ n1];exact kp' _ _ n2 q3⟩
    ·have hj':j=as.length:=by
      have:=(List.getElem?_eq_some_iff.mp q).1
      rw [List.length_append,List.length_cons,List.length_nil] at this
      omega
     rw [hj',List.getElem?_concat_length] at q
     cases q
     refine ⟨hlo,e,by rw [hj',hal];exact he,?_⟩
     rw [oth _ nt]
     exact ht
   ·intro a ha
    rcases List.mem_append.mp ha with z | z
    ·exact hne a z
    ·rw [List.mem_singleton.mp z];exact ⟨nt,nti⟩
   ·rw [Heap.size_update,hz];exact Nat.le_succ_of_le hlo
  rcases hfirst with ⟨rfl,rfl⟩ | ⟨a,oa,rfl,ha,hai,haS⟩
  ·refine wpAny_bind (zjp (s:={ s with heap:=h,toks:=tk }) hit hd he λ h' g1 g2 g3 g4=>?_)
   exact go h' _ _ _ _ g1 (.inr ⟨_,_,rfl,g2,Nat.ne_of_gt hItL,Nat.ne_of_gt hSL⟩) g2 g3 g4
  ·refine wpAny_bind (zsp (s:={ s with heap:=h,toks:=tk }) hit ha hai hd he λ h' g1 g2 g3 g4=>?_)
   exact go h' _ _ _ _ g1 (.inr ⟨a,oa,rfl,g4 _ _ hai ha,hai,haS⟩) g2 g3 g4
theorem zlh {R:List Value→Shared→Prop} (hh:A.handled=none) (hv:s.heap.IsItemsView r d) (hd:RawD s.heap d ds ep) (hn:ds.size≤sizeLine)
  (k:∀ h' tk as,(∀ b o,s.heap.get? b=some o→h'.get? b=some o)→as.length=ds.size→Got ds s.heap.objs.size h' as→R (as.map Value.ref) { s with heap:=h',toks:=tk }):wpAny (model prog w) A (collect (.ref r)) R E s:=by
 unfold collect
 refine wpAny_bind (wpAny_runValue (codeAny_builtin entry_proto_collect' ?_))
 rw [Around.under_plainId F.plain_proto_collect]
 refine wpAny_bind (wpAny_newObj_type (wpAny_pure ⟨plainId_quiet F.plain_list_iadd _,codeAny_builtin entry_list_iadd' ?_⟩))
 rw [Around.under_plainId F.plain_list_iadd]
 obtain ⟨o,d1,d2,d3⟩:=id hd
 obtain ⟨vo,v1,v2⟩:=id hv
 obtain ⟨h1,hh1⟩:∃ h1,h1=s.heap.push { cls := .type "list",data := .seq (#[]:Array Value) }:=⟨_,rfl⟩
 have hS1:h1.get? s.heap.objs.size=some { cls := .type "list",data := .seq #[] }:=by rw [hh1];exact Heap.get?_push_size _ rfl
 have kp1:∀ b ob,s.heap.get? b=some ob→h1.get? b=some ob:=λ b ob e=>by rw [hh1];exact Heap.get?_push_of_some _ e
 have z1:h1.objs.size=s.heap.objs.size+1:=by rw [hh1,Heap.size_push]
 have hv1:h1.IsItemsView r d:=⟨vo,kp1 _ _ v1,v2⟩
 have hd1:RawD h1 d ds ep:=⟨o,kp1 _ _ d1,d2,d3⟩
 show wpAny _ _ (Builtin.«list.__iadd__» _) _ _ { s with heap:=s.heap.push { cls := .type "list",data := .seq (#[]:Array Value) } }
 rw [← hh1]
 unfold Builtin.«list.__iadd__»
 refine wpAny_bind (wpAny_pure ?_)
 show wpAny _ _ (Builtin.List.listExtendWith (.ref s.heap.objs.size) (.ref r) (.ref s.heap.objs.size)) _ _ _
 unfold Builtin.List.listExtendWith
 have hv1':({ s with heap:=h1 }:Shared).heap.IsItemsView r d:=hv1
 refine wpAny_bind (wpAny_typeOf hv1'.typeIs ?_)
 have nr:s.heap.objs.size≠r:=Nat.ne_of_gt (Heap.lt_size v1)
 rw [if_neg (by simp [Builtin.List.listSameRef,nr])]
 refine wpAny_bind (zkh (s:={ s with heap:=h1 }) hv1 hd1 ?_)
 obtain ⟨h2,hh2⟩:∃ h2,h2=h1.push (zcg d 0 ds.size ep .none false .none .none):=⟨_,rfl⟩
 have z2:h2.objs.size=h1.objs.size+1:=by rw [hh2,Heap.size_push]
 have kp2:∀ b ob,h1.get? b=some ob→h2.get? b=some ob:=λ b ob e=>by rw [hh2];exact Heap.get?_push_of_some _ e
 have i2:h2.get? h1.objs.size=some (zcg d 0 ds.size ep .none false .none .none):=by rw [hh2];exact Heap.get?_push_size _ rfl
 show wpAny _ _ _ _ _ { s with heap:=h1.push (zcg d 0 ds.size ep .none false .none .none) }
 rw [← hh2]
 have hv2:({ s with heap:=h2 }:Shared).heap.IsItemsView r d:=⟨vo,kp2 _ _ (kp1 _ _ v1),v2⟩
 refine wpAny_bind (wpAny_holding (W.kdx_hint hv2.typeIs ?_))
 have nSI:s.heap.objs.size≠h1.objs.size:=by rw [z1];exact Nat.ne_of_lt (Nat.lt_succ_self _)
 have ndS:d≠s.heap.objs.size:=Nat.ne_of_lt (Heap.lt_size d1)
 have ndI:d≠h1.objs.size:=Nat.ne_of_lt (Heap.lt_size (kp1 _ _ d1))
 have fin:∀ h3 c,h3.objs.size=h2.objs.size→(∀ b,b≠s.heap.objs.size→h3.get? b=h2.get? b)→h3.get? s.heap.objs.size=some { cls := .type "list",data := .seq #[] c } →
   codeAny (model prog w) A (.builtin "list.extend.loop" ⟨[.ref s.heap.objs.size,.ref h1.objs.size,.ref s.heap.objs.size],[]⟩) (λ r s'=>∃ h' tk acc c' as,r = .ok (.ret (.ref s.heap.objs.size))∧s'={ s with heap:=h',toks:=tk }∧(∀ b ob,s.heap.get? b=some ob→h'.get? b=some ob)∧h'.get? s.heap.objs.size=some { cls := .type "list",data := .seq acc c' }∧as.length=ds.size∧Got ds s.heap.objs.size h' as∧acc.toList=as.map Value.ref) { s with heap:=h3,toks:=s.toks }:=by
  intro h3 c z3 oth3 hS3
  refine zeh (ep:=ep) (d:=d) (h1:=h2) (lo:=s.heap.objs.size) hh hn nSI ndS ndI (.ref s.heap.objs.size) ?_ (ds.size - 0) 0 h3 s.toks c #[] [] .none false .none .none rfl (Nat.zero_le _) (by rw [oth3 _ nSI.symm];exact i2) (.inl ⟨rfl,rfl⟩) ⟨o,by rw [oth3 _ ndS];exact kp2 _ _ (kp1 _ _ d1),d2,d3⟩ (λ b ob hb1 hb2 e=>by rw [oth3 _ hb1];exact e) hS3 rfl rfl ⟨(λ j a e=>by simp at e),List.nodup_nil⟩ (λ a ha=>by simp at ha) (by rw [z3,z2,z1];exact Nat.le_succ_of_le (Nat.le_succ _))
  intro h' tk acc c' as kp' hS' hal hG hacc
  exact ⟨h',tk,acc,c',as,rfl,rfl,λ b ob e=>kp' b ob (Nat.ne_of_lt (Heap.lt_size e)) (Nat.ne_of_lt (Heap.lt_size (kp1 _ _ e))) (kp2 _ _ (kp1 _ _ e)),hS',hal,hG,hacc⟩
 refine wpAny_ite_split (λ _=>?_) (λ _=>?_)
 ·refine wpAny_bind (wpAny_rule (wpAny_bind (wpAny_bind (wpAny_updateSeq (a:=s.heap.objs.size) (s:={ s with heap:=h2 }) (kp2 _ _ hS1) rfl ?_ (Nat.zero_le _) (by show 1≤_;rw [sizeLine_eq];omega)))))
  have self:(h2.update s.heap.objs.size (Obj.mapSeq λ x=>x.push .none)).get? s.heap.objs.size=some { cls := .type "list",data := .seq #[.none] 1 }:=Heap.get?_update_self _ (kp2 _ _ hS1) rfl
  refine wpAny_updateSeq (a:=s.heap.objs.size) self rfl ?_ (by show 1≤_;rw [sizeLine_eq];omega) (Nat.zero_le _)
  refine wpAny_pure ⟨plainId_quiet F.plain_extend_loop _,codeAny_mono (fin _ 2 ?_ ?_ ?_) λ r s' ⟨h',tk,acc,c',as,e1,e2,kp',hS',hal,hG,hacc⟩=>?_⟩
  ·rw [Heap.size_update,Heap.size_update]
  ·intro b hb
   rw [Heap.get?_update_other _ _ (Ne.symm hb),Heap.get?_update_other _ _ (Ne.symm hb)]
  ·exact Heap.get?_update_self _ self rfl
  ·subst e1 e2
   refine wpAny_bind (wpAny_load hS' ?_)
   dsimp only
   rw [hacc]
   exact wpAny_pure (k h' tk as kp' hal hG)
 ·refine wpAny_pure ⟨plainId_quiet F.plain_extend_loop _,codeAny_mono (fin h2 0 rfl (λ _ _=>rfl) (kp2 _ _ hS1)) λ r s' ⟨h',tk,acc,c',as,e1,e2,kp',hS',hal,hG,hacc⟩=>?_⟩
  subst e1 e2
  refine wpAny_bind (wpAny_load hS' ?_)
  dsimp only
  rw [hacc]
  exact wpAny_pure (k h' tk as kp' hal hG)
end
noncomputable def layT (H:Hp):List (Addr×List V)→Hp
 | []=>H
 | t::ts=>upd (layT H ts) t.1 (.tup t.2)
theorem zqc {H:Hp} {b:Addr}:∀ {ts:List (Addr×List V)},(∀ t∈ts,b≠t.1)→layT H ts b=H b
 | [],_=>rfl
 | t::ts,h=>by
  show upd (layT H ts) t.1 (.tup t.2) b=H b
  rw [zga (h t List.mem_cons_self)]
  exact zqc λ u hu=>h u (List.mem_cons_of_mem _ hu)
theorem zls {H:Hp} {b:Addr} {o:HO}:∀ {ts:List (Addr×List V)},layT H ts b=some o→(∃ t∈ts,t.1=b∧o = .tup t.2) ∨ ((∀ t∈ts,b≠t.1)∧H b=some o)
 | [],h=>.inr ⟨(λ _ z=>by cases z),h⟩
 | t::ts,h=>by
  have h:upd (layT H ts) t.1 (.tup t.2) b=some o:=h
  by_cases hb:b=t.1
  ·subst hb
   rw [upd_same] at h
   exact .inl ⟨t,List.mem_cons_self,rfl,(Option.some.inj h).symm⟩
  ·rw [zga hb] at h
   rcases zls h with ⟨u,hu,e1,e2⟩ | ⟨h1,h2⟩
   ·exact .inl ⟨u,List.mem_cons_of_mem _ hu,e1,e2⟩
   ·refine .inr ⟨λ u hu=>?_,h2⟩
    rcases List.mem_cons.mp hu with rfl | hu
    ·exact hb
    ·exact h1 u hu
theorem zvm {H:Hp}:∀ {ts:List (Addr×List V)} {t:Addr×List V},(ts.map (·.1)).Nodup→t∈ts→layT H ts t.1=some (.tup t.2)
 | u::ts,t,hd,ht=>by
  show upd (layT H ts) u.1 (.tup u.2) t.1=some (.tup t.2)
  rcases List.mem_cons.mp ht with rfl | ht'
  ·exact upd_same
  ·have hn:=(List.nodup_cons.mp hd)
   rw [zga (λ z=>hn.1 (by show u.1∈_;rw [← z];exact List.mem_map_of_mem (f:=(·.1)) ht'))]
   exact zvm hn.2 ht'
section
variable {X:Cx} {pins:List (Addr×Obj)} {σ:St} {H:Hp} {s:Shared} {h':Heap}
theorem Inv.laidAll {t':Nat} (I:Inv X pins σ H s) (k:∀ b u,s.heap.get? b=some u→h'.get? b=some u) {ts:List (Addr×List V)} (hts:∀ t∈ts,s.heap.objs.size≤t.1∧ObjOk X.prog X.w H h' t.1 (.tup t.2)) :
  Inv X pins σ (layT H ts) { s with heap:=h',toks:=t' }:=by
 have old:∀ b u,H b=some u→∀ t∈ts,b≠t.1:=λ b u q t ht=>Nat.ne_of_lt (Nat.lt_of_lt_of_le (I.hok.lt q) (hts t ht).1)
 refine I.un ⟨λ b u q _ _ _=>k b u q,λ b u q _ _ _=>⟨u.slots,k b u q⟩,λ b u q n _=>?_,λ b u q _=>⟨u,k b u q⟩,λ b xs q=>?_,λ b u xs q=>?_,λ b ps q=>⟨#[],?_⟩⟩ ?_
 ·rw [zqc λ t ht=>Nat.ne_of_lt (Nat.lt_of_lt_of_le (Heap.lt_size q) (hts t ht).1)];exact n
 ·rw [zqc (old b _ q)];exact q
 ·rw [zqc (old b _ q)];exact q
 ·rw [zqc (old b _ q),q];simp
 ·intro b o q
  rcases zls q with ⟨t,ht,rfl,rfl⟩ | ⟨hb,q⟩
  ·exact (hts t ht).2
  ·exact (I.hok b o q).stay (λ c v _ e=>k c v e) (λ c e=>by rw [zqc (old c _ e)];exact e) λ c xs e=>by rw [zqc (old c _ e)];exact e
end
end L2
namespace L2
open PySem PySem.Spec PyProof.Rows PySem.NumText
section
variable {prog:Program} {w:World} {A:Around} {E:Value→Shared→Prop} {s:Shared} {l:Addr} {xs:Array Value} {c:Nat} {sl:Array (Option Value)}
theorem znl {Q:Option Value→Shared→Prop} (hh:A.handled=none) (ho:s.heap.get? l=some { cls := .type "list",data := .seq xs c,slots:=sl })
  (k:∀ h' tk,(∀ b o,s.heap.get? b=some o→h'.get? b=some o)→Q none { s with heap:=h',toks:=tk }):wpAny (model prog w) A (getAttr? (.ref l) (Str.ofString "keys")) Q E s:=by
 unfold getAttr? mkText
 refine wpAny_bind (wpAny_bind (wpAny_fresh' (wpAny_pure ?_)))
 unfold getAttrBy?
 have ty:∀ tk,({ s with toks:=tk }:Shared).TypeIs (.ref l) "list" := λ tk=>⟨_,ho,rfl⟩
 refine wpAny_bind (wpAny_attempt ?_)
 unfold getAttrBy
 refine wpAny_holding (wpAny_bind (wpAny_typeOf (ty _) (wpAny_bind (wpAny_of_eq F.slot_list_getattribute.lookup ?_))))
 dsimp only
 rw [if_neg (by decide)]
 unfold getAttrByItsOwn hookBefore
 refine wpAny_bind (wpAny_of_eq (a:=none) (if_neg (by decide)) (wpAny_bind (wpAny_attempt (wpAny_holding ?_))))
 unfold callGetattribute
 rw [if_neg (by decide)]
 unfold boundAndCalled
 refine wpAny_bind (wpAny_of_eq (F.slot_list_getattribute.bind (.ref l)) ?_)
 have hmiss:typeLookup (.type "list") (Str.ofString "keys")=pure none:=am_miss_of_fast (by decide +kernel)
 refine call_meets F.slot_list_getattribute (ty _) am_entry_list_getattribute (F.args_list_getattribute_2 _ _) (meets_getattribute_miss_list l xs c sl _ _ hmiss (by decide +kernel) (by rw [sizeLine_eq];decide +kernel)) ⟨ho,hh,λ h' tk e ne=>?_⟩
 show wpAny _ _ (getattributeRaised _ _ _ _ _ _ _) _ _ _
 obtain ⟨t,u,he⟩:=ne.there
 unfold getattributeRaised
 refine wpAny_bind (wpAny_isInstance ⟨_,he,rfl⟩ sub_AttributeError ?_)
 rw [if_pos rfl]
 unfold hookBehind
 rw [if_neg (by decide)]
 refine wpAny_bind (wpAny_of_eq am_list_getattr_none ?_)
 unfold hookOrError attributeErrorLeaves
 dsimp only
 rw [if_pos (by decide)]
 refine wpAny_bind (wpAny_throw ?_)
 refine wpAny_bind (wpAny_isInstance ⟨_,he,rfl⟩ sub_AttributeError ?_)
 rw [if_pos rfl]
 exact wpAny_pure (k h' tk ne.keeps)
end
theorem zjd:entryFor table "dict.update.loop" = some Builtin.«dict.update.loop» := entryFor_of_tree (by rfl)
theorem zjb:plainId "dict.update.loop" = true:=by decide +kernel
noncomputable abbrev Row:=List Key×Addr×Value
noncomputable def zfb (xs:List Row) (ps:List Row):List Row:=ps.foldl (λ xs p=>storedH xs p.1 p.2.1 p.2.2) xs
section
variable {prog:Program} {w:World} {A:Around} {E:Value→Shared→Prop} {s:Shared} {l d it:Addr}
theorem zfo (xs:List Row) (k:List Key) (a:Addr) (v:Value):(storedH xs k a v).length≤xs.length+1:=by
 unfold storedH
 split
 ·rw [List.length_map];omega
 ·rw [List.length_append];exact Nat.le_refl _
theorem zso {xs:List Row} {k:List Key} {a:Addr} {v:Value} {x:Row} (h:x∈storedH xs k a v):x.2.1=a ∨ ∃ y∈xs,y.2.1=x.2.1:=by
 unfold storedH at h
 split at h
 ·obtain ⟨y,hy,rfl⟩:=List.mem_map.mp h
  refine .inr ⟨y,hy,?_⟩
  unfold putAt
  split <;> rfl
 ·rcases List.mem_append.mp h with z | z
  ·exact .inr ⟨x,z,rfl⟩
  ·rw [List.mem_singleton.mp z];exact .inl rfl
theorem zek {h h':Heap} {k:List Key} {a:Addr} (hi:(dK prog w).is h k a) (q:∀ o,h.get? a=some o→h'.get? a=some o):(dK prog w).is h' k a:=by
 obtain ⟨o,its,n,h1,r⟩:=hi
 exact ⟨o,its,n,q o h1,r⟩
theorem zai {h h':Heap} {xs:List Row} (hd:h.DictOfH (dK prog w) d xs) (q:∀ b o,b≠it→h.get? b=some o→h'.get? b=some o) (ndi:d≠it) (hn:∀ x∈xs,x.2.1≠it):h'.DictOfH (dK prog w) d xs:=by
 obtain ⟨o,ds,ep,a1,a2,a3,a4,a5,a6⟩:=hd
 exact ⟨o,ds,ep,q _ _ ndi a1,a2,a3,a4,λ x hx=>zek (a5 x hx) λ o e=>q _ _ (hn x hx) e,a6⟩
theorem ztd (ps:List Row) (p:Row):zfb [] (ps++[p])=storedH (zfb [] ps) p.1 p.2.1 p.2.2:=by
 unfold zfb
 rw [List.foldl_append]
 rfl
theorem zwe:∀ (ps:List Row) (xs:List Row),(zfb xs ps).length≤xs.length+ps.length
 | [],xs=>Nat.le_refl _
 | p::ps,xs=>by
  have h1:=zwe ps (storedH xs p.1 p.2.1 p.2.2)
  have h2:=zfo xs p.1 p.2.1 p.2.2
  show (zfb (storedH xs p.1 p.2.1 p.2.2) ps).length≤xs.length+(ps.length+1)
  omega
theorem zkl {R:Result→Shared→Prop} {items:Array Value} {ps:List Row} (hh:A.handled=none) (room:(dK prog w).room A.in1) (ndl:d≠l) (ndi:d≠it) (nli:l≠it) {h1:Heap} (res:Value) (hlen:items.size=ps.length) (hsz:ps.length≤1000)
  (hps:∀ (i:Nat) p,ps[i]? = some p→∃ t,items[i]? = some (.ref t)∧t≠d∧t≠it∧p.2.1≠d∧p.2.1≠it∧IsTup h1 t #[.ref p.2.1,p.2.2]∧(dK prog w).is h1 p.1 p.2.1)
  (k:∀ h' tk,(∀ b o,b≠d→b≠it→h1.get? b=some o→h'.get? b=some o)→h'.DictOfH (dK prog w) d (zfb [] ps)→R (.ok (.ret res)) { s with heap:=h',toks:=tk }) :
  ∀ (n i:Nat) (h:Heap) (tk:Nat) (cnt:Int) (ct:Tok),ps.length - i=n→i≤ps.length→h.IsListIter it l i→h.IsList l items→(∀ b o,b≠d→b≠it→h1.get? b=some o→h.get? b=some o)→h.DictOfH (dK prog w) d (zfb [] (ps.take i))→(∀ x∈zfb [] (ps.take i),x.2.1≠it∧x.2.1≠d) →
   codeAny (model prog w) A (.builtin "dict.update.loop" ⟨[.ref d,.ref it,.int cnt ct,res],[]⟩) R { s with heap:=h,toks:=tk }:=by
 intro n
 induction n with
 | zero =>
  intro i h tk cnt ct hni hi hit hl kp hd hx
  refine codeAny_builtin zjd ?_
  rw [Around.under_plainId zjb]
  refine wpAny_bind (wpAny_pyNext_list_end (s:={ s with heap:=h,toks:=tk }) hh hit hl (by rw [Array.getElem?_eq_none];omega) λ h' ex=>?_)
  refine wpAny_bind (wpAny_bind (wpAny_pure (wpAny_pure (wpAny_pure ?_))))
  refine k h' tk (λ b o h1' h2' e=>ex b o h2' (kp b o h1' h2' e)) ?_
  have e:ps.take i=ps:=List.take_of_length_le (by omega)
  rw [e] at hd hx
  exact zai hd ex ndi λ x q=>(hx x q).1
 | succ n ih =>
  intro i h tk cnt ct hni hi hit hl kp hd hx
  obtain ⟨p,hp⟩:∃ p,ps[i]? = some p:=⟨_,List.getElem?_eq_getElem (by omega)⟩
  obtain ⟨t,ht,n1,n2,n3,n4,ht1,his⟩:=hps i p hp
  refine codeAny_builtin zjd ?_
  rw [Around.under_plainId zjb]
  refine wpAny_bind (wpAny_pyNext_list_item (s:={ s with heap:=h,toks:=tk }) hit hl ht λ h2 hit2 sb=>?_)
  obtain ⟨to,tc1,tc2,tn,tc3⟩:=ht1
  have ht2:h2.get? t=some to:=(sb.2 t n2).trans (kp t _ n1 n2 tc1)
  have hd2:h2.DictOfH (dK prog w) d (zfb [] (ps.take i)):=zai hd (λ b o hb e=>(sb.2 b hb).trans e) ndi λ x q=>(hx x q).1
  have his2:(dK prog w).is h2 p.1 p.2.1:=zek his λ o e=>(sb.2 _ n4).trans (kp _ _ n3 n4 e)
  have hlt:(zfb [] (ps.take i)).length≤sizeLine:=by
   have:=zwe (ps.take i) []
   rw [List.length_take,List.length_nil] at this
   rw [sizeLine_eq]
   omega
  refine wpAny_bind (wpAny_holding (wpAny_bind ?_))
  rw [← Sem.tryCatch_eq]
  refine wpAny_tryCatch ?_
  unfold Builtin.Dict.pairItems
  refine wpAny_bind (wpAny_typeOf (T := "tuple") ⟨_,ht2,tc2⟩ ?_)
  rw [if_pos (by decide)]
  refine wpAny_bind (wpAny_seqItems ht2 tc3 (wpAny_pure ?_))
  show wpAny _ _ (holding [.ref p.2.1,p.2.2] (dictSet d (.ref p.2.1) p.2.2)) _ _ _
  refine wpAny_holding (wpAny_dictSet_heap (hsz:=hlt) room his2 hd2 λ h3 hd3 sb3=>?_)
  refine wpAny_pure ⟨plainId_quiet zjb _,?_⟩
  have e1:ps.take (i+1)=ps.take i++[p]:=by
   obtain ⟨hlt',rfl⟩:=List.getElem?_eq_some_iff.mp hp
   exact List.take_succ_eq_append_getElem hlt'
  have keep3:∀ b o,b≠d→b≠it→h.get? b=some o→h3.get? b=some o:=λ b o hb1 hb2 e=>(sb3.2 b hb1).trans ((sb.2 b hb2).trans e)
  refine ih (i+1) h3 _ (cnt+1) 0 (by omega) (by omega) ?_ ?_ (λ b o hb1 hb2 e=>keep3 b o hb1 hb2 (kp b o hb1 hb2 e)) ?_ ?_
  ·obtain ⟨o,a1,a2⟩:=hit2
   exact ⟨o,(sb3.2 it ndi.symm).trans a1,a2⟩
  ·obtain ⟨o,a1,a2⟩:=hl
   exact ⟨o,keep3 _ _ ndl.symm nli a1,a2⟩
  ·rw [e1,ztd];exact hd3
  ·rw [e1,ztd]
   intro x hxm
   rcases zso hxm with z | ⟨y,hy,z⟩
   ·rw [z];exact ⟨n4,n3⟩
   ·rw [← z];exact hx y hy
theorem ztg {Q:Value→Shared→Prop} {items:Array Value} {ps:List Row} {sl:Array (Option Value)} {c:Nat} (hh:A.handled=none) (room:(dK prog w).room A.in1.in1) (ho:s.heap.get? l=some { cls := .type "list",data := .seq items c,slots:=sl }) (hlen:items.size=ps.length) (hsz:ps.length≤1000)
  (hps:∀ (i:Nat) p,ps[i]? = some p→∃ t,items[i]? = some (.ref t)∧IsTup s.heap t #[.ref p.2.1,p.2.2]∧(dK prog w).is s.heap p.1 p.2.1)
  (k:∀ h' tk,(∀ b o,s.heap.get? b=some o→h'.get? b=some o)→h'.DictOfH (dK prog w) s.heap.objs.size (zfb [] ps)→Q (.ref s.heap.objs.size) { s with heap:=h',toks:=tk }):wpAny (model prog w) A (call (.type "dict") [.ref l]) Q E s:=by
 obtain ⟨h1,hh1⟩:∃ h1,h1=s.heap.push { cls := .type "dict",data := .dict (#[]:Array DictEntry) }:=⟨_,rfl⟩
 have kp1:∀ b o,s.heap.get? b=some o→h1.get? b=some o:=λ b o e=>by rw [hh1];exact Heap.get?_push_of_some _ e
 have hd1:h1.get? s.heap.objs.size=some { cls := .type "dict",data := .dict #[] }:=by rw [hh1];exact Heap.get?_push_size _ rfl
 refine callType_codes (Q₁:=λ obj s1=>obj = .ref s.heap.objs.size∧s1={ s with heap:=h1 }) F.kt_called_dict (F.kt_typeCall_dict_1 _) F.entry_dict_init (kt_code_dict_new _ ⟨rfl,by rw [hh1]⟩) λ obj s1 ⟨e1,e2⟩=>?_
 subst e1 e2
 have td:({ s with heap:=h1 }:Shared).TypeIs (.ref s.heap.objs.size) "dict" := ⟨_,hd1,rfl⟩
 refine ⟨td,F.args_dict_init_2 _ _,?_⟩
 unfold Builtin.«dict.__init__» Builtin.Dict.selfAndRest
 refine wpAny_bind (wpAny_bind (wpAny_notOrdered_dict td ?_))
 refine wpAny_bind (wpAny_pure (wpAny_pure ?_))
 show wpAny _ _ (Builtin.Dict.updateFrom "dict.__init__" s.heap.objs.size (.ref l) [] .none) _ _ _
 unfold Builtin.Dict.updateFrom
 have ho1:=kp1 _ _ ho
 refine wpAny_bind (wpAny_typeOf (T := "list") ⟨_,ho1,rfl⟩ ?_)
 rw [if_pos (by decide)]
 refine wpAny_bind (znl (s:={ s with heap:=h1 }) hh ho1 λ h2 tk kp2=>?_)
 rw [if_pos (by decide)]
 refine wpAny_bind (wpAny_rule ?_)
 have hl2:h2.IsList l items:=⟨_,kp2 _ _ ho1,rfl,c,rfl⟩
 refine wpAny_bind (wpAny_pyIter_list (s:={ s with heap:=h2,toks:=tk }) hl2 ?_)
 refine wpAny_pure ⟨plainId_quiet zjb _,?_⟩
 obtain ⟨h3,hh3⟩:∃ h3,h3=h2.push { cls := .type "list_iterator",data := .fields #[.ref l,.int 0 0] }:=⟨_,rfl⟩
 have kp3:∀ b o,h2.get? b=some o→h3.get? b=some o:=λ b o e=>by rw [hh3];exact Heap.get?_push_of_some _ e
 have it3:h3.IsListIter h2.objs.size l 0:=by rw [hh3];exact ⟨_,Heap.get?_push_size _ rfl,rfl,rfl⟩
 show codeAny _ _ (.builtin "dict.update.loop" ⟨[.ref s.heap.objs.size,.ref h2.objs.size,.int 0 0,.none],[]⟩) _ { s with heap:=h2.push { cls := .type "list_iterator",data := .fields #[.ref l,.int 0 0] },toks:=tk }
 rw [← hh3]
 have old:∀ b o,s.heap.get? b=some o→h3.get? b=some o∧b≠s.heap.objs.size∧b≠h2.objs.size:=λ b o e=>⟨kp3 _ _ (kp2 _ _ (kp1 _ _ e)),Nat.ne_of_lt (Heap.lt_size e),Nat.ne_of_lt (Heap.lt_size (kp2 _ _ (kp1 _ _ e)))⟩
 have ndi:s.heap.objs.size≠h2.objs.size:=Nat.ne_of_lt (Heap.lt_size (kp2 _ _ hd1))
 refine zkl (A:=A.in1) (h1:=h3) (items:=items) (ps:=ps) (l:=l) (show A.in1.handled=none from hh) room (old _ _ ho).2.1.symm ndi (old _ _ ho).2.2 .none hlen hsz ?_ ?_ (ps.length - 0) 0 h3 tk 0 0 rfl (Nat.zero_le _) it3 ⟨_,(old _ _ ho).1,rfl,c,rfl⟩ (λ _ _ _ _ e=>e) ?_ (λ x hx=>by cases hx)
 ·intro i p hp
  obtain ⟨t,q1,⟨to,q2,q3⟩,q4⟩:=hps i p hp
  have ht:=old _ _ q2
  have q4':=q4
  obtain ⟨po,_,_,r1,_⟩:=q4'
  have hq:=old _ _ r1
  exact ⟨t,q1,ht.2.1,ht.2.2,hq.2.1,hq.2.2,⟨to,ht.1,q3⟩,zek q4 λ o e=>(old _ _ e).1⟩
 ·intro h' tk' kp' hd'
  refine ⟨rfl,k h' tk' (λ b o e=>?_) hd'⟩
  obtain ⟨q1,q2,q3⟩:=old b o e
  exact kp' b o q2 q3 q1
 ·exact ⟨_, #[],0,kp3 _ _ (kp2 _ _ hd1),⟨rfl,rfl,rfl⟩,rfl,rfl,(λ x hx=>by cases hx),List.nodup_nil⟩
end
noncomputable def zvb (es:List Ent) (ps:List Ent):List Ent:=ps.foldl (λ es p=>putM es p.1 p.2.1 p.2.2) es
theorem zii:∀ {ps:List Ent} {rs:List Row},Paired EntR ps rs→∀ {es:List Ent} {xs:List Row},Paired EntR es xs→Paired EntR (zvb es ps) (zfb xs rs)
 | _,_,.nil,_,_,h=>h
 | p::ps,r::rs,.cons a b,es,xs,h=>by
  show Paired EntR (zvb (putM es p.1 p.2.1 p.2.2) ps) (zfb (storedH xs r.1 r.2.1 r.2.2) rs)
  refine zii b ?_
  rw [a.1,a.2.1]
  exact zro h p.1 a.2.2
theorem zne:∀ (ps:List Ent) (es:List Ent),(zvb es ps).length≤es.length+ps.length
 | [],es=>Nat.le_refl _
 | p::ps,es=>by
  have h1:=zne ps (putM es p.1 p.2.1 p.2.2)
  have h2:=zqd es p.1 p.2.1 p.2.2
  show (zvb (putM es p.1 p.2.1 p.2.2) ps).length≤es.length+(ps.length+1)
  omega
section
variable {X:Cx}
noncomputable def zpt (K:W.Frag) (H:Hp) (ps:List Ent) (vs:List V):Prop:=Paired (λ (p:Ent) (v:V)=>∃ t,v = .ref t∧SqT K H t [.ref p.2.1,p.2.2]∧SqT K H p.2.1 (mkV p.1)) ps vs
noncomputable def za0 (P:Program) (w:World) (K:W.Frag):List V→Hp→VK→Prop:=λ xs H Q=>∃ (p:Addr) (vs:List V) (ps:List Ent),xs=[.ref p]∧SqL K H p vs∧zpt K H ps vs∧ps.length≤1000∧∀ q o,H q=none→Q (.ref q) (upd H q (dO P w q (zvb [] ps) o))
theorem zah {pins:List (Addr×Obj)} {σ:St} {H:Hp} {s:Shared} (I:Inv X pins σ H s):∀ {ps:List Ent} {vs:List V} {us:List Value},zpt X.K H ps vs→Vals vs us→∃ rs:List Row,Paired EntR ps rs∧us.length=rs.length∧∀ (i:Nat) r,rs[i]? = some r→∃ t,us[i]? = some (.ref t)∧IsTup s.heap t #[.ref r.2.1,r.2.2]∧(dK X.prog X.w).is s.heap r.1 r.2.1
 | _,_,_,.nil,.nil=>⟨[],.nil,rfl,λ i r e=>by simp at e⟩
 | p::ps,v::vs,u::us,.cons a b,.cons ra rb=>by
  obtain ⟨rs,h1,h2,h3⟩:=zah I b rb
  obtain ⟨t,rfl,ht,hm⟩:=a
  cases ra
  obtain ⟨its,rv,tp,_⟩:=I.tuple ht
  cases rv with
  | cons r1 r2 =>
   cases r2 with
   | cons r3 r4 =>
    cases r4
    cases r1
    rename_i uv
    refine ⟨(mkK p.1,p.2.1,uv)::rs,.cons ⟨rfl,rfl,r3⟩ h1,by rw [List.length_cons,List.length_cons,h2],λ i r e=>?_⟩
    cases i with
    | zero =>
     cases (Option.some.inj e)
     exact ⟨t,rfl,tp,I.mark hm⟩
    | succ i=>exact h3 i r (by simpa using e)
theorem zul (hc:X.calm=true) (hu:X.A.units+100<cLine):zvg X (.type "dict") (za0 X.prog X.w X.K):=by
 intro pins s σ H xs us Q I r h
 obtain ⟨p,vs,ps,rfl,hq,hp,hz,q⟩:=h
 obtain ⟨u,rfl,ru⟩:=zzm r
 cases ru
 obtain ⟨its,rv,pl,hsz⟩:=I.list hq
 obtain ⟨rs,h1,h2,h3⟩:=zah I hp rv
 have hpl:ps.length=rs.length:=Paired.length h1
 obtain ⟨o,n,ho,oc,od,odt⟩:=id pl
 obtain ⟨cls,dct,dat,sl⟩:=o
 cases oc
 cases od
 cases odt
 refine ztg (ps:=rs) (I.ok.hd hc) (tupleKind_room_in1 (A:=X.A.in1) (by show X.A.units+1+1<cLine;omega)) ho (by rw [List.size_toArray];exact h2) (by omega) (λ i r' e=>by rw [List.getElem?_toArray];exact h3 i r' e) λ h' tk kp dd=>?_
 have hb:(s.heap.objs.size == sysModules)=false:=beq_eq_false_iff_ne.mpr (Ne.symm (Nat.ne_of_lt I.bigM))
 have hl:=zne ps []
 obtain ⟨ob,hob⟩:=zcu (P:=X.prog) (w:=X.w) (H:=H) (es:=zvb [] ps) (Nat.le_of_lt (zoa (by rw [List.length_nil] at hl;omega))) hb (zii h1 .nil) dd
 exact ⟨.ref s.heap.objs.size,_,I.laid (t':=tk) kp (Nat.le_refl _) hob,rfl,q _ ob (I.hok.fresh (Nat.le_refl _))⟩
end
end L2
namespace L2
open PySem PySem.Spec PyProof.Rows PySem.NumText
noncomputable def zmv (v d:Addr):HO := .ext λ h=>h.IsItemsView v d
structure Raw (P:Program) (w:World) (es:List Ent) (o:Obj) (ds:Array DictEntry) (ep:Nat) (rs:List Row):Prop where
 rel:Paired EntR es rs
 cl:o.cls = .type "dict"
 dat:o.data = .dict ds ep
 lst:ds.toList=rs.map (entryOfKey (dK P w))
theorem Raw.size {P:Program} {w:World} {es:List Ent} {o:Obj} {ds:Array DictEntry} {ep:Nat} {rs:List Row} (R:Raw P w es o ds ep rs):ds.size=es.length:=by
 rw [← Array.length_toList,R.lst,List.length_map,← Paired.length R.rel]
theorem zbw:∀ {es:List Ent} {rs:List Row},Paired EntR es rs→∀ {i:Nat} {e:Ent},es[i]? = some e→∃ r,rs[i]? = some r∧EntR e r
 | _,_,.nil,i,e,h=>by simp at h
 | _,_,.cons a b,0,e,h=>by cases (Option.some.inj h);exact ⟨_,rfl,a⟩
 | _,_,.cons a b,i+1,e,h=>by
  obtain ⟨r,h1,h2⟩:=zbw b (i:=i) (by simpa using h)
  exact ⟨r,by simpa using h1,h2⟩
theorem Raw.at_ {P:Program} {w:World} {es:List Ent} {o:Obj} {ds:Array DictEntry} {ep:Nat} {rs:List Row} (R:Raw P w es o ds ep rs) {i:Nat} {e:Ent} (h:es[i]? = some e):∃ u q,ds[i]? = some u∧u.key = .ref e.2.1∧u.val=q∧RelV e.2.2 q:=by
 obtain ⟨r,h1,h2⟩:=zbw R.rel h
 refine ⟨entryOfKey (dK P w) r,r.2.2,?_,?_,rfl,h2.2.2⟩
 ·rw [← Array.getElem?_toList,R.lst,List.getElem?_map,h1];rfl
 ·show Value.ref r.2.1=_
  rw [h2.2.1]
section
variable {X:Cx} {pins:List (Addr×Obj)} {σ:St} {H:Hp} {s:Shared} {a:Addr} {es:List Ent} {o:Obj}
theorem Inv.raw (I:Inv X pins σ H s) (ob:H a=some (dO X.prog X.w a es o)):s.heap.get? a=some o∧(a == sysModules)=false∧es.length≤sizeLine∧∃ ds ep rs,Raw X.prog X.w es o ds ep rs:=by
 obtain ⟨⟨z,y,h1,xs,r,ds,ep,h2,h3,h4,h5⟩,_,_⟩:=(show ObjOk X.prog X.w H s.heap a (dO X.prog X.w a es o) from I.hok a _ ob)
 exact ⟨h1,y,z,ds,ep,xs,r,h2.1,h3,h4⟩
end
section
variable {X:Cx} {o:Expr} {td:TE} {apos cpos:Pos}
theorem zwl {prog:Program} {w:World} {A:Around} {E:Value→Shared→Prop} {s:Shared} {d:Addr} {Q:Value→Shared→Prop} (hT:s.TypeIs (.ref d) "dict") (hd:(d == sysModules)=false) (h:Q (.ref s.heap.objs.size) { s with heap:=s.heap.push { cls := .type "dict_items",data := .fields #[.ref d] } }) :
  wpAny (model prog w) A (call (.builtin "dict.items") [.ref d]) Q E s:=by
 refine wpAny_call_entry F.slot_dict_items hT F.entry_dict_items ?_ (F.args_dict_items_1 _)
 unfold Builtin.«dict.items» Builtin.Dict.noArgs Builtin.Dict.showsAll Builtin.Dict.nameIsSure
 refine wpAny_bind (wpAny_bind (wpAny_notOrdered_dict hT (wpAny_bind (wpAny_of_eq (a:=()) (if_neg (by show ¬ (false || false)=true;decide)) (wpAny_bind (wpAny_pure (wpAny_pure ?_)))))))
 rw [hd]
 refine wpAny_bind (wpAny_of_eq (a:=()) (if_neg Bool.false_ne_true) (wpAny_bind (wpAny_newObj_type (wpAny_pure ⟨_,rfl,h⟩) ?_)))
 simp only [sizeOk,List.size_toArray,List.length_cons,List.length_nil,sizeLine_eq]
 omega
noncomputable def zwz (P:Program) (w:World) (td:TE):TE:=λ σ H Q=>td σ H λ x H1=>∃ a es o,x = .ref a∧H1 a=some (dO P w a es o)∧∀ v,H1 v=none→Q (.ref v) (upd H1 v (zmv v a))
theorem Inv.isDict {pins:List (Addr×Obj)} {σ:St} {H:Hp} {s:Shared} {a:Addr} {es:List Ent} {ob:Obj} (I:Inv X pins σ H s) (h:H a=some (dO X.prog X.w a es ob)):s.TypeIs (.ref a) "dict" ∧ ob.dict=none:=by
 obtain ⟨⟨z,y,h1,xs,r,ds,ep,h2,h3,h4,h5⟩,_,_⟩:=(show ObjOk X.prog X.w H s.heap a (dO X.prog X.w a es ob) from I.hok a _ h)
 exact ⟨⟨_,h1,h2.1⟩,h2.2.1⟩
theorem zzi (ho:PE X o td) (hbase:attributeBase o "items" X.env (eval o X.env)=eval o X.env:=by rfl) (hline:(apos.endLine == cpos.line)=true:=by rfl):PE X (.Call (.Attribute o "items" apos) [] [] cpos) (zwz X.prog X.w td) := .mk <| by
 intro pins s σ H Q I h
 refine wpAny_Call_method0_late hbase hline (thn (ho pins s σ H _ I h) λ v s1 ⟨x,H1,I1,r1,a,es,ob,ex,hob,q1⟩=>?_)
 subst ex
 cases r1
 obtain ⟨hT,hdn⟩:=I1.isDict hob
 obtain ⟨h1,hb,_⟩:=I1.raw hob
 refine ⟨"dict", "dict.items",PySem.F.plainAttrs_dict,PySem.F.slot_dict_items,PySem.F.type_dict_items,hT,λ b e=>?_,Calls.callWith_builtin rfl (PySem.evalArgs_none (zwl hT hb ?_))⟩
 ·cases e
  exact ⟨ob,h1,hdn⟩
 ·have hat:=Heap.get?_push_size s1.heap (o:={ cls := .type "dict_items",data := .fields #[.ref a] }) rfl
  refine ⟨.ref s1.heap.objs.size,_,I1.laid (t':=s1.toks) (λ b u e=>Heap.get?_push_of_some _ e) (Nat.le_refl _) (o:=zmv s1.heap.objs.size a) ⟨⟨_,hat,rfl,rfl⟩,⟨_,hat⟩,?_⟩,rfl,q1 _ (I1.hok.fresh (Nat.le_refl _))⟩
  rintro g1 g2 ⟨vo,v1,v2⟩ k
  exact ⟨vo,k _ v1,v2⟩
end
end L2
namespace L2
open PySem PySem.Spec PyProof.Rows PySem.NumText
noncomputable def mLt (a b:Mark):Bool:=decide (a.1<b.1 ∨ (a.1=b.1∧a.2<b.2))
theorem mLt_sto:STO mLt where
 irr:=λ a=>decide_eq_false (by omega)
 tr:=λ a b c h1 h2=>by
  have h1:=of_decide_eq_true h1
  have h2:=of_decide_eq_true h2
  exact decide_eq_true (by omega)
 tri:=λ a b hn h=>by
  have h:=of_decide_eq_false h
  refine decide_eq_true ?_
  by_cases e1:a.1=b.1
  ·have e2:a.2≠b.2:=λ e2=>hn (Prod.ext e1 e2)
   omega
  ·omega
noncomputable def markD (m:Mark):PyData := .tuple [.int m.1,.int m.2]
theorem zkq (a b:Mark):PyData.eqv (markD a) (markD b)=decide (a=b):=by
 have e:PyData.eqv (markD a) (markD b)=(a.1 == b.1 && (a.2 == b.2 && true)):=rfl
 rw [e,Bool.eq_iff_iff]
 obtain ⟨a1,a2⟩:=a
 obtain ⟨b1,b2⟩:=b
 simp
theorem zfn (a b:Mark):ltD (markD a) (markD b)=some (mLt a b):=by
 show ltDs [.int a.1,.int a.2] [.int b.1,.int b.2]=_
 have i1:∀ x y:Int,PyData.eqv (.int x) (.int y)=(x == y):=λ _ _=>rfl
 have i2:∀ x y:Int,ltD (.int x) (.int y)=some (decide (x<y)):=λ _ _=>rfl
 unfold ltDs
 rw [i1]
 by_cases e1:a.1=b.1
 ·rw [if_pos (by simp [e1])]
  unfold ltDs
  rw [i1]
  by_cases e2:a.2=b.2
  ·rw [if_pos (by simp [e2])]
   unfold ltDs mLt
   simp [e1,e2]
  ·rw [if_neg (by simp [e2]),i2]
   unfold mLt
   simp [e1]
 ·rw [if_neg (by simp [e1]),i2]
  unfold mLt
  simp [e1]
theorem zsg {K:W.Frag} {H:Hp} {q:Addr} {m:Mark} (h:SqT K H q (mkV m)):DV K H (markD m) (.ref q):=⟨q,_,rfl,h,_,_,rfl,rfl,_,_,rfl,rfl,rfl⟩
theorem zed {K:W.Frag} {H:Hp} {m:Mark} {v:V} (h:DV K H (markD m) v):∃ q,v = .ref q∧SqT K H q (mkV m):=by
 obtain ⟨q,vs,rfl,h1,v1,r1,rfl,e1,v2,r2,rfl,e2,e3⟩:=h
 cases (show v1 = .int m.1 from e1)
 cases (show v2 = .int m.2 from e2)
 cases (show r2=[] from e3)
 exact ⟨q,rfl,h1⟩
noncomputable def zcl (val:Mark→PyData) (m:Mark):PyData := .tuple [markD m,val m]
theorem znm {es:List Ent} {val:Mark→PyData} (hsh:∀ e∈es,SeqAt.shaped (zcl val e.1)=true) (nd:(es.map (·.1)).Nodup) (few:es.length<64):Srt (es.map (·.1)) (λ m=>[markD m,val m]) mLt .tup where
 sto:=mLt_sto
 few:=by rw [List.length_map];exact few
 nd:=nd
 lts:=by
  intro a ha b hb
  show (if PyData.eqv (markD a) (markD b)=true then ltDs [val a] [val b] else ltD (markD a) (markD b))=_
  rw [zkq]
  by_cases e:a=b
  ·subst e
   rw [if_pos (decide_eq_true rfl),mLt_sto.irr]
   obtain ⟨e0,he0,rfl⟩:=List.mem_map.mp ha
   have h1:=hsh e0 he0
   unfold SeqAt.shaped at h1
   have h2:PyData.canLay0 (zcl val e0.1)=true:=by
    rw [Bool.and_eq_true] at h1
    exact h1.1
   have h3:PyData.eqvAll [markD e0.1,val e0.1] [markD e0.1,val e0.1]=true:=SeqAt.eqvAll_refl _ h2
   have h4:PyData.eqv (val e0.1) (val e0.1)=true:=by
    have h3:(PyData.eqv (markD e0.1) (markD e0.1) && (PyData.eqv (val e0.1) (val e0.1) && true))=true:=h3
    rw [Bool.and_eq_true,Bool.and_eq_true] at h3
    exact h3.2.1
   show (if PyData.eqv (val e0.1) (val e0.1)=true then ltDs [] [] else _)=_
   rw [if_pos h4]
   unfold ltDs
   rfl
  ·rw [if_neg (by rw [decide_eq_false e];exact Bool.false_ne_true)]
   exact zfn a b
 fst:=λ a _=>⟨_,_,rfl,⟨_,rfl⟩⟩
 shp:=by
  intro a ha
  obtain ⟨e0,he0,rfl⟩:=List.mem_map.mp ha
  exact hsh e0 he0
noncomputable def zo0 (K:W.Frag) (H:Hp) (es:List Ent) (val:Mark→PyData) (Q:VK):Prop:=∀ (H':Hp) (l:Addr) (bs:List Mark) (ws:List V),Same H H'→(Plain H→Plain H')→H' l=none→bs.Perm (es.map (·.1))→bs.Pairwise (λ a b=>mLt a b=true)→DVs K H' (bs.map (zcl val)) ws→Q (.ref l) (upd H' l (.lst ws))
theorem Plain.layT {H:Hp} (p:Plain H):∀ (ts:List (Addr×List V)),Plain (layT H ts)
 | []=>p
 | t::ts=>(Plain.layT p ts).tup
section
variable {X:Cx}
noncomputable def zn1 (P:Program) (w:World) (K:W.Frag):List V→Hp→VK→Prop:=λ xs H Q=>∃ (v a:Addr) (es:List Ent) (o:Obj) (val:Mark→PyData),xs=[.ref v]∧H v=some (zmv v a)∧H a=some (dO P w a es o)∧(∀ e∈es,SqT K H e.2.1 (mkV e.1))∧(∀ e∈es,DV K H (val e.1) e.2.2) ∧
 (∀ e∈es,SeqAt.shaped (zcl val e.1)=true)∧(es.map (·.1)).Nodup∧es.length<64∧zo0 K H es val Q
theorem zcf (hc:X.calm=true) (hu:X.A.units+100<cLine):zvg X (.builtin "sorted") (zn1 X.prog X.w X.K):=by
 intro pins s σ H xs us Q I r h
 obtain ⟨v,a,es,o,val,rfl,hv,ha,hk,hd,hsh,nd,few,q⟩:=h
 obtain ⟨u,rfl,ru⟩:=zzm r
 cases ru
 obtain ⟨hview,_,_⟩:=I.hok v _ hv
 obtain ⟨h1,_,_,ds,ep,rs,RR⟩:=I.raw ha
 refine zbc (zlh (I.ok.hd hc) hview ⟨o,h1,RR.cl,RR.dat⟩ (by rw [RR.size,sizeLine_eq];omega) λ h' tk as kp hal hG=>?_)
 rw [RR.size] at hal
 have hts:∀ t∈List.zipWith (λ a (e:Ent)=>(a,[V.ref e.2.1,e.2.2])) as es,s.heap.objs.size≤t.1∧ObjOk X.prog X.w H h' t.1 (.tup t.2):=by
  intro t ht
  obtain ⟨j,hj⟩:=List.getElem?_of_mem ht
  rw [List.getElem?_zipWith] at hj
  cases ea:as[j]? with
  | none=>rw [ea] at hj;cases hj
  | some aj =>
   cases ee:es[j]? with
   | none=>rw [ea,ee] at hj;cases hj
   | some e =>
    rw [ea,ee] at hj
    cases hj
    obtain ⟨q1,u,q2,q3⟩:=hG.at_ j aj ea
    obtain ⟨u',x,q4,q5,q6,q7⟩:=RR.at_ ee
    rw [q4] at q2
    cases q2
    refine ⟨q1,by show 2≤sizeLine;decide,[.ref e.2.1,x],.cons rfl (.cons q7 .nil),⟨_,q3,rfl,0,?_⟩⟩
    rw [q5,q6]
    rfl
 have I1:=I.laidAll (t':=tk) kp hts
 have sm:Same H (layT H (List.zipWith (λ a (e:Ent)=>(a,[V.ref e.2.1,e.2.2])) as es)):=λ b z e=>by
  rw [zqc λ t ht=>Nat.ne_of_lt (Nat.lt_of_lt_of_le (I.hok.lt e) (hts t ht).1)];exact e
 have hnd:((List.zipWith (λ a (e:Ent)=>(a,[V.ref e.2.1,e.2.2])) as es).map (·.1)).Nodup:=by
  have:(List.zipWith (λ a (e:Ent)=>(a,[V.ref e.2.1,e.2.2])) as es).map (·.1)=as:=by
   rw [List.map_zipWith]
   exact List.ext_getElem? λ j=>by
    rw [List.getElem?_zipWith]
    cases ea:as[j]? with
    | none=>rfl
    | some aj =>
     cases ee:es[j]? with
     | none =>
      have h1:=(List.getElem?_eq_some_iff.mp ea).1
      have h2:=List.getElem?_eq_none_iff.mp ee
      omega
     | some e=>rfl
  rw [this]
  exact hG.nd
 have dvs:DVs X.K (layT H (List.zipWith (λ a (e:Ent)=>(a,[V.ref e.2.1,e.2.2])) as es)) ((es.map (·.1)).map (zcl val)) (as.map V.ref):=by
  have gen:∀ (as':List Addr) (es':List Ent),as'.length=es'.length→(∀ (j:Nat) aj e,as'[j]? = some aj→es'[j]? = some e→(aj,[V.ref e.2.1,e.2.2])∈List.zipWith (λ a (e:Ent)=>(a,[V.ref e.2.1,e.2.2])) as es∧e∈es)→DVs X.K (layT H (List.zipWith (λ a (e:Ent)=>(a,[V.ref e.2.1,e.2.2])) as es)) ((es'.map (·.1)).map (zcl val)) (as'.map V.ref):=by
   intro as'
   induction as' with
   | nil =>
    intro es' hl hm
    cases es' with
    | nil=>rfl
    | cons e es'=>cases hl
   | cons a1 as' ih =>
    intro es' hl hm
    cases es' with
    | nil=>cases hl
    | cons e es' =>
     obtain ⟨m1,m2⟩:=hm 0 a1 e rfl rfl
     refine ⟨_,_,rfl,⟨a1,_,rfl,SqT.of (zvm hnd m1),_,_,rfl,zsg (sm.seqT (hk e m2)),_,_,rfl,DV.same sm _ _ (hd e m2),rfl⟩,ih es' (by simpa using hl) λ j aj e h1 h2=>hm (j+1) aj e (by simpa using h1) (by simpa using h2)⟩
  refine gen as es hal λ j aj e h1 h2=>⟨List.mem_of_getElem? (i:=j) ?_,List.mem_of_getElem? h2⟩
  rw [List.getElem?_zipWith,h1,h2]
 have vals:Vals (as.map V.ref) (as.map Value.ref):=by
  clear hts I1 sm hnd dvs hal hG
  induction as with
  | nil=>exact .nil
  | cons a as ih=>exact .cons rfl ih
 exact zck (s:=s) (α:=Mark) (enc:=λ m=>[markD m,val m]) (lt:=mLt) hu (znm hsh nd few) I1 vals dvs λ l bs ws hl pm pw hw=>q _ l bs ws sm (λ p=>Plain.layT p _) hl pm pw hw
theorem zuk:zvg X (.builtin "len") (λ xs H Q=>∃ a es o,xs=[.ref a]∧H a=some (dO X.prog X.w a es o)∧Q (.int es.length) H):=by
 intro pins s σ H xs us Q I r h
 obtain ⟨a,es,o,rfl,ha,q⟩:=h
 obtain ⟨u,rfl,ru⟩:=zzm r
 cases ru
 obtain ⟨hT,_⟩:=I.isDict ha
 obtain ⟨h1,hb,hz,ds,ep,rs,RR⟩:=I.raw ha
 have hz':es.length≤16777216:=by rw [← sizeLine_eq];exact hz
 refine PyProof.Rows.call_len_slot (n:=(es.length:Int)) hT F.slot_dict_len (λ Q' q'=>?_) (by omega) (by omega) ⟨.int es.length,H,I.tok _,⟨_,rfl⟩,q⟩
 refine wpAny_call_entry F.slot_dict_len hT F.entry_dict_len ?_ (F.args_dict_len_1 _)
 unfold Builtin.«dict.__len__» Builtin.Dict.dictSlotNone
 unfold Builtin.Dict.pendingCount dictSize retInt
 refine wpAny_bind (wpAny_bind (wpAny_notOrdered_dict hT (wpAny_bind (wpAny_pure (wpAny_pure (wpAny_bind (wpAny_pure (wpAny_bind (wpAny_bind (wpAny_dictEntries h1 RR.dat (wpAny_pure ?_)))))))))))
 refine wpAny_bind (wpAny_of_eq (a:=0) (if_neg (by rw [hb];exact Bool.false_ne_true)) (wpAny_bind (wpAny_mkInt (wpAny_pure ⟨_,rfl,?_⟩))))
 rw [RR.size,show ((es.length:Nat):Int)+((0:Nat):Int)=(es.length:Int) by omega]
 exact q'
end
end L2
namespace L2
open PySem PySem.Spec PyProof.Rows PySem.NumText
noncomputable abbrev Sh:=List (Mark×Ver)
noncomputable def prD (m:Mark×Ver):PyData := .tuple [markD m.1,ver m.2]
noncomputable def look:Sh→Mark→Option Ver
 | [],_=>none
 | m::ms,k=>if m.1=k then some m.2 else look ms k
noncomputable def EnS (K:W.Frag) (H:Hp):List Ent→Sh→Prop:=Paired λ (e:Ent) (m:Mark×Ver)=>e.1=m.1∧SqT K H e.2.1 (mkV m.1)∧DV K H (ver m.2) e.2.2
structure ShAt (P:Program) (w:World) (K:W.Frag) (C:Addr) (H:Hp) (p:Addr) (ms:Sh):Prop where
 ex:∃ dx d es o,H p=some (.ins C dx [("versions",.ref d)])∧H d=some (dO P w d es o)∧EnS K H es ms
 nd:(ms.map (·.1)).Nodup
 ok:∀ m∈ms,okV m.2
 few:ms.length<64
theorem EnS.imp {K:W.Frag} {H H':Hp} {es:List Ent} {ms:Sh} (h:EnS K H es ms) (f:∀ (q:Addr) m,SqT K H q (mkV m)→SqT K H' q (mkV m)) (g:∀ v x,DV K H (ver v) x→DV K H' (ver v) x):EnS K H' es ms :=
 Paired.mapP h λ e m ⟨h1,h2,h3⟩=>⟨h1,f _ _ h2,g _ _ h3⟩
theorem ShAt.same {P:Program} {w:World} {K:W.Frag} {C:Addr} {H H':Hp} {p:Addr} {ms:Sh} (h:ShAt P w K C H p ms) (s:Same H H'):ShAt P w K C H' p ms:=by
 obtain ⟨dx,d,es,o,h1,h2,h3⟩:=h.ex
 exact ⟨⟨dx,d,es,o,s _ _ h1,s _ _ h2,h3.imp (λ _ _ q=>s.seqT q) λ _ _ q=>DV.same s _ _ q⟩,h.nd,h.ok,h.few⟩
theorem zco (v:Ver):noL (ver v)=true:=zgc (some v)
theorem zgg {K:W.Frag} {H:Hp}:∀ {es:List Ent} {ms:Sh},EnS K H es ms→∀ m,DV K H (vdat (look ms m)) ((zab es m).getD .non)
 | _,_,.nil,m=>rfl
 | e::es,n::ms,.cons a b,m=>by
  unfold zab look
  by_cases h:e.1=m
  ·rw [if_pos h,if_pos (a.1 ▸ h)]
   exact a.2.2
  ·rw [if_neg h,if_neg (a.1 ▸ h)]
   exact zgg b m
theorem zic {ms:Sh} (nd:(ms.map (·.1)).Nodup):∀ {m:Mark×Ver},m∈ms→look ms m.1=some m.2:=by
 induction ms with
 | nil=>intro m h;cases h
 | cons a ms ih =>
  intro m h
  have hn:=List.nodup_cons.mp nd
  unfold look
  rcases List.mem_cons.mp h with rfl | h
  ·rw [if_pos rfl]
  ·rw [if_neg (λ z=>hn.1 (by show a.1∈_;rw [z];exact List.mem_map_of_mem (f:=(·.1)) h))]
   exact ih hn.2 h
theorem znc:∀ {es:List Ent} {m:Mark},m∉es.map (·.1)→zab es m=none
 | [],_,_=>rfl
 | e::es,m,h=>by
  unfold zab
  rw [if_neg (λ z=>h (by rw [← z];exact List.mem_cons_self))]
  exact znc λ z=>h (List.mem_cons_of_mem _ z)
theorem zrb:∀ {es:List Ent} {m:Mark},m∈es.map (·.1)→(zab es m).isSome=true
 | e::es,m,h=>by
  unfold zab
  by_cases z:e.1=m
  ·rw [if_pos z];rfl
  ·rw [if_neg z]
   rcases List.mem_cons.mp h with q | q
   ·exact absurd q.symm z
   ·exact zrb q
theorem zxg:∀ (ps:List Ent) (es:List Ent),((es++ps).map (·.1)).Nodup→zvb es ps=es++ps
 | [],es,_=>by rw [List.append_nil];rfl
 | p::ps,es,h=>by
  have hm:p.1∉es.map (·.1):=by
   rw [List.map_append,List.map_cons] at h
   intro z
   exact (List.nodup_append.mp h).2.2 _ z _ List.mem_cons_self rfl
  show zvb (putM es p.1 p.2.1 p.2.2) ps=es++p::ps
  have e:putM es p.1 p.2.1 p.2.2=es++[p]:=by
   unfold putM
   rw [znc hm]
   rfl
  rw [e,zxg ps (es++[p]) (by rw [List.append_assoc];exact h),List.append_assoc]
  rfl
theorem zyg (es:List Ent) (m:Mark) (q:Addr) (v:V):(putM es m q v).map (·.1)=if (zab es m).isSome then es.map (·.1) else es.map (·.1)++[m]:=by
 unfold putM
 by_cases h:(zab es m).isSome=true
 ·rw [if_pos h,if_pos h,List.map_map]
  refine List.map_congr_left λ e _=>?_
  show (if e.1=m then (e.1,e.2.1,v) else e).1=e.1
  split <;> rfl
 ·rw [if_neg h,if_neg h,List.map_append]
  rfl
theorem zvf:∀ (ps:List Ent) (es:List Ent),(es.map (·.1)).Nodup→¬ ((es++ps).map (·.1)).Nodup→(zvb es ps).length<es.length+ps.length
 | [],es,h1,h2=>absurd (by rw [List.append_nil];exact h1) h2
 | p::ps,es,h1,h2=>by
  show (zvb (putM es p.1 p.2.1 p.2.2) ps).length<es.length+(ps.length+1)
  by_cases hm:p.1∈es.map (·.1)
  ·have hl:(putM es p.1 p.2.1 p.2.2).length=es.length:=by
    unfold putM
    rw [if_pos (zrb hm),List.length_map]
   have:=zne ps (putM es p.1 p.2.1 p.2.2)
   omega
  ·have e:putM es p.1 p.2.1 p.2.2=es++[p]:=by
    unfold putM
    rw [znc hm]
    rfl
   rw [e]
   have:=zvf ps (es++[p]) (by
    rw [List.map_append]
    exact List.nodup_append.mpr ⟨h1,List.nodup_cons.mpr ⟨by simp,List.nodup_nil⟩,λ x hx y hy z=>hm ((show x=p.1 from z.trans (List.mem_singleton.mp hy)) ▸ hx)⟩) (by rw [List.append_assoc];exact h2)
   rw [List.length_append,List.length_cons,List.length_nil] at this
   omega
theorem zrn {K:W.Frag} {H:Hp}:∀ {ms:Sh} {vs:List V},DVs K H (ms.map prD) vs→∃ ps:List Ent,zpt K H ps vs∧EnS K H ps ms
 | [],vs,h=>by cases (show vs=[] from h);exact ⟨[],.nil,.nil⟩
 | m::ms,vs,h=>by
  obtain ⟨v,r,rfl,hv,hr⟩:=h
  obtain ⟨ps,h1,h2⟩:=zrn hr
  obtain ⟨t,xs,rfl,ht,x1,r1,rfl,e1,x2,r2,rfl,e2,e3⟩:=hv
  cases (show r2=[] from e3)
  obtain ⟨q,rfl,hq⟩:=zed e1
  exact ⟨(m.1,q,x2)::ps,.cons ⟨t,rfl,ht,hq⟩ h1,.cons ⟨rfl,hq,e2⟩ h2⟩
theorem zwa {K:W.Frag} {H:Hp}:∀ {es:List Ent} {ms:Sh},EnS K H es ms→es.map (·.1)=ms.map (·.1)
 | _,_,.nil=>rfl
 | _,_,.cons a b=>by rw [List.map_cons,List.map_cons,a.1,zwa b]
theorem zza {K:W.Frag} {H:Hp}:∀ {es:List Ent} {ms:Sh},EnS K H es ms→∀ e∈es,SqT K H e.2.1 (mkV e.1)∧∃ v,(e.1,v)∈ms∧DV K H (ver v) e.2.2
 | _,_,.nil,e,h=>nomatch h
 | _,m::_,.cons a b,e,h=>by
  rcases List.mem_cons.mp h with rfl | h
  ·exact ⟨by rw [a.1];exact a.2.1,m.2,by rw [a.1];exact List.mem_cons_self,a.2.2⟩
  ·obtain ⟨h1,v,h2,h3⟩:=zza b e h
   exact ⟨h1,v,List.mem_cons_of_mem _ h2,h3⟩
theorem zgf {m:Mark×Ver} (h:okV m.2):SeqAt.shaped (prD m)=true:=by
 unfold SeqAt.shaped
 have h1:PyData.canLay0 (prD m)=true:=by
  show ((true && (true && true)) && ((true && (PyData.canLay0 (plc m.2.2.1) && (PyData.strOk m.2.2.2 && true))) && true))=true
  rw [zto,show PyData.strOk m.2.2.2=true from h]
  rfl
 rw [h1,Bool.true_and]
 refine decide_eq_true ?_
 have h2:PyData.depth (prD m)=max 1 (max (max 0 (max (PyData.depthAll (m.2.2.1.map stp)+1) (max 0 0))+1) 0)+1:=rfl
 have:=zlc m.2.2.1
 rw [h2]
 omega
noncomputable def toSh (ms:Sh) (bs:List Mark):Sh:=bs.map λ m=>(m,(look ms m).getD (0,[], ""))
theorem zrg {ms:Sh} (nd:(ms.map (·.1)).Nodup):toSh ms (ms.map (·.1))=ms:=by
 unfold toSh
 rw [List.map_map]
 have:∀ m∈ms,((λ m=>(m,(look ms m).getD (0,[], ""))) ∘ (·.1)) m=m:=λ m hm=>by
  show (m.1,(look ms m.1).getD (0,[], ""))=m
  rw [zic nd hm]
  rfl
 conv=>rhs;rw [← List.map_id ms]
 exact List.map_congr_left this
theorem zge {ms:Sh} (nd:(ms.map (·.1)).Nodup) {bs:List Mark} (h:bs.Perm (ms.map (·.1))):(toSh ms bs).Perm ms:=by
 have:=h.map (λ m=>(m,(look ms m).getD (0,[], "")))
 rw [show (ms.map (·.1)).map (λ m=>(m,(look ms m).getD (0,[], "")))=ms from zrg nd] at this
 exact this
theorem zmg {ms:Sh} (nd:(ms.map (·.1)).Nodup) {bs:List Mark} (h:bs.Perm (ms.map (·.1))):bs.map (zcl λ m=>vdat (look ms m))=(toSh ms bs).map prD:=by
 unfold toSh
 rw [List.map_map]
 refine List.map_congr_left λ m hm=>?_
 obtain ⟨x,hx,rfl⟩:=List.mem_map.mp (h.mem_iff.mp hm)
 show zcl (λ m=>vdat (look ms m)) x.1=prD (x.1,(look ms x.1).getD (0,[], ""))
 show PyData.tuple [markD x.1,vdat (look ms x.1)]=_
 rw [zic nd hx]
 rfl
theorem zzk {ms:Sh} {bs:List Mark} (h:bs.Pairwise λ a b=>mLt a b=true):(toSh ms bs).Pairwise λ a b=>mLt a.1 b.1=true:=List.pairwise_map.mpr h
end L2
namespace L2
open PySem PySem.Spec PyProof.Rows PySem.NumText
theorem zsh {K:W.Frag} {H:Hp} {α:Type} {f:α→PyData}:∀ {xs:List α} {ys:List V},Paired (λ x y=>DV K H (f x) y) xs ys→DVs K H (xs.map f) ys
 | _,_,.nil=>rfl
 | _,_,.cons a b=>⟨_,_,rfl,a,zsh b⟩
end L2
namespace L2
open PySem PySem.Spec PyProof.Rows PySem.NumText
section
variable {X:Cx}
theorem zml:zvg X (.builtin "isinstance") (λ xs H Q=>∃ a ys,xs=[.ref a,.ty "list"]∧SqL X.K H a ys∧Q (.bl true) H):=by
 intro pins s σ H xs us Q I rv h
 obtain ⟨a,ys,rfl,hq,q⟩:=h
 obtain ⟨u,v,rfl,ru,rv'⟩:=rv.two
 cases ru
 cases rv'
 obtain ⟨its,_,pl,_⟩:=I.list hq
 exact IsiPair.isList_list pl.isList (λ _ _ e=>e) ⟨.bl true,H,I,rfl,q⟩
theorem zkw {α β:Type} {f:α→Option β} {g:α→β}:∀ {l:List α},(∀ x∈l,f x=some (g x))→l.filterMap f=l.map g
 | [],_=>rfl
 | x::l,h=>by
  rw [List.filterMap_cons,h x List.mem_cons_self,List.map_cons,zkw λ y hy=>h y (List.mem_cons_of_mem _ hy)]
end
noncomputable def zrt (o:HO):Prop:=(∀ xs,o ≠ .tup xs)∧∀ ob u,o ≠ .frz ob u
theorem zqb {K:W.Frag} {H:Hp} {p:Addr} {o o':HO} {a:Addr} {xs:List V} (hp:H p=some o) (n:zrt o) (h:SqT K H a xs):SqT K (upd H p o') a xs:=by
 rcases h with (h | ⟨ob,h⟩) | h
 ·exact .inl (.inl (by rw [zga (zcp h hp λ z=>n.1 _ z.symm)];exact h))
 ·exact .inl (.inr ⟨ob,by rw [zga (zcp h hp λ z=>n.2 _ _ z.symm)];exact h⟩)
 ·exact .inr h
mutual
theorem zle {K:W.Frag} {H:Hp} {p:Addr} {o o':HO} (hp:H p=some o) (n:zrt o):∀ (d:PyData) (v:V),noL d=true→DV K H d v→DV K (upd H p o') d v
 | .none,v,_,h=>h
 | .bool b,v,_,h=>h
 | .int i,v,_,h=>h
 | .str x,v,_,h=>h
 | .list xs,v,n',_=>by cases n'
 | .tuple xs,v,n',⟨a,vs,h1,h2,h3⟩=>⟨a,vs,h1,zqb hp n h2,zhe hp n xs vs n' h3⟩
 | .dict _,v,_,h=>h.elim
theorem zhe {K:W.Frag} {H:Hp} {p:Addr} {o o':HO} (hp:H p=some o) (n:zrt o):∀ (ds:List PyData) (vs:List V),noLs ds=true→DVs K H ds vs→DVs K (upd H p o') ds vs
 | [],vs,_,h=>h
 | d::ds,vs,n',⟨v,r,h1,h2,h3⟩=>by
  have n':noL d=true∧noLs ds=true:=by rw [noLs,Bool.and_eq_true] at n';exact n'
  exact ⟨v,r,h1,zle hp n d v n'.1 h2,zhe hp n ds r n'.2 h3⟩
end
theorem zyr (xs:List V):zrt (.lst xs):=⟨λ _ z=>(by cases z),λ _ _ z=>(by cases z)⟩
theorem zde (φ:Heap→Prop):zrt (.ext φ):=⟨λ _ z=>(by cases z),λ _ _ z=>(by cases z)⟩
theorem zud:∀ ms:Sh,noLs (ms.map prD)=true
 | []=>rfl
 | m::ms=>by
  show (noL (prD m) && noLs (ms.map prD))=true
  rw [zud ms,show noL (prD m)=true by show (noL (markD m.1) && (noL (ver m.2) && true))=true;rw [zco];rfl]
  rfl
end L2
namespace L2
open PySem PySem.Spec PyProof.Rows PySem.NumText
noncomputable def Rc (mask:Nat) (o:Array (Option Nat)) (h:Int) (j:Nat):Prop:=∃ N,(path (tm mask) N ((tm mask).probeStart h)).j=j∧∀ i,i<N→own o (path (tm mask) i ((tm mask).probeStart h)).j≠none
theorem zzr {o:Array (Option Nat)} {j k x:Nat} (hj:j<o.size):own (o.setIfInBounds j (some k)) x=if x=j then some k else own o x:=by
 show (o.setIfInBounds j (some k)).getD x none=_
 rw [Array.getD_eq_getD_getElem?]
 by_cases h:x=j
 ·subst h
  rw [if_pos rfl,Array.getElem?_setIfInBounds_self_of_lt hj]
  rfl
 ·rw [if_neg h,Array.getElem?_setIfInBounds_ne (λ e=>h e.symm)]
  show _=o.getD x none
  rw [Array.getD_eq_getD_getElem?]
theorem zqp {mask:Nat} (c:ztc (mask+1)=true):∀ (hs:List Int) (pre:List Int) (o:Array (Option Nat)) (n:Nat),o.size=mask+1→((zmf (mask+1) o).map (·.2)).Perm (List.range n)→n+hs.length≤mask→pre.length=n→(∀ j k,own o j=some k→∃ h,pre[k]? = some h∧Rc mask o h j) →
  ∃ o',hs.foldl (λ (acc:Option (Array (Option Nat)×Nat)) h=>do
   let (owner,k) ← acc
   let j ← SetTable.layClean.free mask owner (SetTable.turns mask) (SetTable.bits h % (mask+1)) (SetTable.bits h)
   pure (owner.setIfInBounds j (some k),k+1)) (some (o,n))=some (o',n+hs.length)∧o'.size=mask+1∧((zmf (mask+1) o').map (·.2)).Perm (List.range (n+hs.length))∧(∀ j k,own o' j=some k→∃ h,(pre++hs)[k]? = some h∧Rc mask o' h j):=by
 intro hs
 induction hs with
 | nil=>intro pre o n h1 h2 _ _ h5;exact ⟨o,rfl,h1,h2,by rw [List.append_nil];exact h5⟩
 | cons h hs ih =>
  intro pre o n h1 h2 h3 h4 h5
  rw [List.length_cons] at h3
  obtain ⟨j0,hj0,he0⟩:=zdq h2 (by omega)
  have hb:SetTable.bits h<2 ^ 64:=by
   unfold SetTable.bits
   have:=Int.emod_nonneg h (show (2 ^ 64:Int)≠0 by decide)
   have:=Int.emod_lt_of_pos h (show (0:Int)<2 ^ 64 by decide)
   omega
  obtain ⟨k,hk,e⟩:=zfi c (Nat.mod_lt (SetTable.bits h) (Nat.succ_pos mask)) hb hj0
  obtain ⟨j,ej,hj,hje⟩:=zmq h1 hj0 he0 k (SetTable.turns mask) _ _ (by unfold SetTable.turns;omega) (Nat.mod_lt (SetTable.bits h) (Nat.succ_pos mask)) e
  obtain ⟨N,n1,n2⟩:=zhr h1 _ _ _ j ((tm mask).probeStart h) (Nat.mod_lt (SetTable.bits h) (Nat.succ_pos mask)) rfl rfl rfl rfl ej
  have hp:=zvp (k:=n) h1 hj hje
  have grow:∀ x,own o x≠none→own (o.setIfInBounds j (some n)) x≠none:=λ x hx=>by
   rw [zzr (by omega)]
   by_cases hxj:x=j
   ·rw [if_pos hxj];exact λ z=>by cases z
   ·rw [if_neg hxj];exact hx
  obtain ⟨o',e1,e2,e3,e4⟩:=ih (pre++[h]) (o.setIfInBounds j (some n)) (n+1) (by rw [Array.size_setIfInBounds];exact h1) (by
   refine (hp.map _).trans ?_
   rw [List.map_cons,List.range_succ]
   exact ((List.Perm.cons n h2).trans (List.perm_append_singleton n (List.range n)).symm)) (by omega) (by rw [List.length_append,List.length_singleton,h4]) (λ x k hx=>by
   rw [zzr (by omega)] at hx
   by_cases hxj:x=j
   ·rw [if_pos hxj] at hx
    cases hx
    exact ⟨h,by rw [← h4,List.getElem?_concat_length],N,by rw [hxj];exact n1,λ i hi=>grow _ (n2 i hi)⟩
   ·rw [if_neg hxj] at hx
    obtain ⟨h',q1,M,q2,q3⟩:=h5 x k hx
    have hkl:=(List.getElem?_eq_some_iff.mp q1).1
    exact ⟨h',by rw [List.getElem?_append_left hkl];exact q1,M,q2,λ i hi=>grow _ (q3 i hi)⟩)
  refine ⟨o',?_,e2,by rw [List.length_cons,show n+(hs.length+1)=n+1+hs.length by omega];exact e3,by rw [show pre++h::hs=pre++[h]++hs by simp];exact e4⟩
  rw [List.foldl_cons,List.length_cons,show n+(hs.length+1)=n+1+hs.length by omega,← e1]
  congr 1
  show (SetTable.layClean.free mask o (SetTable.turns mask) (SetTable.bits h % (mask+1)) (SetTable.bits h)).bind _=_
  rw [ej]
  rfl
theorem zvl {mask:Nat} (c:ztc (mask+1)=true) (hs:Array Int) (h:hs.size≤mask):∃ o,SetTable.layClean mask hs=some o∧o.size=mask+1∧((zmf (mask+1) o).map (·.2)).Perm (List.range hs.size)∧(∀ j k,own o j=some k→∃ h,hs[k]? = some h∧Rc mask o h j):=by
 have hn:∀ j,own (Array.replicate (mask+1) none) j=none:=λ j=>by
  show (Array.replicate (mask+1) (none:Option Nat)).getD j none=none
  rw [Array.getD_eq_getD_getElem?,Array.getElem?_replicate]
  split <;> rfl
 have h0:zmf (mask+1) (Array.replicate (mask+1) none)=[]:=by
  unfold zmf
  refine List.filterMap_eq_nil_iff.mpr λ j hj=>?_
  rw [hn]
  rfl
 obtain ⟨o,e1,e2,e3,e4⟩:=zqp c hs.toList [] (Array.replicate (mask+1) none) 0 (by simp) (by rw [h0];exact .nil) (by simpa using h) rfl (λ j k e=>by rw [hn] at e;cases e)
 refine ⟨o,?_,e2,by simpa using e3,λ j k e=>?_⟩
 ·unfold SetTable.layClean
  rw [← Array.foldl_toList]
  exact congrArg (Option.map (·.1)) e1
 ·obtain ⟨h',q1,q2⟩:=e4 j k e
  exact ⟨h',by rw [List.nil_append,Array.getElem?_toList] at q1;exact q1,q2⟩
theorem zik (M:Nat) (o:Array (Option Nat)):(zmf M o).map (·.1)=(List.range M).filter λ j=>(own o j).isSome:=by
 unfold zmf
 induction List.range M with
 | nil=>rfl
 | cons j l ih =>
  cases e:own o j with
  | none=>rw [List.filterMap_cons_none (by rw [e];rfl),List.filter_cons_of_neg (by rw [e];decide)];exact ih
  | some k=>rw [List.filterMap_cons_some (by rw [e];rfl),List.map_cons,List.filter_cons_of_pos (by rw [e];rfl),ih]
theorem zmr {M:Nat} {o:Array (Option Nat)} {j k:Nat} (h:(j,k)∈zmf M o):own o j=some k:=by
 obtain ⟨x,_,hx⟩:=List.mem_filterMap.mp h
 cases e:own o x with
 | none=>rw [e] at hx;cases hx
 | some v=>rw [e] at hx;cases hx;exact e
theorem zgv {mask finger moves:Nat} {led plain:Bool} (c:ztc (mask+1)=true) (es:Array (Int×Value)) (h:es.size≤mask):∃ pl order,SetTable.laid mask finger moves led plain (es.map (·.1))=some ({ mask,place:=pl,dummies := #[],finger,led,moves,plain },order)∧pl.size=es.size∧(order.filterMap (es[·]?)).toList.Perm es.toList∧∀ t:ST,t.mask=mask→t.place=pl→Wp t (order.filterMap (es[·]?)):=by
 obtain ⟨o,e1,e2,e3,e4⟩:=zvl c (es.map (·.1)) (by simpa using h)
 have e3:((zmf (mask+1) o).map (·.2)).Perm (List.range es.size):=by simpa using e3
 refine ⟨((zmf (mask+1) o).map (·.1)).toArray,((zmf (mask+1) o).map (·.2)).toArray,?_,?_,?_,λ t hm hp=>?_⟩
 ·unfold SetTable.laid
  rw [e1]
  rfl
 ·have:=e3.length_eq
  rw [List.length_map,List.length_range] at this
  simpa using this
 ·rw [Array.toList_filterMap]
  refine (e3.filterMap _).trans ?_
  have:(List.range es.size).filterMap (λ x=>es[x]?)=es.toList:=by
   have go:∀ (l:List (Int×Value)),(List.range l.length).filterMap (λ x=>l[x]?)=l:=by
    intro l
    induction l with
    | nil=>rfl
    | cons a l ih =>
     rw [List.length_cons,List.range_succ_eq_map,List.filterMap_cons]
     show a::List.filterMap _ (List.map Nat.succ (List.range l.length))=a::l
     rw [List.filterMap_map]
     exact congrArg (a :: ·) ih
   have:=go es.toList
   simpa using this
  rw [this]
 ·have hk:∀ p∈zmf (mask+1) o,p.2<es.size:=λ p hp'=>List.mem_range.mp (e3.mem_iff.mp (List.mem_map_of_mem hp'))
  have hes:(((zmf (mask+1) o).map (·.2)).toArray.filterMap (es[·]?)).toList=(zmf (mask+1) o).map λ p=>es.getD p.2 (0,.none):=by
   rw [Array.toList_filterMap,List.filterMap_map]
   refine zkw λ p hp'=>?_
   show es[p.2]? = some (es.getD p.2 (0,.none))
   rw [Array.getD_eq_getD_getElem?,Array.getElem?_eq_getElem (hk p hp')]
   rfl
  have srt:((zmf (mask+1) o).map (·.1)).Pairwise (· < ·):=by
   rw [zik]
   exact List.Pairwise.filter _ List.pairwise_lt_range
  refine ⟨?_,λ i j e h1 h2=>?_⟩
  ·rw [hp]
   intro a b u v hab ea eb
   rw [List.getElem?_toArray] at ea eb
   obtain ⟨ha,ea⟩:=List.getElem?_eq_some_iff.mp ea
   obtain ⟨hb,eb⟩:=List.getElem?_eq_some_iff.mp eb
   rw [← ea,← eb]
   exact List.pairwise_iff_getElem.mp srt a b ha hb hab
  ·rw [hp,List.getElem?_toArray,List.getElem?_map] at h1
   rw [← Array.getElem?_toList,hes,List.getElem?_map] at h2
   cases hL:(zmf (mask+1) o)[i]? with
   | none=>rw [hL] at h1;cases h1
   | some p =>
    rw [hL] at h1 h2
    cases h1
    cases h2
    have hm':=List.mem_of_getElem? hL
    obtain ⟨h',q1,N,q2,q3⟩:=e4 p.1 p.2 (zmr hm')
    have eh:h'=(es.getD p.2 (0,.none)).1:=by
     rw [Array.getElem?_map,Array.getElem?_eq_getElem (hk p hm')] at q1
     cases q1
     rw [Array.getD_eq_getD_getElem?,Array.getElem?_eq_getElem (hk p hm')]
     rfl
    refine ⟨N,?_,λ k hk'=>?_⟩
    ·rw [zfd (t':=tm mask) hm,zhd (t':=tm mask) hm,← eh];exact q2
    ·rw [zfd (t':=tm mask) hm,zhd (t':=tm mask) hm,← eh]
     have q4:=q3 k hk'
     generalize (path (tm mask) k ((tm mask).probeStart h')).j=x at q4
     have hx:x<mask+1:=by
      refine Classical.byContradiction λ hc=>q4 ?_
      show o.getD x none=none
      rw [Array.getD_eq_getD_getElem?,Array.getElem?_eq_none (by omega)]
      rfl
     have hxm:x∈(zmf (mask+1) o).map (·.1):=by
      rw [zik]
      refine List.mem_filter.mpr ⟨List.mem_range.mpr hx,?_⟩
      cases e:own o x with
      | none=>exact absurd e q4
      | some v=>rfl
     obtain ⟨i',hi'⟩:=List.getElem?_of_mem hxm
     exact ⟨i',by rw [hp,List.getElem?_toArray];exact hi'⟩
section
variable {prog:Program} {w:World} {A:Around} {E:Value→Shared→Prop} {s:Shared}
theorem zql {a:Addr} {o:Obj} {es:Array (Int×Value)} {ep:Nat} {t:ST} {x:Value} {dx:PyData} {h:Int} {Q:SetFound→Shared→Prop} (ho:s.heap.get? a=some o) (hd:o.data = .set es ep t) (hf:t.fits es.size=true) (f:Fit t)
  (hx:El s.heap x dx) (hes:∀ e∈es.toList,∃ d,El s.heap e.2 d∧PyData.eqv d dx=false) (hu:A.units+10<cLine) (b:Bool) (hQ:∀ N,t.slot (path t N (t.probeStart h)).j = .empty→(∀ k,k<N→∃ i:Nat,t.place[i]? = some (path t k (t.probeStart h)).j)→Q (.free (path t N (t.probeStart h)).j false) s):wpAny (model prog w) A (setSearch a x h b) Q E s:=by
 obtain ⟨s9,sp,sd⟩:=zqo t h
 obtain ⟨N,hN,he,hl⟩:=zrf f s9 sp
 have hmask:t.mask≤511:=by rcases f.msk with e | e | e | e <;> omega
 have hN2:N<10 * (511+15):=by
  unfold SetTable.turns at hN
  omega
 have hgw:t.gaveWay=false:=by
  unfold SetTable.gaveWay
  rcases f.msk with e | e | e | e <;> rw [e] <;> rfl
 have hpl:t.place.size=es.size:=by
  unfold SetTable.fits at hf
  rw [Bool.and_eq_true] at hf
  exact eq_of_beq hf.1
 obtain ⟨as,rx⟩:=hx.rd
 have from_:∀ (d m fuel:Nat),d=N - m→m≤N→d<fuel→∀ (stand:Option SetTable.Probe),stand.getD (t.probeStart h)=path t m (t.probeStart h)→wpAny (model prog w) A (setSearchFrom a x h b fuel stand) Q E s:=by
  intro d
  induction d using Nat.strongRecOn with
  | ind d ih =>
   intro m fuel hdm hm hfu stand hst
   cases fuel with
   | zero=>omega
   | succ fuel =>
    unfold setSearchFrom
    refine wpAny_bind (wpAny_setState_of ho hd hf ?_)
    dsimp only
    rw [hgw]
    simp only [Bool.false_eq_true,if_false]
    rw [hst]
    unfold SetTable.probe
    rcases zny (t:=t) (h:=h) sd he hl (N - m) m (10 * SetTable.turns t.mask) rfl hm (by omega) with ⟨k,i,k1,k2,k3,k4,k5⟩ | k5
    ·rw [k5]
     dsimp only
     obtain ⟨i2,hi2,hpi⟩:=hl k k2
     rw [k3] at hi2
     cases hi2
     have hil:i<es.size:=by rw [← hpl];exact (Array.getElem?_eq_some_iff.mp hpi).1
     have hei:es[i]? = some es[i]:=Array.getElem?_eq_getElem hil
     have hmem:es[i]∈es.toList:=by rw [← Array.getElem_toList hil];exact List.getElem_mem _
     obtain ⟨dy,hy,hne⟩:=hes _ hmem
     obtain ⟨bs,ry⟩:=hy.rd
     have go2:wpAny (model prog w) A (do
       let some (_,y):=es[i]? | unsupported "internal:set-entry"
       let equal ← holding [y] (eqBool y x)
       let (es',_,t') ← setState a
       if b && equal then return .there none
       let some same:=t'.sameMemory t.moves t.mask | unsupported "set.changed-during-lookup:is-the-new-block-at-the-old-address"
       let still ← match (if same then t'.slot (path t k (t.probeStart h)).j else .empty) with
        | .live i'=>match es'[i']? with
         | some (_,y')=>do pure (if ← isSame y' y then some i' else none)
         | none=>pure none
        | _=>pure none
       match still with
       | none=>rule "set.search.anew";setSearchFrom a x h b fuel none
       | some i'=>if equal then return .there (some i') else setSearchFrom a x h b fuel (some (path t (k+1) (t.probeStart h)))) Q E s:=by
      rw [hei]
      dsimp only
      refine wpAny_bind (wpAny_holding (SeqAt.eqAt_reads dy dx A s _ _ bs as ry rx (zdd dy hy.oi) (zdd dx hx.oi) (by have:=hy.dp;have:min dy.depth dx.depth≤dy.depth:=Nat.min_le_left _ _;omega) prog w _ _ ?_))
      rw [hne]
      refine wpAny_bind (wpAny_setState_of ho hd hf ?_)
      dsimp only
      simp only [Bool.and_false,Bool.false_eq_true,if_false]
      have hsm:t.sameMemory t.moves t.mask=some true:=by unfold SetTable.sameMemory;rw [if_pos (beq_self_eq_true _)]
      rw [hsm]
      dsimp only
      simp only [if_true]
      rw [k3]
      dsimp only
      rw [hei]
      dsimp only
      obtain ⟨b,hb⟩:=hy.rf
      rw [hb]
      refine wpAny_bind (wpAny_isSame_ref_self (wpAny_bind (wpAny_pure ?_)))
      simp only [if_true]
      exact ih (N - (k+1)) (by omega) (k+1) fuel rfl (by omega) (by omega) (some _) rfl
     cases hled:t.led with
     | true =>
      simp only [Bool.not_true,Bool.false_eq_true,if_false]
      exact go2
     | false =>
      simp only [Bool.not_false,if_true]
      refine wpAny_bind (zms hx _ _ (λ y hy=>?_) ?_)
      ·obtain ⟨e,he1,rfl⟩:=List.mem_map.mp hy
       have he2:e∈es.toList:=by
        have:=Array.mem_toList_iff.mp he1
        exact Array.mem_toList_iff.mpr (Array.mem_filter.mp this).1
       obtain ⟨d',hd',_⟩:=hes e he2
       exact ⟨d',hd'⟩
      ·simp only [Bool.false_eq_true,if_false]
       exact go2
    ·rw [k5]
     dsimp only
     exact wpAny_pure (hQ N he λ k hk=>let ⟨i,_,q⟩:=hl k hk; ⟨i,q⟩)
 unfold setSearch
 exact from_ N 0 100000 rfl (Nat.zero_le _) (by omega) none rfl
end
end L2
namespace L2
open PySem PySem.Spec PyProof.Rows PySem.NumText
theorem zmx {t:ST} {hashAt:Nat→Int} {h:Int} {p:SetTable.Probe} {n0 i0:Nat} (hs:t.slot (path t n0 p).j = .live i0) (hh:(hashAt i0 == h)=true) (hl:∀ k,k<n0→∃ i:Nat,t.slot (path t k p).j = .live i) :
  ∀ (d m fuel:Nat),d=n0 - m→m≤n0→d<fuel→∃ k i,m≤k∧k≤n0∧t.slot (path t k p).j = .live i∧SetTable.probe.go t hashAt h fuel (path t m p)=some (.candidate (path t k p).j i (path t (k+1) p)):=by
 intro d
 induction d with
 | zero =>
  intro m fuel hdm hm hf
  have e:m=n0:=by omega
  subst e
  cases fuel with
  | zero=>omega
  | succ fuel =>
   refine ⟨m,i0,Nat.le_refl _,Nat.le_refl _,hs,?_⟩
   unfold SetTable.probe.go
   rw [hs]
   dsimp only
   rw [if_pos hh,zpb]
 | succ d ih =>
  intro m fuel hdm hm hf
  cases fuel with
  | zero=>omega
  | succ fuel =>
   obtain ⟨i,hi⟩:=hl m (by omega)
   by_cases hh:(hashAt i == h)=true
   ·refine ⟨m,i,Nat.le_refl _,by omega,hi,?_⟩
    unfold SetTable.probe.go
    rw [hi]
    dsimp only
    rw [if_pos hh,zpb]
   ·obtain ⟨k,i',h1,h2,h3,h4⟩:=ih (m+1) fuel (by omega) (by omega) (by omega)
    refine ⟨k,i',by omega,h2,h3,?_⟩
    unfold SetTable.probe.go
    rw [hi]
    dsimp only
    rw [if_neg hh,← zpb]
    exact h4
section
variable {prog:Program} {w:World} {A:Around} {E:Value→Shared→Prop} {s:Shared}
theorem zel {a:Addr} {o:Obj} {es:Array (Int×Value)} {ep:Nat} {t:ST} {x:Value} {dx:PyData} {h:Int} {Q:SetFound→Shared→Prop} (ho:s.heap.get? a=some o) (hd:o.data = .set es ep t) (hf:t.fits es.size=true) (f:Fit t)
  (hx:El s.heap x dx) (dat:Nat→PyData) (hes:∀ (i:Nat) e,es[i]? = some e→El s.heap e.2 (dat i)) {i0 n0:Nat} {y0:Value} (hi0:es[i0]? = some (h,y0)) (hd0:PyData.eqv (dat i0) dx=true) (hs0:t.slot (path t n0 (t.probeStart h)).j = .live i0) (hl0:∀ k,k<n0→∃ i:Nat,t.slot (path t k (t.probeStart h)).j = .live i)
  (hu:A.units+10<cLine) (b:Bool) (hQ:∀ r:Option Nat,(b=false→r.isSome=true)→Q (.there r) s):wpAny (model prog w) A (setSearch a x h b) Q E s:=by
 obtain ⟨s9,sp,sd⟩:=zqo t h
 obtain ⟨N,hN,he,hl⟩:=zrf f s9 sp
 have hmask:t.mask≤511:=by rcases f.msk with e | e | e | e <;> omega
 have hN2:N<10 * (511+15):=by
  unfold SetTable.turns at hN
  omega
 have hn0:n0<N:=by
  refine Classical.byContradiction λ hc=>?_
  rcases Nat.lt_or_eq_of_le (Nat.le_of_not_lt hc) with hlt | heq
  ·obtain ⟨i,hi⟩:=hl0 N hlt
   rw [he] at hi
   cases hi
  ·rw [heq,hs0] at he
   cases he
 have hgw:t.gaveWay=false:=by
  unfold SetTable.gaveWay
  rcases f.msk with e | e | e | e <;> rw [e] <;> rfl
 have hpl:t.place.size=es.size:=by
  unfold SetTable.fits at hf
  rw [Bool.and_eq_true] at hf
  exact eq_of_beq hf.1
 obtain ⟨as,rx⟩:=hx.rd
 have from_:∀ (d m fuel:Nat),d=n0 - m→m≤n0→d<fuel→∀ (stand:Option SetTable.Probe),stand.getD (t.probeStart h)=path t m (t.probeStart h)→wpAny (model prog w) A (setSearchFrom a x h b fuel stand) Q E s:=by
  intro d
  induction d using Nat.strongRecOn with
  | ind d ih =>
   intro m fuel hdm hm hfu stand hst
   cases fuel with
   | zero=>omega
   | succ fuel =>
    unfold setSearchFrom
    refine wpAny_bind (wpAny_setState_of ho hd hf ?_)
    dsimp only
    rw [hgw]
    simp only [Bool.false_eq_true,if_false]
    rw [hst]
    unfold SetTable.probe
    obtain ⟨k,i,k1,k2,k3,k5⟩:=zmx (t:=t) (h:=h) (hashAt:=λ i=>(Option.map (λ (x:Int×Value)=>x.1) es[i]?).getD 0) hs0 (by rw [hi0];exact beq_self_eq_true h) hl0 (n0 - m) m (10 * SetTable.turns t.mask) rfl hm (by omega)
    have k5:SetTable.probe.go t _ h (10 * SetTable.turns t.mask) (path t m (t.probeStart h))=_:=k5
    erw [k5]
    dsimp only
    obtain ⟨i2,hi2,hpi⟩:=hl k (by omega)
    rw [k3] at hi2
    cases hi2
    have hil:i<es.size:=by rw [← hpl];exact (Array.getElem?_eq_some_iff.mp hpi).1
    have hei:es[i]? = some es[i]:=Array.getElem?_eq_getElem hil
    have hmem:es[i]∈es.toList:=by rw [← Array.getElem_toList hil];exact List.getElem_mem _
    obtain ⟨dy,hdy⟩:∃ dy,dy=dat i:=⟨_,rfl⟩
    have hy:=hes i _ hei
    rw [← hdy] at hy
    obtain ⟨bs,ry⟩:=hy.rd
    have go2:wpAny (model prog w) A (do
      let some (_,y):=es[i]? | unsupported "internal:set-entry"
      let equal ← holding [y] (eqBool y x)
      let (es',_,t') ← setState a
      if b && equal then return .there none
      let some same:=t'.sameMemory t.moves t.mask | unsupported "set.changed-during-lookup:is-the-new-block-at-the-old-address"
      let still ← match (if same then t'.slot (path t k (t.probeStart h)).j else .empty) with
       | .live i'=>match es'[i']? with
        | some (_,y')=>do pure (if ← isSame y' y then some i' else none)
        | none=>pure none
       | _=>pure none
      match still with
      | none=>rule "set.search.anew";setSearchFrom a x h b fuel none
      | some i'=>if equal then return .there (some i') else setSearchFrom a x h b fuel (some (path t (k+1) (t.probeStart h)))) Q E s:=by
     rw [hei]
     dsimp only
     refine wpAny_bind (wpAny_holding (SeqAt.eqAt_reads dy dx A s _ _ bs as ry rx (zdd dy hy.oi) (zdd dx hx.oi) (by have:=hy.dp;have:min dy.depth dx.depth≤dy.depth:=Nat.min_le_left _ _;omega) prog w _ _ ?_))
     have hsm:t.sameMemory t.moves t.mask=some true:=by unfold SetTable.sameMemory;rw [if_pos (beq_self_eq_true _)]
     obtain ⟨b0,hb0⟩:=hy.rf
     cases hne:PyData.eqv dy dx with
     | true =>
      refine wpAny_bind (wpAny_setState_of ho hd hf ?_)
      dsimp only
      cases b with
      | true =>
       simp only [Bool.and_self,if_true]
       exact wpAny_pure (hQ none λ z=>by cases z)
      | false =>
       simp only [Bool.false_and,Bool.false_eq_true,if_false]
       rw [hsm]
       dsimp only
       simp only [if_true]
       rw [k3]
       dsimp only
       rw [hei]
       dsimp only
       rw [hb0]
       refine wpAny_bind (wpAny_isSame_ref_self (wpAny_bind (wpAny_pure ?_)))
       simp only [if_true]
       exact wpAny_pure (hQ (some i) λ _=>rfl)
     | false =>
      refine wpAny_bind (wpAny_setState_of ho hd hf ?_)
      dsimp only
      simp only [Bool.and_false,Bool.false_eq_true,if_false]
      rw [hsm]
      dsimp only
      simp only [if_true]
      rw [k3]
      dsimp only
      rw [hei]
      dsimp only
      rw [hb0]
      refine wpAny_bind (wpAny_isSame_ref_self (wpAny_bind (wpAny_pure ?_)))
      simp only [if_true]
      have hk0:k≠n0:=λ e=>by
       rw [e,hs0] at k3
       cases k3
       rw [hdy,hd0] at hne
       cases hne
      exact ih (n0 - (k+1)) (by omega) (k+1) fuel rfl (by omega) (by omega) (some _) rfl
    cases hled:t.led with
    | true =>
     simp only [Bool.not_true,Bool.false_eq_true,if_false]
     exact go2
    | false =>
     simp only [Bool.not_false,if_true]
     refine wpAny_bind (zms hx _ _ (λ y hy=>?_) ?_)
     ·obtain ⟨e,he1,rfl⟩:=List.mem_map.mp hy
      have he2:e∈es.toList:=by
       have:=Array.mem_toList_iff.mp he1
       exact Array.mem_toList_iff.mpr (Array.mem_filter.mp this).1
      obtain ⟨j,hj⟩:=List.getElem?_of_mem he2
      rw [Array.getElem?_toList] at hj
      exact ⟨_,hes j e hj⟩
     ·simp only [Bool.false_eq_true,if_false]
      exact go2
 unfold setSearch
 exact from_ n0 0 100000 rfl (Nat.zero_le _) (by omega) none rfl
theorem zlm {a:Addr} {o:Obj} {es:Array (Int×Value)} {ep:Nat} {t:ST} {wanted m':Nat} {Q:Unit→Shared→Prop} (ho:s.heap.get? a=some o) (hd:o.data = .set es ep t) (hf:t.fits es.size=true)
  (hw:SetTable.sizeAbove wanted=m'+1) (hm:m'=7 ∨ m'=31 ∨ m'=127 ∨ m'=511) (hs:es.size≤m')
  (h:∀ es' t',es'.toList.Perm es.toList→t'.place.size=es.size→t'.dummies = #[]→t'.mask=m'→Wp t' es'→t'.led=t.led→t'.plain=t.plain→Q () { s with heap:=s.heap.update a (Obj.putSet es' t') }):wpAny (model prog w) A (setRelay a wanted) Q E s:=by
 unfold setRelay
 refine wpAny_bind (wpAny_setState_of ho hd hf ?_)
 dsimp only
 have hc:ztc (m'+1)=true:=by
  rcases hm with e | e | e | e <;> rw [e]
  ·exact cov8
  ·exact zu2
  ·exact zmw
  ·exact zvx
 obtain ⟨pl,order,e1,e2,e3,e4⟩:=zgv (mask:=m') (finger:=t.finger) (moves:=t.movedTo m') (led:=t.led) (plain:=t.plain) hc es hs
 have hr:t.relaid (es.map (·.1)) wanted=some ({ mask:=m',place:=pl,dummies := #[],finger:=t.finger,led:=t.led,moves:=t.movedTo m',plain:=t.plain },order):=by
  unfold SetTable.relaid
  rw [hw,Nat.add_sub_cancel]
  exact e1
 have hsz:(order.filterMap (es[·]?)).size=es.size:=by rw [← Array.length_toList,e3.length_eq,Array.length_toList]
 rw [hw,hr]
 have hlt:¬ (m'+1 > sizeLine):=by rw [sizeLine_eq];omega
 rw [if_neg hlt]
 refine wpAny_bind (wpAny_of_eq (a:=(order.filterMap (es[·]?),({ mask:=m',place:=pl,dummies := #[],finger:=t.finger,led:=t.led,moves:=t.movedTo m',plain:=t.plain }:SetTable))) ?_ ?_)
 ·show (if ((order.filterMap (es[·]?)).size != es.size)=true then _ else _)=_
  rw [hsz,if_neg (by simp)]
 ·dsimp only
  exact wpAny_storeSet_of ho hd (h _ _ e3 e2 rfl rfl (e4 _ rfl rfl) rfl rfl) (by rw [hsz,sizeLine_eq];omega)
end
end L2
namespace L2
open PySem PySem.Spec PyProof.Rows PySem.NumText
theorem zei {α β:Type} {R:α→β→Prop} {e:α} {d:β} (h:R e d):∀ (p:Nat) {l:List α} {m:List β},Paired R l m→Paired R (l.take p++e::l.drop p) (m.take p++d::m.drop p)
 | 0,_,_,r=>by
  rw [List.take_zero,List.take_zero,List.drop_zero,List.drop_zero]
  exact .cons h r
 | p+1,_,_,.nil=>by
  rw [List.take_nil,List.drop_nil,List.take_nil,List.drop_nil]
  exact .cons h .nil
 | p+1,_,_,.cons a b=>.cons a (zei h p b)
theorem zwf {α β:Type} {R:α→β→Prop} {l' l:List α} (h:l'.Perm l):∀ {m:List β},Paired R l m→∃ m',m'.Perm m∧Paired R l' m':=by
 induction h with
 | nil=>intro m r;exact ⟨m,.refl _,r⟩
 | cons x _ ih =>
  intro m r
  cases r with
  | cons a b =>
   obtain ⟨m',h1,h2⟩:=ih b
   exact ⟨_::m',h1.cons _,.cons a h2⟩
 | swap x y l =>
  intro m r
  cases r with
  | cons a b =>
   cases b with
   | cons c d=>exact ⟨_::_::_,.swap _ _ _,.cons c (.cons a d)⟩
 | trans _ _ ih1 ih2 =>
  intro m r
  obtain ⟨m1,h1,h2⟩:=ih2 r
  obtain ⟨m2,h3,h4⟩:=ih1 h2
  exact ⟨m2,h3.trans h1,h4⟩
theorem zpg {α β:Type} {R:α→β→Prop}:∀ {l:List α} {m:List β},Paired R l m→∀ {i:Nat} {e:α},l[i]? = some e→∃ d,m[i]? = some d∧R e d
 | _,_,.nil,i,e,h=>by simp at h
 | _,_,.cons a b,0,e,h=>by cases (Option.some.inj h);exact ⟨_,rfl,a⟩
 | _,_,.cons a b,i+1,e,h=>by
  obtain ⟨r,h1,h2⟩:=zpg b (i:=i) (by simpa using h)
  exact ⟨r,by simpa using h1,h2⟩
theorem zci {α β:Type} {R:α→β→Prop}:∀ {l:List α} {m:List β},Paired R l m→∀ {i:Nat} {d:β},m[i]? = some d→∃ e,l[i]? = some e∧R e d
 | _,_,.nil,i,e,h=>by simp at h
 | _,_,.cons a b,0,e,h=>by cases (Option.some.inj h);exact ⟨_,rfl,a⟩
 | _,_,.cons a b,i+1,e,h=>by
  obtain ⟨r,h1,h2⟩:=zci b (i:=i) (by simpa using h)
  exact ⟨r,by simpa using h1,h2⟩
noncomputable abbrev Mem:=Addr×PyData
noncomputable def MemR (e:Int×Value) (q:Mem):Prop:=e.2 = .ref q.1∧e.1=zni q.2
noncomputable def SetO (o:Obj) (qs:List Mem):Prop:=∃ es ep t qs',o.ExactSet∧o.data = .set es ep t∧t.fits es.size=true∧Fit t∧t.fill * 5<t.mask * 3∧Wp t es∧qs'.Perm qs∧Paired MemR es.toList qs'
noncomputable def Led (b:Bool) (h:Heap) (a:Addr):Prop:=∃ o es ep t,h.get? a=some o∧o.data = .set es ep t∧t.led=b∧t.plain=true
noncomputable def SetX (h:Heap) (a:Addr) (qs:List Mem):Prop:=∃ o,h.get? a=some o∧SetO o qs
section
variable {prog:Program} {w:World} {A:Around} {E:Value→Shared→Prop} {s:Shared}
theorem zhj {a:Addr} {o:Obj} {es:Array (Int×Value)} {ep:Nat} {t:ST} {qs':List Mem} {x:Value} {dx:PyData} {Q:SetFound→Shared→Prop} (ho:s.heap.get? a=some o) (hd:o.data = .set es ep t) (hf:t.fits es.size=true) (f:Fit t) (wp:Wp t es) (hp:Paired MemR es.toList qs')
  (hel:∀ q∈qs',El s.heap (.ref q.1) q.2) (hx:El s.heap x dx) {q:Mem} (hq:q∈qs') (e:q.2=dx) (hu:A.units+10<cLine) (b:Bool) (hQ:∀ r:Option Nat,(b=false→r.isSome=true)→Q (.there r) s):wpAny (model prog w) A (setSearch a x (zni dx) b) Q E s:=by
 obtain ⟨i0,hi0⟩:=List.getElem?_of_mem hq
 obtain ⟨e0,he0,hr0⟩:=zci hp hi0
 rw [Array.getElem?_toList] at he0
 have hpl:t.place.size=es.size:=by
  have:=hf
  unfold SetTable.fits at this
  rw [Bool.and_eq_true] at this
  exact eq_of_beq this.1
 have hil:i0<t.place.size:=by rw [hpl];exact (Array.getElem?_eq_some_iff.mp he0).1
 have hpi:=Array.getElem?_eq_getElem hil
 obtain ⟨n0,hn,hlv⟩:=wp.rch i0 _ e0 hpi he0
 have hh:e0.1=zni dx:=by rw [hr0.2,e]
 rw [hh] at hn hlv
 refine zel ho hd hf f hx (λ i=>(qs'.getD i (0,.none)).2) (λ i e1 he1=>?_) (i0:=i0) (n0:=n0) (y0:=e0.2) (by rw [he0,← hh]) ?_ (by rw [hn];exact zhm wp.mono hpi) (λ k hk=>let ⟨i',hi'⟩:=hlv k hk; ⟨i',zhm wp.mono hi'⟩) hu b hQ
 ·obtain ⟨q1,hq1,hr1⟩:=zpg hp (i:=i) (e:=e1) (by rw [Array.getElem?_toList];exact he1)
  rw [hr1.1,List.getD_eq_getElem?_getD,hq1]
  exact hel q1 (List.mem_of_getElem? hq1)
 ·rw [List.getD_eq_getElem?_getD,hi0]
  show PyData.eqv q.2 dx=true
  rw [e]
  exact zft hx.oi
theorem zjq {qs':List Mem} {es:Array (Int×Value)} {dx:PyData} (hp:Paired MemR es.toList qs') (hel:∀ q∈qs',El s.heap (.ref q.1) q.2) (hx:zhf dx=true) (hn:∀ q∈qs',q.2≠dx):∀ e∈es.toList,∃ d,El s.heap e.2 d∧PyData.eqv d dx=false:=λ e he=>by
 obtain ⟨i,hi⟩:=List.getElem?_of_mem he
 obtain ⟨q1,hq1,hr1⟩:=zpg hp hi
 have hm:=List.mem_of_getElem? hq1
 have hl:=hel q1 hm
 refine ⟨q1.2,by rw [hr1.1];exact hl,?_⟩
 cases h:PyData.eqv q1.2 dx with
 | false=>rfl
 | true=>exact absurd (zry _ _ hl.oi hx h) (hn q1 hm)
theorem zuy {a:Addr} {qs:List Mem} {ax:Addr} {dx:PyData} {Q:Bool→Shared→Prop} (hS:SetX s.heap a qs) (hel:∀ q∈qs,El s.heap (.ref q.1) q.2) (hx:El s.heap (.ref ax) dx) (hlen:qs.length<300) (hu:A.units+10<cLine)
  (hold:(∃ q∈qs,q.2=dx)→Q false s) (hq:(∀ q∈qs,q.2≠dx)→∀ h',Heap.SameBut a s.heap h'→SetX h' a ((ax,dx)::qs)→(∀ b,Led b s.heap a→Led b h' a)→Q true { s with heap:=h' }):wpAny (model prog w) A (setAddHashed a (.ref ax) (zni dx)) Q E s:=by
 obtain ⟨o,ho,es,ep,t,qs',hex,hd,hf,f,hfull,wp,pm,hp⟩:=hS
 have hel':∀ q∈qs',El s.heap (.ref q.1) q.2:=λ q hq=>hel q (pm.mem_iff.mp hq)
 have hsz:es.size=qs.length:=by rw [← Array.length_toList,Paired.length hp,pm.length_eq]
 obtain ⟨h,hhd⟩:∃ h,h=zni dx:=⟨_,rfl⟩
 have hhd2:h=zni dx:=hhd
 have hpl:t.place.size=es.size:=by
  have:=hf
  unfold SetTable.fits at this
  rw [Bool.and_eq_true] at this
  exact eq_of_beq this.1
 have hfill:t.fill=t.place.size:=by unfold SetTable.fill;rw [f.dum];rfl
 rw [hfill,hpl] at hfull
 unfold setAddHashed setAddHashedIn
 refine wpAny_holding (wpAny_bind (wpAny_setState_of ho hd hf ?_))
 dsimp only
 have hbs:byScan (.ref ax) es=false:=rfl
 rw [hbs]
 simp only [Bool.false_eq_true,if_false]
 by_cases hqq:∃ q∈qs',q.2=dx
 ·obtain ⟨q,hqm,hqe⟩:=hqq
  refine wpAny_bind (zhj ho hd hf f wp hp hel' hx hqm hqe hu true λ r _=>?_)
  exact wpAny_pure (hold ⟨q,pm.mem_iff.mp hqm,hqe⟩)
 have hne:∀ q∈qs',q.2≠dx:=λ q hqm e=>hqq ⟨q,hqm,e⟩
 refine wpAny_bind (zql ho hd hf f hx (zjq hp hel' hx.oi hne) hu true λ N hemp hlv=>?_)
 obtain ⟨j,hj⟩:∃ j,j=(path t N (t.probeStart (zni dx))).j:=⟨_,rfl⟩
 rw [← hj] at hemp ⊢
 have hfree:∀ i:Nat,t.place[i]? ≠ some j:=λ i e=>by
  rw [zhm wp.mono e] at hemp
  cases hemp
 rw [← hhd] at hj hlv ⊢
 dsimp only
 refine wpAny_bind (wpAny_setState_of ho hd hf ?_)
 dsimp only
 have hput:(t.put j).1={ t with place:=SetTable.insertAt t.place (SetTable.below t.place j) j }:=by
  unfold SetTable.put
  dsimp only
  have:SetTable.has t.dummies j=false:=by rw [f.dum];unfold SetTable.has;simp
  rw [this,if_neg Bool.false_ne_true]
 have hput2:(t.put j).2=SetTable.below t.place j:=rfl
 rw [hput,hput2]
 have h1sz:(SetTable.insertAt es (SetTable.below t.place j) (h,.ref ax)).size=es.size+1:=zhn _ _ _
 obtain ⟨qs1,hqs1⟩:∃ qs1,qs1=qs'.take (SetTable.below t.place j)++(ax,dx)::qs'.drop (SetTable.below t.place j):=⟨_,rfl⟩
 have hpq1:qs1.Perm ((ax,dx)::qs):=by
  rw [hqs1]
  refine List.perm_middle.trans (.cons _ ?_)
  rw [List.take_append_drop]
  exact pm
 have hpr1:Paired MemR (SetTable.insertAt es (SetTable.below t.place j) (h,.ref ax)).toList qs1:=by
  rw [zjj,hqs1]
  exact zei (R:=MemR) ⟨rfl,hhd⟩ _ hp
 have hwp1:∀ t1:ST,t1.mask=t.mask→t1.place=SetTable.insertAt t.place (SetTable.below t.place j) j→Wp t1 (SetTable.insertAt es (SetTable.below t.place j) (h,.ref ax)):=λ t1 e1 e2=>wp.ins hpl (N:=N) (e:=(h,.ref ax)) hj.symm hfree hlv e1 e2
 generalize SetTable.insertAt es (SetTable.below t.place j) (h,.ref ax)=es1 at h1sz hpr1 hwp1 ⊢
 have hmge:7≤t.mask:=by rcases f.msk with e | e | e | e <;> omega
 have tail:∀ pb:Bool,(t.plain=true→pb=true)→wpAny (model prog w) A (do
   storeSet a es1 { t with place:=SetTable.insertAt t.place (SetTable.below t.place j) j,plain:=pb }
   if (!false && ({ t with place:=SetTable.insertAt t.place (SetTable.below t.place j) j,plain:=pb }:SetTable).tooFull)=true then setRelay a (SetTable.grown (es.size+1))
   return true) Q E s:=by
  intro pb hpb
  refine wpAny_bind (wpAny_storeSet_of ho hd ?_ (by rw [h1sz,sizeLine_eq];omega))
  have p1:(SetTable.insertAt t.place (SetTable.below t.place j) j).size=es.size+1:=by rw [zhn,hpl]
  generalize ht1:({ t with place:=SetTable.insertAt t.place (SetTable.below t.place j) j,plain:=pb }:SetTable)=t1
  have m1:t1.mask=t.mask:=by rw [← ht1]
  have l1:t1.led=t.led:=by rw [← ht1]
  have l2:t.plain=true→t1.plain=true:=by rw [← ht1];exact hpb
  have ledK:∀ {h':Heap} {es3:Array (Int×Value)} {ep3:Nat} {t3:SetTable},h'.get? a=some { o with data := .set es3 ep3 t3 }→t3.led=t1.led→t3.plain=t1.plain→∀ b,Led b s.heap a→Led b h' a:=by
   rintro h' es3 ep3 t3 g3 e3 p3 b ⟨o0,es0,ep0,t0,g0,d0,b0,q0⟩
   rw [ho] at g0
   cases g0
   rw [hd] at d0
   cases d0
   exact ⟨_,es3,ep3,t3,g3,rfl,by rw [e3,l1,b0],by rw [p3];exact l2 q0⟩
  have q1:t1.place.size=es.size+1:=by rw [← ht1];exact p1
  have d1:t1.dummies = #[]:=by rw [← ht1];exact f.dum
  have fl1:t1.fill=es.size+1:=by unfold SetTable.fill;rw [d1,q1];rfl
  have fits1:t1.fits es1.size=true:=by
   unfold SetTable.fits
   rw [q1,h1sz,fl1,m1,beq_self_eq_true,Bool.true_and]
   exact decide_eq_true (by omega)
  have fit1:Fit t1:=⟨d1,by rw [q1,m1];omega,by rw [m1];exact f.msk⟩
  have hg1:(s.heap.update a (Obj.putSet es1 t1)).get? a=some { o with data := .set es1 (ep+1) t1 }:=by
   have:=Heap.get?_update_self (Obj.putSet es1 t1) ho (by rw [putSet_of es1 t1 hd];rfl)
   rw [putSet_of es1 t1 hd] at this;exact this
  have sb1:=Heap.SameBut.update s.heap a (Obj.putSet es1 t1)
  simp only [Bool.not_false,Bool.true_and]
  by_cases hfu:t1.tooFull=true
  ·rw [if_pos hfu]
   have hfu':t1.mask * 3≤t1.fill * 5:=by unfold SetTable.tooFull at hfu;exact of_decide_eq_true hfu
   rw [fl1,m1] at hfu'
   obtain ⟨m',hm',hw,hlt⟩:∃ m',(m'=7 ∨ m'=31 ∨ m'=127 ∨ m'=511)∧SetTable.sizeAbove (SetTable.grown (es.size+1))=m'+1∧(es.size+1) * 5<m' * 3:=by
    rcases f.msk with e | e | e | e
    ·have:es.size=4:=by omega
     exact ⟨31,.inr (.inl rfl),by rw [this];decide,by omega⟩
    ·have:es.size=18:=by omega
     exact ⟨127,.inr (.inr (.inl rfl)),by rw [this];decide,by omega⟩
    ·have:es.size=76:=by omega
     exact ⟨511,.inr (.inr (.inr rfl)),by rw [this];decide,by omega⟩
    ·omega
   refine wpAny_bind (zlm (s:={ s with heap:=s.heap.update a (Obj.putSet es1 t1) }) hg1 rfl fits1 hw hm' (by rw [h1sz];omega) λ es2 t2 hp2 hpl2 hd2 hm2 hwp2 hl2 hpp2=>?_)
   have hg2:((s.heap.update a (Obj.putSet es1 t1)).update a (Obj.putSet es2 t2)).get? a=some { o with data := .set es2 (ep+1+1) t2 }:=by
    have:=Heap.get?_update_self (Obj.putSet es2 t2) hg1 (by rw [putSet_of es2 t2 rfl];rfl)
    rw [putSet_of es2 t2 rfl] at this;exact this
   have hsz2:es2.size=es.size+1:=by rw [← Array.length_toList,hp2.length_eq,Array.length_toList,h1sz]
   have fl2:t2.fill=es.size+1:=by unfold SetTable.fill;rw [hd2,hpl2,h1sz];rfl
   obtain ⟨qs2,hq2,hpr2⟩:=zwf hp2 hpr1
   refine wpAny_pure (hq (λ q hqm=>hne q (pm.mem_iff.mpr hqm)) _ (sb1.trans (Heap.SameBut.update _ a _)) ⟨_,hg2,es2,ep+1+1,t2,qs2,hex,rfl,?_,⟨hd2,by rw [hpl2,h1sz,hm2];omega,by rw [hm2];exact hm'⟩,by rw [fl2,hm2];exact hlt,hwp2,hq2.trans hpq1,hpr2⟩ (ledK hg2 hl2 hpp2))
   unfold SetTable.fits
   rw [hpl2,h1sz,hsz2,fl2,hm2,beq_self_eq_true,Bool.true_and]
   exact decide_eq_true (by omega)
  ·rw [if_neg hfu]
   have hnf:t1.fill * 5<t1.mask * 3:=by
    have:¬ (t1.fill * 5 ≥ t1.mask * 3):=λ z=>hfu (by unfold SetTable.tooFull;exact decide_eq_true z)
    omega
   exact wpAny_pure (hq (λ q hqm=>hne q (pm.mem_iff.mpr hqm)) _ sb1 ⟨_,hg1,es1,ep+1,t1,qs1,hex,rfl,fits1,fit1,hnf,hwp1 t1 m1 (by rw [← ht1]),hpq1,hpr1⟩ (ledK hg1 rfl rfl))
 by_cases hpn:t.plain=true
 ·simp only [hpn,if_true]
  obtain ⟨as,rx⟩:=hx.rd
  refine wpAny_bind (zkm 4 dx A _ _ _ as hx.dp rx hx.oi 8 _ (by decide) ?_)
  simp only [if_true]
  exact tail true λ _=>rfl
 ·simp only [hpn,if_false,Bool.false_eq_true]
  refine wpAny_bind (wpAny_pure ?_)
  simp only [if_true]
  exact tail false λ z=>absurd z hpn
end
end L2
namespace L2
open PySem PySem.Spec PyProof.Rows PySem.NumText
section
variable {prog:Program} {w:World} {A:Around} {E:Value→Shared→Prop} {s:Shared}
theorem ztx {Q:Value→Shared→Prop}
  (h:Q (.ref s.heap.objs.size) { s with heap:=s.heap.push { cls := .type "set",dict:=none,data := .set #[] 0 (.fresh 0 0 (!w.params.followText "set-order")) } }):wpAny (model prog w) A (newSet (.type "set")) Q E s:=by
 unfold newSet setsByText
 refine wpAny_bind (wpAny_bind (wpAny_askSetting (wpAny_pure ?_)))
 dsimp only
 simp only [newObj]
 exact wpAny_bind (wpAny_alloc (wpAny_pure h))
end
section
variable {prog:Program} {w:World} {A:Around} {R:Result→Shared→Prop} {I:Addr} {fp wr:List Addr} {G:Array GenState→Array GenState→Prop} {n:Nat} {P:Nat→Value→Prop} {St:Nat→Shared→Prop}
end
section
variable {prog:Program} {w:World} {A:Around} {E:Value→Shared→Prop} {s:Shared}
end
end L2
namespace L2
open PySem PySem.Spec PyProof.Rows PySem.NumText
noncomputable def ok4 (d:PyData):Prop:=zhf d=true∧d.depth≤4∧∃ xs,d = .tuple xs
theorem zut (m:Mark):ok4 (markD m):=⟨rfl,by show 1≤4;decide,_,rfl⟩
section
variable {X:Cx} {pins:List (Addr×Obj)} {σ:St} {H:Hp} {s:Shared}
theorem Inv.el (I:Inv X pins σ H s) {d:PyData} {x:V} {u:Value} (h:DV X.K H d x) (r:RelV x u) (o:ok4 d):El s.heap u d:=by
 obtain ⟨o1,o2,xs,rfl⟩:=o
 obtain ⟨as,ra⟩:=DV.reads I _ x u h r
 obtain ⟨a,vs,rfl,_⟩:=h
 cases r
 exact ⟨⟨as,ra⟩,o1,o2,a,rfl⟩
end
section
variable {X:Cx}
end
end L2
namespace L2
open PySem PySem.Spec PyProof.Rows PySem.NumText
section
variable {prog:Program} {w:World} {A:Around} {E:Value→Shared→Prop} {s:Shared}
end
section
variable {X:Cx} {e:Expr} {ta:TA} {x:Str} {id:String} {r:List V→Hp→VK→Prop} {p pos kp kp1:Pos} {j:Nat}
end
end L2
namespace L2
open PySem PySem.Spec PyProof.Rows PySem.NumText
section
variable {X:Cx}
theorem zjw {K:W.Frag} (h:X.K=K) (hu:X.A.units+64<cLine):OpR X (compareOp .Eq) (rEqD K):=h ▸ ztz hu
theorem zox {K:W.Frag} (h:X.K=K) (hu:X.A.units+64<cLine):OpR X (compareOp .NotEq) (rNeD K):=h ▸ zqj hu
end
end L2
namespace L2
open PySem PySem.Spec PyProof.Rows PySem.NumText
noncomputable def zdp (d:Addr) (i n ep:Nat):Obj:={ cls := .type "dict_keyiterator",data := .fields #[.ref d,.int i 0,.int n 0,.int ep 0] }
section
variable {prog:Program} {w:World} {A:Around} {E:Value→Shared→Prop} {s:Shared} {d it:Addr} {ds:Array DictEntry} {ep i:Nat}
theorem zxj:Builtin.Dict_items.ownsTuple "dict_keyiterator" = false:=by decide
theorem zfq {Q:Value→Shared→Prop} (hT:s.TypeIs (.ref d) "dict") (hd:RawD s.heap d ds ep) (hs:(d == sysModules)=false)
  (k:Q (.ref s.heap.objs.size) { s with heap:=s.heap.push (zdp d 0 ds.size ep) }):wpAny (model prog w) A (pyIter (.ref d)) Q E s:=by
 obtain ⟨o,d1,d2,d3⟩:=hd
 refine wpAny_pyIter_slot hT F.slot_dict_iter (wpAny_call_entry F.slot_dict_iter hT F.entry_dict_iter ?_ (F.args_dict_iter_1 _))
 unfold Builtin.«dict.__iter__» Builtin.Dict.dictSlotNone
 refine wpAny_bind (wpAny_bind (wpAny_notOrdered_dict hT (wpAny_bind (wpAny_of_eq (a:=(Value.ref d,[])) rfl (wpAny_pure ?_)))))
 refine wpAny_bind (wpAny_pure ?_)
 unfold Builtin.Dict.showsAll
 rw [hs]
 refine wpAny_bind (wpAny_of_eq (a:=()) (if_neg Bool.false_ne_true) ?_)
 refine wpAny_bind (wpAny_dictEntries d1 d3 (wpAny_bind (wpAny_dictEpoch d1 d3 ?_)))
 refine wpAny_bind (wpAny_newObj_type (wpAny_pure ⟨_,rfl, "dict_keyiterator",_,⟨_,Heap.get?_push_size _ rfl,rfl⟩,F.slot_dict_keyiterator_next.lookup,?_⟩) ?_)
 ·simpa [rawInt,zdp] using k
 ·simp only [sizeOk,List.size_toArray,List.length_cons,List.length_nil,sizeLine_eq]
  omega
theorem zou {Q:Option Value→Shared→Prop} {e:DictEntry} (hi:s.heap.get? it=some (zdp d i ds.size ep)) (hd:RawD s.heap d ds ep) (he:ds[i]? = some e)
  (k:∀ h',h'.get? it=some (zdp d (i+1) ds.size ep)→h'.objs.size=s.heap.objs.size→(∀ b o,b≠it→s.heap.get? b=some o→h'.get? b=some o)→Q (some e.key) { s with heap:=h' }):wpAny (model prog w) A (pyNext (.ref it)) Q E s:=by
 obtain ⟨o,d1,d2,d3⟩:=hd
 have ty:s.TypeIs (.ref it) "dict_keyiterator" := ⟨_,hi,rfl⟩
 unfold pyNext
 refine wpAny_bind (wpAny_attempt (wpAny_callSpecial?_slot ty F.slot_dict_keyiterator_next (wpAny_call_entry F.slot_dict_keyiterator_next ty F.entry_dict_keyiterator_next ?_ (F.args_dict_keyiterator_next_1 _))))
 unfold Builtin.«dict_keyiterator.__next__»
 refine wpAny_bind (wpAny_pure (wpAny_bind (wpAny_bind (wpAny_bind (wpAny_typeNameOfWhole_keyiter ty (wpAny_pure (wpAny_bind (wpAny_fieldsOf hi rfl ?_))))))))
 simp only [zxj,Bool.false_eq_true,if_false]
 have e1:(Value.ref d == Value.none)=false:=rfl
 dsimp only [List.drop,List.take]
 rw [if_neg (by rw [e1];exact Bool.false_ne_true)]
 refine wpAny_bind (wpAny_pure (wpAny_bind (wpAny_dictEntries d1 d3 ?_)))
 rw [if_neg (by simp)]
 refine wpAny_bind (wpAny_pure (wpAny_bind (wpAny_dictEpoch d1 d3 ?_)))
 rw [if_neg (by simp)]
 refine wpAny_pure ?_
 dsimp only
 rw [if_neg (by omega),Int.toNat_natCast,he]
 dsimp only
 refine wpAny_bind (wpAny_bind (wpAny_typeNameOfWhole_keyiter ty (wpAny_pure ?_)))
 refine wpAny_bind (wpAny_isOneOf_keyiter ty ?_)
 simp only [zxj,Bool.false_eq_true,if_false]
 rw [if_neg (by decide)]
 refine wpAny_bind (wpAny_setField_rec (k:=1) hi (by show 1<4;decide) λ h1 g1 sb1=>?_)
 have g1:h1.get? it=some (zdp d (i+1) ds.size ep):=g1
 have ty1:({ s with heap:=h1 }:Shared).TypeIs (.ref it) "dict_keyiterator" := ⟨_,g1,rfl⟩
 refine wpAny_bind (wpAny_holding (wpAny_bind (wpAny_isOneOf_keyiter ty1 ?_)))
 first | rw [if_neg (by decide)] | rw [if_pos (by decide)]
 exact wpAny_pure (wpAny_pure ⟨_,rfl,wpAny_pure (k h1 g1 sb1.1 λ b o hb q=>(sb1.2 b hb).trans q)⟩)
theorem znj {Q:Option Value→Shared→Prop} (hh:A.handled=none) (hi:s.heap.get? it=some (zdp d i ds.size ep)) (hd:RawD s.heap d ds ep) (he:ds[i]? = none)
  (k:∀ h',(∀ b o,b≠it→s.heap.get? b=some o→h'.get? b=some o)→Q none { s with heap:=h' }):wpAny (model prog w) A (pyNext (.ref it)) Q E s:=by
 obtain ⟨o,d1,d2,d3⟩:=hd
 have ty:s.TypeIs (.ref it) "dict_keyiterator" := ⟨_,hi,rfl⟩
 unfold pyNext
 refine wpAny_bind (wpAny_attempt (wpAny_callSpecial?_slot ty F.slot_dict_keyiterator_next (wpAny_call_entry F.slot_dict_keyiterator_next ty F.entry_dict_keyiterator_next ?_ (F.args_dict_keyiterator_next_1 _))))
 unfold Builtin.«dict_keyiterator.__next__»
 refine wpAny_bind (wpAny_pure (wpAny_bind (wpAny_bind (wpAny_bind (wpAny_typeNameOfWhole_keyiter ty (wpAny_pure (wpAny_bind (wpAny_fieldsOf hi rfl ?_))))))))
 simp only [zxj,Bool.false_eq_true,if_false]
 have e1:(Value.ref d == Value.none)=false:=rfl
 dsimp only [List.drop,List.take]
 rw [if_neg (by rw [e1];exact Bool.false_ne_true)]
 refine wpAny_bind (wpAny_pure (wpAny_bind (wpAny_dictEntries d1 d3 ?_)))
 rw [if_neg (by simp)]
 refine wpAny_bind (wpAny_pure (wpAny_bind (wpAny_dictEpoch d1 d3 ?_)))
 rw [if_neg (by simp)]
 refine wpAny_pure ?_
 dsimp only
 rw [if_neg (by omega),Int.toNat_natCast,he]
 dsimp only
 refine wpAny_bind (wpAny_bind (wpAny_typeNameOfWhole_keyiter ty (wpAny_pure ?_)))
 simp only [zxj,Bool.false_eq_true,if_false]
 refine wpAny_bind (wpAny_setField_rec (k:=0) hi (by show 0<4;decide) λ h1 g1 sb=>?_)
 unfold newExc raiseNew
 refine wpAny_bind (wpAny_bind (wpAny_newObj_type ?_))
 have fa:firstArgMember (.type "StopIteration") []=pure Value.none:=by
  rw [firstArgMember.eq_1]
  generalize (Manifest.find? "StopIteration").elim false (λ t=>t.mro.contains "StopIteration" || t.mro.contains "SystemExit")=b
  cases b <;> rfl
 refine wpAny_bind (wpAny_of_eq fa (wpAny_newObj_type ?_ (sizeOk_excFields _ _ _ _ _ _ _ _)))
 refine wpAny_bind (wpAny_handled ?_)
 rw [show A.in1.handled=none from hh]
 refine wpAny_throw ?_
 refine wpAny_bind (wpAny_isInstance ⟨_,Heap.get?_push_size _ rfl,rfl⟩ isSubtype_stop ?_)
 rw [if_pos rfl]
 refine wpAny_pure (k _ λ b o hb e=>?_)
 exact Heap.get?_push_of_some _ (Heap.get?_push_of_some _ ((sb.2 b hb).trans e))
end
end L2
namespace L2
open PySem PySem.Spec PyProof.Rows PySem.NumText
section
variable {X:Cx} {o:Expr} {td:TE}
end
section
variable {prog:Program} {w:World} {A:Around} {E:Value→Shared→Prop} {s:Shared} {d it S:Addr} {ds:Array DictEntry} {ep:Nat}
theorem zxq {R:Result→Shared→Prop} (hh:A.handled=none) (hn:ds.size≤sizeLine) (nSI:S≠it) (ndS:d≠S) (ndI:d≠it) (res:Value) {h1:Heap}
  (k:∀ h' tk acc c,(∀ b o,b≠S→b≠it→h1.get? b=some o→h'.get? b=some o)→h'.get? S=some { cls := .type "list",data := .seq acc c }→acc.toList=ds.toList.map (·.key)→R (.ok (.ret res)) { s with heap:=h',toks:=tk }) :
  ∀ (n i:Nat) (h:Heap) (tk c:Nat) (acc:Array Value),ds.size - i=n→i≤ds.size→h.get? it=some (zdp d i ds.size ep)→RawD h d ds ep →
   (∀ b o,b≠S→b≠it→h1.get? b=some o→h.get? b=some o)→h.get? S=some { cls := .type "list",data := .seq acc c }→acc.toList=(ds.toList.take i).map (·.key) →
   codeAny (model prog w) A (.builtin "list.extend.loop" ⟨[.ref S,.ref it,res],[]⟩) R { s with heap:=h,toks:=tk }:=by
 intro n
 induction n with
 | zero =>
  intro i h tk c acc hni hi hit hd kp hS hacc
  refine codeAny_builtin F.entry_extend_loop ?_
  rw [Around.under_plainId F.plain_extend_loop]
  refine wpAny_bind (znj (s:={ s with heap:=h,toks:=tk }) hh hit hd (by rw [Array.getElem?_eq_none];omega) λ h' kp'=>?_)
  refine wpAny_pure (k h' tk acc c (λ b o h1' h2' e=>kp' b o h2' (kp b o h1' h2' e)) (kp' _ _ nSI hS) ?_)
  rw [hacc,List.take_of_length_le (by rw [Array.length_toList];omega)]
 | succ n ih =>
  intro i h tk c acc hni hi hit hd kp hS hacc
  obtain ⟨e,he⟩:∃ e,ds[i]? = some e:=⟨_,Array.getElem?_eq_getElem (by omega)⟩
  refine codeAny_builtin F.entry_extend_loop ?_
  rw [Around.under_plainId F.plain_extend_loop]
  refine wpAny_bind (zou (s:={ s with heap:=h,toks:=tk }) hit hd he λ h' hit' hz kp'=>?_)
  have hS':=kp' _ _ nSI hS
  have haz:acc.size=i:=by rw [← Array.length_toList,hacc,List.length_map,List.length_take,Array.length_toList];omega
  refine wpAny_bind (wpAny_updateSeq (a:=S) (s:={ s with heap:=h',toks:=tk }) hS' rfl ?_ (by omega) (by rw [Array.size_push];omega))
  refine wpAny_pure ⟨plainId_quiet F.plain_extend_loop _,?_⟩
  have oth:∀ b,b≠S→(h'.update S (Obj.mapSeq λ x=>x.push e.key)).get? b=h'.get? b:=λ b hb=>Heap.get?_update_other _ _ (Ne.symm hb)
  have self:(h'.update S (Obj.mapSeq λ x=>x.push e.key)).get? S=some { cls := .type "list",data := .seq (acc.push e.key) (if (acc.push e.key).size == acc.size then c else c+1) }:=Heap.get?_update_self _ hS' rfl
  refine ih (i+1) _ tk _ _ (by omega) (by omega) (by rw [oth _ nSI.symm];exact hit') ?_ ?_ self ?_
  ·obtain ⟨o,o1,o2⟩:=hd
   exact ⟨o,by rw [oth _ ndS];exact kp' _ _ ndI o1,o2⟩
  ·intro b o hb1 hb2 q
   rw [oth _ hb1]
   exact kp' _ _ hb2 (kp b o hb1 hb2 q)
  ·have hil:i<ds.toList.length:=by rw [Array.length_toList];omega
   rw [Array.toList_push,hacc,List.take_succ_eq_append_getElem hil,List.map_append]
   have:ds.toList[i]=e:=by
    have:=(Array.getElem?_eq_some_iff.mp he).2
    rw [Array.getElem_toList];exact this
   rw [this]
   rfl
theorem zdj {R:List Value→Shared→Prop} (hh:A.handled=none) (hT:s.TypeIs (.ref d) "dict") (hb:(d == sysModules)=false) (hd:RawD s.heap d ds ep) (hn:ds.size≤sizeLine)
  (k:∀ h' tk,(∀ b o,s.heap.get? b=some o→h'.get? b=some o)→R (ds.toList.map (·.key)) { s with heap:=h',toks:=tk }):wpAny (model prog w) A (collect (.ref d)) R E s:=by
 unfold collect
 refine wpAny_bind (wpAny_runValue (codeAny_builtin entry_proto_collect' ?_))
 rw [Around.under_plainId F.plain_proto_collect]
 refine wpAny_bind (wpAny_newObj_type (wpAny_pure ⟨plainId_quiet F.plain_list_iadd _,codeAny_builtin entry_list_iadd' ?_⟩))
 rw [Around.under_plainId F.plain_list_iadd]
 obtain ⟨o,d1,d2,d3⟩:=id hd
 obtain ⟨h1,hh1⟩:∃ h1,h1=s.heap.push { cls := .type "list",data := .seq (#[]:Array Value) }:=⟨_,rfl⟩
 have hS1:h1.get? s.heap.objs.size=some { cls := .type "list",data := .seq #[] }:=by rw [hh1];exact Heap.get?_push_size _ rfl
 have kp1:∀ b ob,s.heap.get? b=some ob→h1.get? b=some ob:=λ b ob e=>by rw [hh1];exact Heap.get?_push_of_some _ e
 have z1:h1.objs.size=s.heap.objs.size+1:=by rw [hh1,Heap.size_push]
 have hd1:RawD h1 d ds ep:=⟨o,kp1 _ _ d1,d2,d3⟩
 have hT1:({ s with heap:=h1 }:Shared).TypeIs (.ref d) "dict" := ⟨o,kp1 _ _ d1,d2⟩
 show wpAny _ _ (Builtin.«list.__iadd__» _) _ _ { s with heap:=s.heap.push { cls := .type "list",data := .seq (#[]:Array Value) } }
 rw [← hh1]
 unfold Builtin.«list.__iadd__»
 refine wpAny_bind (wpAny_pure ?_)
 show wpAny _ _ (Builtin.List.listExtendWith (.ref s.heap.objs.size) (.ref d) (.ref s.heap.objs.size)) _ _ _
 unfold Builtin.List.listExtendWith
 refine wpAny_bind (wpAny_typeOf hT1 ?_)
 have ndS:d≠s.heap.objs.size:=Nat.ne_of_lt (Heap.lt_size d1)
 rw [if_neg (by simp [Builtin.List.listSameRef,ndS.symm])]
 refine wpAny_bind (zfq (s:={ s with heap:=h1 }) hT1 hd1 hb ?_)
 obtain ⟨h2,hh2⟩:∃ h2,h2=h1.push (zdp d 0 ds.size ep):=⟨_,rfl⟩
 have z2:h2.objs.size=h1.objs.size+1:=by rw [hh2,Heap.size_push]
 have kp2:∀ b ob,h1.get? b=some ob→h2.get? b=some ob:=λ b ob e=>by rw [hh2];exact Heap.get?_push_of_some _ e
 have i2:h2.get? h1.objs.size=some (zdp d 0 ds.size ep):=by rw [hh2];exact Heap.get?_push_size _ rfl
 show wpAny _ _ _ _ _ { s with heap:=h1.push (zdp d 0 ds.size ep) }
 rw [← hh2]
 have hT2:({ s with heap:=h2 }:Shared).TypeIs (.ref d) "dict" := ⟨o,kp2 _ _ (kp1 _ _ d1),d2⟩
 refine wpAny_bind (wpAny_holding (W.kdl_hint_dict hT2 ?_))
 have nSI:s.heap.objs.size≠h1.objs.size:=by rw [z1];exact Nat.ne_of_lt (Nat.lt_succ_self _)
 have ndI:d≠h1.objs.size:=Nat.ne_of_lt (Heap.lt_size (kp1 _ _ d1))
 have fin:∀ h3 c,h3.objs.size=h2.objs.size→(∀ b,b≠s.heap.objs.size→h3.get? b=h2.get? b)→h3.get? s.heap.objs.size=some { cls := .type "list",data := .seq #[] c } →
   codeAny (model prog w) A (.builtin "list.extend.loop" ⟨[.ref s.heap.objs.size,.ref h1.objs.size,.ref s.heap.objs.size],[]⟩) (λ r s'=>∃ h' tk acc c',r = .ok (.ret (.ref s.heap.objs.size))∧s'={ s with heap:=h',toks:=tk }∧(∀ b ob,s.heap.get? b=some ob→h'.get? b=some ob)∧h'.get? s.heap.objs.size=some { cls := .type "list",data := .seq acc c' }∧acc.toList=ds.toList.map (·.key)) { s with heap:=h3,toks:=s.toks }:=by
  intro h3 c z3 oth3 hS3
  refine zxq (ep:=ep) (d:=d) (h1:=h2) hh hn nSI ndS ndI (.ref s.heap.objs.size) ?_ (ds.size - 0) 0 h3 s.toks c #[] rfl (Nat.zero_le _) (by rw [oth3 _ nSI.symm];exact i2) ⟨o,by rw [oth3 _ ndS];exact kp2 _ _ (kp1 _ _ d1),d2,d3⟩ (λ b ob hb1 hb2 e=>by rw [oth3 _ hb1];exact e) hS3 rfl
  intro h' tk acc c' kp' hS' hacc
  exact ⟨h',tk,acc,c',rfl,rfl,λ b ob e=>kp' b ob (Nat.ne_of_lt (Heap.lt_size e)) (Nat.ne_of_lt (Heap.lt_size (kp1 _ _ e))) (kp2 _ _ (kp1 _ _ e)),hS',hacc⟩
 refine wpAny_ite_split (λ _=>?_) (λ _=>?_)
 ·refine wpAny_bind (wpAny_rule (wpAny_bind (wpAny_bind (wpAny_updateSeq (a:=s.heap.objs.size) (s:={ s with heap:=h2 }) (kp2 _ _ hS1) rfl ?_ (Nat.zero_le _) (by show 1≤_;rw [sizeLine_eq];omega)))))
  have self:(h2.update s.heap.objs.size (Obj.mapSeq λ x=>x.push .none)).get? s.heap.objs.size=some { cls := .type "list",data := .seq #[.none] 1 }:=Heap.get?_update_self _ (kp2 _ _ hS1) rfl
  refine wpAny_updateSeq (a:=s.heap.objs.size) self rfl ?_ (by show 1≤_;rw [sizeLine_eq];omega) (Nat.zero_le _)
  refine wpAny_pure ⟨plainId_quiet F.plain_extend_loop _,codeAny_mono (fin _ 2 ?_ ?_ ?_) λ r s' ⟨h',tk,acc,c',e1,e2,kp',hS',hacc⟩=>?_⟩
  ·rw [Heap.size_update,Heap.size_update]
  ·intro b hb
   rw [Heap.get?_update_other _ _ (Ne.symm hb),Heap.get?_update_other _ _ (Ne.symm hb)]
  ·exact Heap.get?_update_self _ self rfl
  ·subst e1 e2
   refine wpAny_bind (wpAny_load hS' ?_)
   dsimp only
   rw [hacc]
   exact wpAny_pure (k h' tk kp')
 ·refine wpAny_pure ⟨plainId_quiet F.plain_extend_loop _,codeAny_mono (fin h2 0 rfl (λ _ _=>rfl) (kp2 _ _ hS1)) λ r s' ⟨h',tk,acc,c',e1,e2,kp',hS',hacc⟩=>?_⟩
  subst e1 e2
  refine wpAny_bind (wpAny_load hS' ?_)
  dsimp only
  rw [hacc]
  exact wpAny_pure (k h' tk kp')
end
theorem zsj {ks:List Mark} (nd:ks.Nodup) (few:ks.length<64):Srt ks (λ m=>[.int m.1,.int m.2]) mLt .int where
 sto:=mLt_sto
 few:=few
 nd:=nd
 lts:=by
  intro a _ b _
  have h:=zfn a b
  exact h
 fst:=λ a _=>⟨_,_,rfl,_,rfl⟩
 shp:=λ a _=>rfl
section
variable {X:Cx}
noncomputable def zs0 (P:Program) (w:World) (K:W.Frag):List V→Hp→VK→Prop:=λ xs H Q=>∃ (a:Addr) (es:List Ent) (o:Obj),xs=[.ref a]∧H a=some (dO P w a es o)∧(∀ e∈es,SqT K H e.2.1 (mkV e.1))∧(es.map (·.1)).Nodup∧es.length<64∧zr0 K H (es.map (·.1)) (λ m=>[.int m.1,.int m.2]) mLt Q
theorem zkk {X:Cx}:∀ {es:List Ent} {rs:List Row},Paired EntR es rs→Vals (es.map λ e=>V.ref e.2.1) ((rs.map (entryOfKey (dK X.prog X.w))).map (·.key))
 | _,_,.nil=>.nil
 | _,_,.cons a b=>.cons (show RelV (.ref _) (.ref _) from by rw [a.2.1];rfl) (zkk b)
theorem zuc (hc:X.calm=true) (hu:X.A.units+100<cLine):zvg X (.builtin "sorted") (zs0 X.prog X.w X.K):=by
 intro pins s σ H xs us Q I r h
 obtain ⟨a,es,o,rfl,ha,hk,nd,few,q⟩:=h
 obtain ⟨u,rfl,ru⟩:=zzm r
 cases ru
 obtain ⟨hT,_⟩:=I.isDict ha
 obtain ⟨h1,hb,_,ds,ep,rs,RR⟩:=I.raw ha
 refine zbc (zdj (I.ok.hd hc) hT hb ⟨o,h1,RR.cl,RR.dat⟩ (by rw [RR.size,sizeLine_eq];omega) λ h' tk kp=>?_)
 have I1:Inv X pins σ H { s with heap:=h',toks:=tk }:=I.kept (t':=tk) kp
 rw [RR.lst]
 refine zck (s:=s) hu (zsj nd (by rw [List.length_map];exact few)) I1 (zkk RR.rel) ?_ q
 have:∀ (l:List Ent),(∀ e∈l,SqT X.K H e.2.1 (mkV e.1))→DVs X.K H ((l.map (·.1)).map λ (m:Mark)=>PyData.tuple [.int m.1,.int m.2]) (l.map λ e=>V.ref e.2.1):=by
  intro l
  induction l with
  | nil=>intro _;rfl
  | cons e l ih=>intro hl;exact ⟨_,_,rfl,zsg (hl e List.mem_cons_self),ih λ e' he'=>hl e' (List.mem_cons_of_mem _ he')⟩
 exact this es hk
end
end L2
namespace L2
open PySem PySem.Spec PyProof.Rows PySem.NumText
theorem zmt (a b:Addr):Meets (Builtin.«dict.__ne__» ⟨[.ref a,.ref b],[]⟩) (λ A R s=>(a == sysModules)=false∧(b == sysModules)=false∧∃ oa ob es ea eb,s.heap.get? a=some oa∧oa.cls = .type "dict" ∧ oa.data = .dict es ea∧s.heap.get? b=some ob∧ob.cls = .type "dict" ∧ ob.data = .dict #[] eb∧R (.ok (.ret (.bool (!es.isEmpty)))) s):=by
 intro prog w A R s h
 obtain ⟨ha,hb,oa,ob,es,ea,eb,a1,a2,a3,b1,b2,b3,r⟩:=h
 have tA:s.TypeIs (.ref a) "dict" := ⟨oa,a1,a2⟩
 have tB:s.TypeIs (.ref b) "dict" := ⟨ob,b1,b2⟩
 unfold Builtin.«dict.__ne__»
 show wpAny _ _ (Builtin.Dict.dictSlotArgs "__ne__" ⟨[.ref a,.ref b],[]⟩ >>= _) _ _ _
 refine wpAny_bind (wpAny_bind (wpAny_notOrdered_dict tA (wpAny_bind (wpAny_of_eq (a:=(Value.ref a,[Value.ref b])) rfl (wpAny_pure ?_)))))
 dsimp only
 refine wpAny_bind (wpAny_isInstance tB PySem.F.sub_dict_dict ?_)
 simp only [Bool.not_true,Bool.false_eq_true,if_false]
 refine wpAny_bind (wpAny_pure (wpAny_bind (wpAny_pure ?_)))
 unfold Builtin.Dict.samePairs Builtin.Dict.showsAll
 rw [ha,hb]
 refine wpAny_bind (wpAny_bind (wpAny_of_eq (a:=()) (if_neg Bool.false_ne_true) (wpAny_bind (wpAny_of_eq (a:=()) (if_neg Bool.false_ne_true) ?_))))
 refine wpAny_bind (wpAny_dictEntries a1 a3 (wpAny_bind (wpAny_dictEntries b1 b3 ?_)))
 by_cases he:es.size=0
 ·have e0:es = #[]:=Array.eq_empty_of_size_eq_zero he
  subst e0
  rw [if_neg (by simp)]
  refine wpAny_bind (wpAny_dictEpoch a1 a3 (wpAny_bind (wpAny_of_eq (a:=((none:Option Bool),())) (by simp) ?_)))
  exact wpAny_pure (wpAny_pure r)
 ·rw [if_pos (by simpa using he)]
  refine wpAny_bind (wpAny_rule (wpAny_pure (wpAny_pure ?_)))
  have:es.isEmpty=false:=by
   rw [Array.isEmpty]
   exact decide_eq_false he
  rw [this] at r
  exact r
section
variable {X:Cx}
noncomputable def rNeE (P:Program) (w:World):R2:=λ x y H Q=>∃ a b es o ob,x = .ref a∧y = .ref b∧H a=some (dO P w a es o)∧H b=some (dO P w b [] ob)∧Q (.bl (!decide (es=[]))) H
theorem zoz (hu:X.A.units+100<cLine):OpR X (compareOp .NotEq) (rNeE X.prog X.w):=by
 intro pins s σ H x y v u Q I rx ry h
 obtain ⟨a,b,es,o,ob,rfl,rfl,ha,hb,q⟩:=h
 cases rx
 cases ry
 obtain ⟨hTa,_⟩:=I.isDict ha
 obtain ⟨hTb,_⟩:=I.isDict hb
 obtain ⟨h1,sa,_,ds,ep,rs,RR⟩:=I.raw ha
 obtain ⟨g1,sb,_,ds2,ep2,rs2,RR2⟩:=I.raw hb
 have e2:ds2 = #[]:=Array.eq_empty_of_size_eq_zero (by rw [RR2.size];rfl)
 subst e2
 show wpAny _ _ (richCompare .NotEq (.ref a) (.ref b)) _ _ _
 refine richCompare_meets_room (op := .NotEq) hTa hTb PySem.F.slot_dict_ne PySem.F.entry_dict_ne (PySem.F.args_dict_ne_2 _ _) (zmt a b) ⟨sa,sb,o,ob,ds,ep,ep2,h1,RR.cl,RR.dat,g1,RR2.cl,RR2.dat,?_⟩ (by omega)
 refine ⟨(λ z=>by cases z),V.bl (!decide (es=[])),H,I,?_,q⟩
 have:ds.isEmpty=decide (es=[]):=by
  rw [Array.isEmpty]
  have hz:=RR.size
  by_cases e:es=[]
  ·rw [decide_eq_true e]
   rw [e] at hz
   exact decide_eq_true hz
  ·rw [decide_eq_false e]
   refine decide_eq_false λ z=>e ?_
   rw [z] at hz
   exact List.length_eq_zero_iff.mp hz.symm
 rw [this]
 rfl
end
noncomputable def zer (es:List Ent) (m:Mark):List Ent:=es.filter λ e => !decide (e.1=m)
theorem zak {α β:Type} (f:α→β):∀ (l:List α) (j:Nat),(l.map f).eraseIdx j=(l.eraseIdx j).map f
 | [],j=>by simp
 | x::l,0=>rfl
 | x::l,j+1=>by rw [List.map_cons,List.eraseIdx_cons_succ,List.eraseIdx_cons_succ,List.map_cons,zak f l j]
theorem zlk:∀ {xs:List Row} {k:List Key} {p:Addr×Value} {j:Nat},(xs.map (·.1)).Nodup→xs[j]? = some (k,p)→xs.eraseIdx j=xs.filter λ y => !decide (y.1=k)
 | [],k,p,j,_,h=>by simp at h
 | x::xs,k,p,0,nd,h=>by
  cases (Option.some.inj h)
  have hn:=(List.nodup_cons.mp nd).1
  rw [List.eraseIdx_cons_zero,List.filter_cons_of_neg (by simp)]
  refine (List.filter_eq_self.mpr λ y hy=>?_).symm
  have:y.1≠k:=λ e=>hn (by rw [← e];exact List.mem_map_of_mem (f:=(·.1)) hy)
  simp [this]
 | x::xs,k,p,j+1,nd,h=>by
  have hx:x.1≠k:=λ e=>by
   have hm:(k,p)∈xs:=List.mem_of_getElem? (show xs[j]? = some (k,p) by simpa using h)
   exact (List.nodup_cons.mp nd).1 (by show x.1∈_;rw [e];exact List.mem_map_of_mem (f:=(·.1)) hm)
  rw [List.eraseIdx_cons_succ,List.filter_cons_of_pos (by simp [hx]),zlk (List.nodup_cons.mp nd).2 (by simpa using h)]
section
variable {prog:Program} {w:World} {A:Around} {E:Value→Shared→Prop} {s:Shared} {d q:Addr}
theorem zlt {Q:Option DictEntry→Shared→Prop} {xs:List Row} {m:Mark} {k:List Key} (room:(dK prog w).room A) (hk:(dK prog w).is s.heap k q) (hd:s.heap.DictOfH (dK prog w) d xs) (hn:xs.length≤1000)
  (h0:(∀ x∈xs,x.1≠k)→∀ tk,Q none { s with toks:=tk })
  (h1:∀ x∈xs,x.1=k→∀ h' tk,h'.DictOfH (dK prog w) d (xs.filter λ y => !decide (y.1=k))→Heap.SameBut d s.heap h'→Q (some (entryOfKey (dK prog w) x)) { s with heap:=h',toks:=tk }) :
  wpAny (model prog w) A (Builtin.Dict.takeOut d (.ref q)) Q E s:=by
 obtain ⟨o,es,ep,o1,oE,o2,o3,o4,o5⟩:=hd
 unfold Builtin.Dict.takeOut
 refine wpAny_holding (wpAny_bind ((dK prog w).pyHash room hk ?_))
 refine wpAny_bind (wpAny_dictFind_heap (s:={ s with toks:=s.toks+(dK prog w).draws k }) room hk o1 o2 o3 o4 o5 (λ hno=>?_) (λ j p hj=>?_))
 ·exact wpAny_pure (h0 (λ x hx e=>by
   obtain ⟨i,hi⟩:=List.getElem?_of_mem hx
   obtain ⟨x1,x2⟩:=x
   have e:x1=k:=e
   subst e
   exact hno i x2 hi) _)
 ·dsimp only
  refine wpAny_bind (wpAny_dictEntries o1 o2 ?_)
  have hej:es[j]? = some (entryOfKey (dK prog w) (k,p)):=by
   rw [← Array.getElem?_toList,o3,List.getElem?_map,hj]
   rfl
  rw [hej]
  dsimp only
  have hsz:es.size=xs.length:=by rw [← Array.length_toList,o3,List.length_map]
  have hjl:j<es.size:=(Array.getElem?_eq_some_iff.mp hej).1
  have er:(es.eraseIdxIfInBounds j).toList=es.toList.eraseIdx j:=by simp [Array.eraseIdxIfInBounds,hjl]
  refine wpAny_bind (wpAny_updateDictKeys o1 o2 (wpAny_pure ?_) (by rw [hsz,sizeLine_eq];omega) (by rw [← Array.length_toList,er,List.length_eraseIdx,Array.length_toList];split <;> omega))
  have hxm:(k,p)∈xs:=List.mem_of_getElem? hj
  have hfl:xs.eraseIdx j=xs.filter λ y => !decide (y.1=k):=zlk o5 hj
  have hget:(s.heap.update d (Obj.mapDictKeys λ x=>x.eraseIdxIfInBounds j)).get? d=some (Obj.mapDictKeys (λ x=>x.eraseIdxIfInBounds j) o):=Heap.get?_update_self _ o1 (by obtain ⟨c1,c2,c3,c4⟩:=o;cases o2;rfl)
  have sb:=Heap.SameBut.update s.heap d (Obj.mapDictKeys λ x=>x.eraseIdxIfInBounds j)
  refine h1 (k,p) hxm rfl _ _ ⟨_,es.eraseIdxIfInBounds j,ep+1,hget,?_,?_,?_,λ x hx=>?_,?_⟩ sb
  ·obtain ⟨c1,c2,c3,c4⟩:=o
   cases o2
   exact oE
  ·obtain ⟨c1,c2,c3,c4⟩:=o
   cases o2
   rfl
  ·rw [er,← hfl,o3]
   exact zak _ _ _
  ·exact (dK prog w).keeps (o4 x (List.mem_filter.mp hx).1) o1 o2 sb
  ·exact List.Nodup.sublist (List.Sublist.map _ List.filter_sublist) o5
end
end L2
namespace L2
open PySem PySem.Spec PyProof.Rows PySem.NumText
theorem zfj:∀ {es:List Ent} {xs:List Row},Paired EntR es xs→∀ m,Paired EntR (zer es m) (xs.filter λ y => !decide (y.1=mkK m))
 | _,_,.nil,m=>.nil
 | e::es,x::xs,.cons a b,m=>by
  unfold zer
  by_cases h:e.1=m
  ·rw [List.filter_cons_of_neg (by simp [h]),List.filter_cons_of_neg (by rw [a.1,h];simp)]
   exact zfj b m
  ·rw [List.filter_cons_of_pos (by simp [h]),List.filter_cons_of_pos (by rw [a.1];simp;exact λ z=>h (zwh z))]
   exact .cons a (zfj b m)
theorem zim:∀ {es:List Ent} {xs:List Row},Paired EntR es xs→∀ m,(zab es m=none→∀ x∈xs,x.1≠mkK m)∧∀ v,zab es m=some v→∃ x∈xs,x.1=mkK m
 | _,_,.nil,m=>⟨(λ _ x hx=>by cases hx),(λ v h=>by cases h)⟩
 | e::es,x::xs,.cons a b,m=>by
  obtain ⟨h1,h2⟩:=zim b m
  unfold zab
  by_cases h:e.1=m
  ·rw [if_pos h]
   exact ⟨(λ z=>by cases z),λ v _=>⟨x,List.mem_cons_self,by rw [a.1,h]⟩⟩
  ·rw [if_neg h]
   refine ⟨λ z y hy=>?_,λ v hv=>?_⟩
   ·rcases List.mem_cons.mp hy with rfl | hy
    ·rw [a.1];exact λ z=>h (zwh z)
    ·exact h1 z y hy
   ·obtain ⟨y,hy,e⟩:=h2 v hv
    exact ⟨y,List.mem_cons_of_mem _ hy,e⟩
theorem zrk:∀ {es:List Ent} {xs:List Row},Paired EntR es xs→(xs.map (·.1)).Nodup→∀ {m:Mark} {x:Row},x∈xs→x.1=mkK m→∃ v,zab es m=some v∧RelV v x.2.2
 | _,_,.nil,_,m,x,hx,_=>by cases hx
 | e::es,y::xs,.cons a b,nd,m,x,hx,ek=>by
  unfold zab
  obtain ⟨n1,n2⟩:=List.nodup_cons.mp nd
  by_cases h:e.1=m
  ·rw [if_pos h]
   rcases List.mem_cons.mp hx with rfl | hx
   ·exact ⟨_,rfl,a.2.2⟩
   ·exact absurd (show y.1∈xs.map (·.1) by rw [a.1,h,← ek];exact List.mem_map_of_mem (f:=(·.1)) hx) n1
  ·rw [if_neg h]
   rcases List.mem_cons.mp hx with rfl | hx
   ·rw [a.1] at ek;exact absurd (zwh ek) h
   ·exact zrk b n2 hx ek
section
variable {prog:Program} {w:World} {A:Around} {E:Value→Shared→Prop} {s:Shared} {d q:Addr}
theorem zlv {R:Result→Shared→Prop} {xs:List Row} {k:List Key} (dflt:Option Value) (room:(dK prog w).room A.in1) (hs:(d == sysModules)=false) (hk:(dK prog w).is s.heap k q) (hd:s.heap.DictOfH (dK prog w) d xs) (hn:xs.length≤1000)
  (h0:(∀ x∈xs,x.1≠k)→∃ v,dflt=some v∧∀ tk,R (.ok (.ret v)) { s with toks:=tk })
  (h1:∀ x∈xs,x.1=k→∀ h' tk,h'.DictOfH (dK prog w) d (xs.filter λ y => !decide (y.1=k))→Heap.SameBut d s.heap h'→R (.ok (.ret x.2.2)) { s with heap:=h',toks:=tk }) :
  wpAny (model prog w) A.in1 (Builtin.«dict.pop» ⟨.ref d :: .ref q::dflt.toList,[]⟩) (λ fin s'=>match fin with | .done f=>R (.ok f) s' | .again c'=>c'.quiet=true∧codeAny (model prog w) A c' R s') (λ e s'=>R (.error e) s') s:=by
 obtain ⟨o,es,ep,o1,oE,o2,o3,o4,o5⟩:=id hd
 have tD:s.TypeIs (.ref d) "dict" := ⟨o,o1,oE.1⟩
 unfold Builtin.«dict.pop» Builtin.Dict.keyAndDefault
 refine wpAny_bind (wpAny_bind (wpAny_notOrdered_dict tD ?_))
 have hsz:es.size=xs.length:=by rw [← Array.length_toList,o3,List.length_map]
 have go:wpAny (model prog w) A.in1 (do
   let old ← if es.isEmpty=true then do rule "dict.pop.empty";pure none else Builtin.Dict.takeOut d (.ref q)
   if old.isNone=true then Builtin.Dict.missedRemoval d (.ref q)
   match old,dflt with
   | some e,_=>do letGo [e.key] [e.val];ret e.val
   | none,some x=>do rule "dict.pop.default";ret x
   | none,none=>do rule "dict.pop.keyerror";let x ← newExc (.type "KeyError") [.ref q];raiseNew x) (λ fin s'=>match fin with | .done f=>R (.ok f) s' | .again c'=>c'.quiet=true∧codeAny (model prog w) A c' R s') (λ e s'=>R (.error e) s') s:=by
  have miss:Builtin.Dict.missedRemoval d (.ref q)=pure ():=by
   unfold Builtin.Dict.missedRemoval
   rw [hs]
   rfl
  have gone:∀ tk,(∀ x∈xs,x.1≠k)→wpAny (model prog w) A.in1 (do
    if (none:Option DictEntry).isNone=true then Builtin.Dict.missedRemoval d (.ref q)
    match (none:Option DictEntry),dflt with
    | some e,_=>do letGo [e.key] [e.val];ret e.val
    | none,some x=>do rule "dict.pop.default";ret x
    | none,none=>do rule "dict.pop.keyerror";let x ← newExc (.type "KeyError") [.ref q];raiseNew x) (λ fin s'=>match fin with | .done f=>R (.ok f) s' | .again c'=>c'.quiet=true∧codeAny (model prog w) A c' R s') (λ e s'=>R (.error e) s') { s with toks:=tk }:=by
   intro tk hno
   obtain ⟨v,rfl,hv⟩:=h0 hno
   simp only [Option.isNone_none,if_true]
   rw [miss]
   refine wpAny_bind (wpAny_pure ?_)
   exact wpAny_bind (wpAny_rule (wpAny_pure (hv tk)))
  by_cases he:es.isEmpty=true
  ·rw [if_pos he]
   refine wpAny_bind (wpAny_bind (wpAny_rule (wpAny_pure ?_)))
   refine gone s.toks λ x hx=>?_
   have:xs.length=0:=by rw [← hsz];simpa using he
   rw [List.length_eq_zero_iff.mp this] at hx
   cases hx
  ·rw [if_neg he]
   refine wpAny_bind (zlt (m:=(0,0)) room hk hd hn (λ hno tk=>gone tk hno) (λ x hx e h' tk hd' sb=>?_))
   simp only [Option.isNone_some,Bool.false_eq_true,if_false]
   exact wpAny_bind (wpAny_letGo (wpAny_pure (h1 x hx e h' tk hd' sb)))
 refine wpAny_bind (wpAny_of_eq (a:=()) rfl ?_)
 cases dflt with
 | none =>
  refine wpAny_bind (wpAny_of_eq (a:=(Value.ref d,[Value.ref q])) rfl (wpAny_bind (wpAny_pure (wpAny_pure ?_))))
  dsimp only
  rw [if_neg (show ¬ (keyPart (Value.ref q)).isSome=true from Bool.false_ne_true)]
  refine wpAny_bind (wpAny_dictEntries o1 o2 (wpAny_bind (wpAny_pure ?_)))
  exact go
 | some v =>
  refine wpAny_bind (wpAny_of_eq (a:=(Value.ref d,[Value.ref q,v])) rfl (wpAny_bind (wpAny_pure (wpAny_pure ?_))))
  dsimp only
  rw [if_neg (show ¬ (keyPart (Value.ref q)).isSome=true from Bool.false_ne_true)]
  refine wpAny_bind (wpAny_dictEntries o1 o2 (wpAny_bind (wpAny_pure ?_)))
  exact go
end
section
variable {X:Cx} {o e:Expr} {td ty:TE} {apos cpos:Pos}
noncomputable def zbz (P:Program) (w:World) (K:W.Frag) (td ty:TE) (dflt:Bool):TE:=λ σ H Q=>td σ H λ x H1=>∃ a es,x = .ref a∧DM P w K H1 a es∧ty σ H1 λ y H2=>∃ q m,y = .ref q∧DM P w K H2 a es∧SqT K H2 q (mkV m)∧es.length≤1000∧(∀ v,zab es m=some v→∀ o,Q v (upd H2 a (dO P w a (zer es m) o)))∧(zab es m=none→dflt=true∧Q .non H2)
theorem zcx {pins:List (Addr×Obj)} {s:Shared} {σ:St} {H:Hp} {Q:VK} (hu:X.A.units+1<cLine) (I:Inv X pins σ H s) {a q:Addr} {es:List Ent} {m:Mark} (D:DM X.prog X.w X.K H a es) (hm:SqT X.K H q (mkV m)) (hl:es.length≤1000) (dflt:Bool)
  (q1:∀ v,zab es m=some v→∀ o,Q v (upd H a (dO X.prog X.w a (zer es m) o))) (q0:zab es m=none→dflt=true∧Q .non H) :
  wpAny (model X.prog X.w) X.A (call (.builtin "dict.pop") (.ref a :: .ref q::(if dflt=true then some Value.none else none).toList)) (EP X pins σ Q) X.xe s:=by
 obtain ⟨z,hd,xs,r,dd⟩:=I.dict D
 have hxl:xs.length≤1000:=by rw [← Paired.length r];exact hl
 obtain ⟨o1,o2⟩:=D.ob
 have nd:(xs.map (·.1)).Nodup:=by obtain ⟨_,_,_,_,_,_,_,_,h⟩:=dd;exact h
 obtain ⟨f1,f2⟩:=zim r m
 have hT:s.TypeIs (.ref a) "dict" := dd.typeIs
 have args:argsOk "dict.pop" ⟨.ref a :: .ref q::(if dflt=true then some Value.none else none).toList,[]⟩:=by
  cases dflt with
  | true=>exact F.args_dict_pop_3 _ _ _
  | false=>exact F.args_dict_pop_2 _ _
 refine call_meetsIn (S:=λ A R s'=>(dK X.prog X.w).room A.in1∧s'=s∧((∀ x∈xs,x.1≠mkK m)→∃ v,(if dflt=true then some Value.none else none)=some v∧∀ tk,R (.ok (.ret v)) { s with toks:=tk })∧(∀ x∈xs,x.1=mkK m→∀ h' tk,h'.DictOfH (dK X.prog X.w) a (xs.filter λ y => !decide (y.1=mkK m))→Heap.SameBut a s.heap h'→R (.ok (.ret x.2.2)) { s with heap:=h',toks:=tk })) PySem.F.slot_dict_pop hT PySem.F.entry_dict_pop args ?_ ⟨tupleKind_room_in1 hu,rfl,λ hno=>?_,λ x hx e h' tk hd' sb=>?_⟩
 ·rintro A R s' ⟨room,rfl,h0,h1⟩
  exact zlv _ room hd (I.mark hm) dd hxl h0 h1
 ·have hn:zab es m=none:=by
   cases h:zab es m with
   | none=>rfl
   | some v =>
    obtain ⟨x,hx,e⟩:=f2 v h
    exact absurd e (hno x hx)
  obtain ⟨rfl,q0'⟩:=q0 hn
  exact ⟨.none,rfl,λ tk=>⟨.non,H,I.kept (t':=tk) (λ _ _ e=>e),rfl,q0'⟩⟩
 ·obtain ⟨v,hv,rv⟩:=zrk r nd hx e
  have he:∃ ob,h'.get? a=some ob:=let ⟨ob,_,_,hq,_⟩:=hd'; ⟨ob,hq⟩
  obtain ⟨ob,hob⟩:=zcu (P:=X.prog) (w:=X.w) (H:=H) (es:=zer es m) (Nat.le_trans (List.length_filter_le _ _) z) hd (zfj r m) hd'
  exact ⟨v,_,I.write (t':=tk) (x:=a) (e:=a) (by rw [o2];exact True.intro) (.inl rfl) (λ b ob hb z=>(sb.2 b hb).trans z) he hob,rv,q1 v hv ob⟩
theorem zsu (hu:X.A.units+1<cLine) (ho:PE X o td) (he:PE X e ty) (hbase:attributeBase o "pop" X.env (eval o X.env)=eval o X.env:=by rfl)
  (hfew:((backTo cpos (starEach [e] X.env)).all (λ x => !x.1) && (backToKw cpos (keywordEach [] X.env)).all (λ x=>x.1.isSome)
   && decide (([e]:List Expr).length+([]:List Keyword).length+(if ([]:List Keyword).isEmpty then 0 else 1)<30))=true:=by rfl)
  (hline:(apos.endLine == cpos.line)=true:=by rfl) (htr:backTo cpos (starEach [e] X.env)=[(false,eval e X.env)]:=by rfl):PE X (.Call (.Attribute o "pop" apos) [e] [] cpos) (zbz X.prog X.w X.K td ty false) := .mk <| by
 intro pins s σ H Q I h
 refine wpAny_Call_method hbase hfew hline PySem.F.plainAttrs_dict PySem.F.slot_dict_pop PySem.F.type_dict_pop (thn (ho pins s σ H _ I h) λ u s1 ⟨x,H1,I1,rx,a,es,ex,D,q1⟩=>?_)
 subst ex
 cases rx
 obtain ⟨_,_,xs,_,dd⟩:=I1.dict D
 refine ⟨dd.typeIs,λ b q=>?_,?_⟩
 ·cases q
  obtain ⟨ob,_,_,h1,h2,_⟩:=dd
  exact ⟨ob,h1,h2.2.1⟩
 rw [htr]
 refine Calls.callWith_builtin rfl (Calls.evalArgs_plain (Calls.spliced_cons (thn (he pins s1 σ H1 _ I1 q1) λ iv s2 ⟨y,H2,I2,ry,q,m,ey,D2,hm,hl,k1,k0⟩=>Calls.spliced_nil ?_)))
 subst ey
 cases ry
 exact zcx hu I2 D2 hm hl false k1 k0
theorem zdu {j:Nat} {np:Pos} (hu:X.A.units+1<cLine) (ho:PE X o td) (he:PE X e ty) (hbase:attributeBase o "pop" X.env (eval o X.env)=eval o X.env:=by rfl)
  (hfew:((backTo cpos (starEach [e,.Constant .none j np] X.env)).all (λ x => !x.1) && (backToKw cpos (keywordEach [] X.env)).all (λ x=>x.1.isSome)
   && decide (([e,.Constant .none j np]:List Expr).length+([]:List Keyword).length+(if ([]:List Keyword).isEmpty then 0 else 1)<30))=true:=by rfl)
  (hline:(apos.endLine == cpos.line)=true:=by rfl) (htr:backTo cpos (starEach [e,.Constant .none j np] X.env)=[(false,eval e X.env),(false,eval (.Constant .none j np) X.env)]:=by rfl):PE X (.Call (.Attribute o "pop" apos) [e,.Constant .none j np] [] cpos) (zbz X.prog X.w X.K td ty true) := .mk <| by
 intro pins s σ H Q I h
 refine wpAny_Call_method hbase hfew hline PySem.F.plainAttrs_dict PySem.F.slot_dict_pop PySem.F.type_dict_pop (thn (ho pins s σ H _ I h) λ u s1 ⟨x,H1,I1,rx,a,es,ex,D,q1⟩=>?_)
 subst ex
 cases rx
 obtain ⟨_,_,xs,_,dd⟩:=I1.dict D
 refine ⟨dd.typeIs,λ b q=>?_,?_⟩
 ·cases q
  obtain ⟨ob,_,_,h1,h2,_⟩:=dd
  exact ⟨ob,h1,h2.2.1⟩
 rw [htr]
 refine Calls.callWith_builtin rfl (Calls.evalArgs_plain (Calls.spliced_cons (thn (he pins s1 σ H1 _ I1 q1) λ iv s2 ⟨y,H2,I2,ry,q,m,ey,D2,hm,hl,k1,k0⟩=>Calls.spliced_cons (Constant_none (Calls.spliced_nil ?_)))))
 subst ey
 cases ry
 exact zcx hu I2 D2 hm hl true k1 k0
end
end L2
namespace L2
open PySem PySem.Spec PyProof.Rows PySem.NumText
theorem slot_si_next:Slot "set_iterator" (Str.ofString "__next__") "set_iterator.__next__" := by
 refine Slot.of (owner := "set_iterator") (n := "__next__") ?_ ?_ ?_ ?_ ?_ ?_ ?_
 ·rw [typeLookup_type,builtinLookup_eq_fast];rfl
 ·decide +kernel
 ·decide +kernel
 ·decide +kernel
 ·exact Or.inl (by decide +kernel)
 ·rw [isSubtype_type];rfl
 ·decide +kernel
theorem zvd:entryFor table "set_iterator.__next__" = some Builtin.«set_iterator.__next__» := entryFor_of_tree (by rfl)
theorem zlf:entryFor table "set.__iter__" = some Builtin.«frozenset.__iter__» := entryFor_alias (id' := "frozenset.__iter__") (by rfl) (by rfl) (by decide +kernel) (by rfl)
theorem zws (a:Value):argsOk "set_iterator.__next__" ⟨[a],[]⟩:=by rfl
section
variable {prog:Program} {w:World} {A:Around} {E:Value→Shared→Prop} {s:Shared} {a it:Addr}
theorem zxu {Q:Bool→Shared→Prop} {r:Addr} (hT:s.TypeIs (.ref r) "set") (h:Q false s):wpAny (model prog w) A (Builtin.List.listLengthHint (.ref r)) Q E s:=by
 unfold Builtin.List.listLengthHint
 refine wpAny_bind (wpAny_specialOf hT F.slot_set_len.lookup ?_)
 have sp:splitId "set.__len__" = some ("set", "__len__"):=by decide +kernel
 dsimp only
 rw [sp]
 have sub:isSubtype (.type "set") (.type "set")=pure true:=by rw [isSubtype_type];rfl
 refine wpAny_bind (wpAny_isInstance hT sub ?_)
 rw [if_neg (by decide)]
 rw [if_pos (by decide +kernel)]
 refine wpAny_bind (wpAny_typeOf hT ?_)
 exact wpAny_pure h
end
end L2
namespace L2
open PySem PySem.Spec PyProof.Rows PySem.NumText
section
variable {prog:Program} {w:World} {A:Around} {E:Value→Shared→Prop} {s:Shared} {a it:Addr}
end
section
variable {X:Cx}
end
end L2
namespace L2
open PySem PySem.Spec PyProof.Rows PySem.NumText
theorem zyh {α:Type}:∀ (l:List α) (n:Nat) (h:n<l.length),(l[n]::l.eraseIdx n).Perm l
 | [],n,h=>by simp at h
 | x::l,0,_=>.refl _
 | x::l,n+1,h=>by
  have hl:n<l.length:=by simpa using h
  show (l[n]::x::l.eraseIdx n).Perm (x::l)
  exact (List.Perm.swap _ _ _).trans (.cons _ (zyh l n hl))
theorem zvs {α:Type} (next:Nat→Nat):∀ (fuel k:Nat) (left:List α) (out:Array α),left.length=fuel→(pickOrder.go next fuel k left out).toList.Perm (out.toList++left)
 | 0,k,left,out,h=>by
  rw [List.length_eq_zero_iff.mp h,List.append_nil]
  unfold pickOrder.go
  exact .refl _
 | fuel+1,k,left,out,h=>by
  unfold pickOrder.go
  have hl:next k % left.length<left.length:=Nat.mod_lt _ (by omega)
  rw [List.getElem?_eq_getElem hl]
  dsimp only
  refine (zvs next fuel (k+1) _ _ (by rw [List.length_eraseIdx_of_lt hl];omega)).trans ?_
  rw [Array.toList_push,List.append_assoc]
  refine List.Perm.append_left _ ?_
  show (left[next k % left.length]::left.eraseIdx (next k % left.length)).Perm left
  exact zyh left _ hl
theorem zeq {α:Type} (next:Nat→Nat) (xs:Array α):(pickOrder next xs).toList.Perm xs.toList:=by
 unfold pickOrder
 have:=zvs next xs.size 0 xs.toList #[] (by simp)
 simpa using this
noncomputable def byT (w:World):Bool:=w.params.followText "set-order"
noncomputable def zkd (w:World) (a:Addr) (ep:Nat) (es:Array (Int×Value)):Array (Int×Value):=if byT w=true then pickOrder (w.params.setOrder a ep) es else es
theorem walk_perm {w:World} {a:Addr} {ep:Nat} {es:Array (Int×Value)}:(zkd w a ep es).toList.Perm es.toList:=by
 unfold zkd
 split
 ·exact zeq _ _
 ·exact .refl _
theorem zbg {w:World} {a:Addr} {ep:Nat} {es:Array (Int×Value)}:(zkd w a ep es).size=es.size:=by
 rw [← Array.length_toList,walk_perm.length_eq,Array.length_toList]
noncomputable def zod (b:Bool) (t:ST) (i:Nat):Nat:=if b=true then 0 else match i with | 0=>0 | i+1=>(t.place[i]?).getD 0+1
theorem zho {t:ST} (hs:Mono t.place):∀ {i:Nat},i≤t.place.size→SetTable.below t.place (zod false t i)=i
 | 0,_=>by
  show SetTable.below t.place 0=0
  obtain ⟨h1,h2,_⟩:=zdc hs 0
  cases h:SetTable.below t.place 0 with
  | zero=>rfl
  | succ n =>
   rw [h] at h1 h2
   have:=h2 0 _ (Nat.succ_pos _) (Array.getElem?_eq_getElem (by omega))
   omega
 | i+1,hi=>by
  show SetTable.below t.place ((t.place[i]?).getD 0+1)=i+1
  have hii:i<t.place.size:=hi
  have ge:t.place[i]? = some t.place[i]:=Array.getElem?_eq_getElem hii
  rw [ge]
  show SetTable.below t.place (t.place[i]+1)=i+1
  obtain ⟨h1,h2,h3⟩:=zdc hs (t.place[i]+1)
  have u1:¬ SetTable.below t.place (t.place[i]+1)≤i:=λ z=>by
   have:=h3 i _ z ge
   omega
  have u2:¬ i+1<SetTable.below t.place (t.place[i]+1):=λ z=>by
   have hj:i+1<t.place.size:=by omega
   have g2:t.place[i+1]? = some t.place[i+1]:=Array.getElem?_eq_getElem hj
   have:=h2 (i+1) _ z g2
   have:=hs i (i+1) _ _ (Nat.lt_succ_self _) ge g2
   omega
  omega
noncomputable def zrs (a:Addr) (slot i n ep:Nat):Obj:={ cls := .type "set_iterator",data := .fields #[rawInt slot,rawInt i,.ref a,rawInt n,rawInt ep] }
structure RawS (w:World) (h:Heap) (a:Addr) (es:Array (Int×Value)) (ep:Nat) (t:ST):Prop where
 ob:∃ o,h.get? a=some o∧o.cls = .type "set" ∧ o.data = .set es ep t
 fits:t.fits es.size=true
 mono:Mono t.place
 led:byT w=true ∨ (t.led=true∧t.plain=true)
theorem RawS.kept {w:World} {h h':Heap} {a:Addr} {es:Array (Int×Value)} {ep:Nat} {t:ST} (x:RawS w h a es ep t) (k:∀ o,h.get? a=some o→h'.get? a=some o):RawS w h' a es ep t :=
 let ⟨⟨o,h1,h2⟩,f,m,l⟩:=x; ⟨⟨o,k o h1,h2⟩,f,m,l⟩
theorem RawS.pls {w:World} {h:Heap} {a:Addr} {es:Array (Int×Value)} {ep:Nat} {t:ST} (x:RawS w h a es ep t):t.place.size=es.size:=by
 have:=x.fits
 unfold SetTable.fits at this
 rw [Bool.and_eq_true] at this
 exact eq_of_beq this.1
section
variable {prog:Program} {w:World} {A:Around} {E:Value→Shared→Prop} {s:Shared} {a it:Addr} {es:Array (Int×Value)} {ep i:Nat} {t:ST}
theorem znv {Q:Value→Shared→Prop} (hs:RawS w s.heap a es ep t)
  (k:Q (.ref s.heap.objs.size) { s with heap:=s.heap.push (zrs a 0 0 es.size ep) }) :
  wpAny (model prog w) A (pyIter (.ref a)) Q E s:=by
 obtain ⟨⟨o,ho,hc,hd⟩,fit,hm,hl⟩:=hs
 have ty:s.TypeIs (.ref a) "set" := ⟨_,ho,hc⟩
 refine wpAny_pyIter_slot ty F.slot_set_iter (wpAny_call_entry F.slot_set_iter ty zlf ?_ (F.args_set_iter_1 _))
 unfold Builtin.«frozenset.__iter__» Builtin.Frozenset.slot0 Builtin.Frozenset.sizeOf
 refine wpAny_bind (wpAny_bind (wpAny_pure (wpAny_pure ?_)))
 refine wpAny_bind (wpAny_bind (wpAny_setEntries_of ho hd fit (wpAny_pure ?_)))
 unfold setDrawn setsByText
 refine wpAny_bind (wpAny_bind (wpAny_setState_of ho hd fit ?_))
 refine wpAny_bind (wpAny_bind (wpAny_askSetting (wpAny_pure (wpAny_pure ?_))))
 have e:(!byT w && (!t.plain && decide (es.size > 1)))=false:=by
  rcases hl with h | ⟨_,h⟩
  ·rw [h];rfl
  ·rw [h];cases byT w <;> rfl
 rw [if_neg (λ z=>by have:=e.symm.trans z;cases this)]
 refine wpAny_bind (wpAny_pure (wpAny_bind (wpAny_setEpoch_of ho hd fit (wpAny_bind (wpAny_newObj_type ?_ ?_)))))
 ·exact wpAny_pure ⟨_,rfl, "set_iterator",_,⟨_,Heap.get?_push_size _ rfl,rfl⟩,slot_si_next.lookup,k⟩
 ·simp only [sizeOk,List.size_toArray,List.length_cons,List.length_nil,sizeLine_eq]
  omega
theorem zuo {R:Option (Value×Nat)→Shared→Prop} (hs:RawS w s.heap a es ep t) (hi:i≤es.size)
  (k:R (((zkd w a ep es)[i]?).map λ e=>(e.2,zod (byT w) t (i+1))) s):wpAny (model prog w) A (setNext a (zod (byT w) t i) i ep) R E s:=by
 have pz:=hs.pls
 obtain ⟨⟨o,ho,hc,hd⟩,fit,hm,hl⟩:=hs
 unfold setNext
 refine wpAny_bind (wpAny_setState_of ho hd fit ?_)
 unfold setsByText
 refine wpAny_bind (wpAny_bind (wpAny_askSetting (wpAny_pure ?_)))
 unfold zkd at k
 cases hb:byT w with
 | true =>
  rw [hb] at k
  rw [if_pos (show ({ program:=(model prog w).prog,params:=(model prog w).w.params }:Setting).params.followText "set-order" = true from hb)]
  dsimp only
  rw [if_neg (by simp)]
  unfold setWalk setsByText
  refine wpAny_bind (wpAny_bind (wpAny_setState_of ho hd fit ?_))
  refine wpAny_bind (wpAny_bind (wpAny_askSetting (wpAny_pure ?_)))
  rw [if_pos (show ({ program:=(model prog w).prog,params:=(model prog w).w.params }:Setting).params.followText "set-order" = true from hb)]
  refine wpAny_bind (wpAny_askSetting (wpAny_pure (wpAny_pure ?_)))
  exact k
 | false =>
  rw [hb] at k
  rw [if_neg (show ¬ ({ program:=(model prog w).prog,params:=(model prog w).w.params }:Setting).params.followText "set-order" = true from λ z=>by have:=hb.symm.trans z;cases this)]
  obtain ⟨l1,l2⟩:t.led=true∧t.plain=true:=by
   rcases hl with z | z
   ·rw [hb] at z;cases z
   ·exact z
  have e:(!t.plain && decide (es.size > 1))=false:=by rw [l2];rfl
  rw [if_neg (λ z=>by have:=e.symm.trans z;cases this)]
  have e2:(!t.led && !es.isEmpty)=false:=by rw [l1];rfl
  refine wpAny_bind ?_
  refine (show ∀ {m:Sem Unit} {R':Unit→Shared→Prop},m=pure ()→R' () s→wpAny (model prog w) A m R' E s from λ em r'=>by rw [em];exact wpAny_pure r') (if_neg (λ z=>by have:=e2.symm.trans z;cases this)) ?_
  dsimp only
  rw [zho hm (by rw [pz];exact hi)]
  refine wpAny_pure ?_
  rw [if_neg Bool.false_ne_true] at k
  by_cases hlt:i<es.size
  ·have g1:es[i]? = some es[i]:=Array.getElem?_eq_getElem hlt
   have g2:t.place[i]? = some t.place[i]:=Array.getElem?_eq_getElem (by rw [pz];exact hlt)
   rw [g1] at k ⊢
   rw [g2]
   have e3:zod false t (i+1)=t.place[i]+1:=by
    show (t.place[i]?).getD 0+1=_
    rw [g2];rfl
   rw [e3] at k
   exact k
  ·have g1:es[i]? = none:=Array.getElem?_eq_none (by omega)
   rw [g1] at k ⊢
   exact k
theorem zjv {Q:Option Value→Shared→Prop} {e:Int×Value} (hi:s.heap.get? it=some (zrs a (zod (byT w) t i) i es.size ep)) (hs:RawS w s.heap a es ep t) (he:(zkd w a ep es)[i]? = some e)
  (k:∀ h',h'.get? it=some (zrs a (zod (byT w) t (i+1)) (i+1) es.size ep)→h'.objs.size=s.heap.objs.size→(∀ b o,b≠it→s.heap.get? b=some o→h'.get? b=some o)→Q (some e.2) { s with heap:=h' }):wpAny (model prog w) A (pyNext (.ref it)) Q E s:=by
 have ty:s.TypeIs (.ref it) "set_iterator" := ⟨_,hi,rfl⟩
 have hlt:i<es.size:=by rw [← zbg (w:=w) (a:=a) (ep:=ep)];exact (Array.getElem?_eq_some_iff.mp he).1
 obtain ⟨o,ho,hc,hd⟩:=hs.ob
 unfold pyNext
 refine wpAny_bind (wpAny_attempt (wpAny_callSpecial?_slot ty slot_si_next (wpAny_call_entry slot_si_next ty zvd ?_ (zws _))))
 unfold Builtin.«set_iterator.__next__»
 refine wpAny_bind (wpAny_pure (wpAny_bind (wpAny_fieldsOf hi rfl ?_)))
 show wpAny _ _ (do let x ← setEntries a;_) _ _ _
 refine wpAny_bind (wpAny_setEntries_of ho hd hs.fits ?_)
 rw [if_neg (by simp)]
 show wpAny _ _ (do let x ← setNext a ((zod (byT w) t i:Nat):Int).toNat ((i:Nat):Int).toNat ((ep:Nat):Int).toNat;_) _ _ _
 rw [Int.toNat_natCast,Int.toNat_natCast,Int.toNat_natCast]
 refine wpAny_bind (zuo hs (Nat.le_of_lt hlt) ?_)
 rw [he]
 show wpAny _ _ (do setField (.ref it) 0 (rawInt ((zod (byT w) t (i+1):Nat):Int));setField (.ref it) 1 (rawInt ((i:Nat)+1:Int));ret e.2) _ _ _
 refine wpAny_bind (wpAny_setField_rec (k:=0) hi (by show 0<5;decide) λ h1 g1 sb=>?_)
 refine wpAny_bind (wpAny_setField_rec (s:={ s with heap:=h1 }) (k:=1) g1 (by show 1<5;decide) λ h2 g2 sb2=>?_)
 exact wpAny_pure ⟨_,rfl,wpAny_pure (k h2 g2 (sb2.1.trans sb.1) λ b o hb q=>(sb2.2 b hb).trans ((sb.2 b hb).trans q))⟩
theorem zlj {Q:Option Value→Shared→Prop} (hh:A.handled=none) (hi:s.heap.get? it=some (zrs a (zod (byT w) t i) i es.size ep)) (hs:RawS w s.heap a es ep t) (he:i=es.size)
  (k:∀ h',(∀ b o,b≠it→s.heap.get? b=some o→h'.get? b=some o)→Q none { s with heap:=h' }):wpAny (model prog w) A (pyNext (.ref it)) Q E s:=by
 have ty:s.TypeIs (.ref it) "set_iterator" := ⟨_,hi,rfl⟩
 obtain ⟨o,ho,hc,hd⟩:=hs.ob
 unfold pyNext
 refine wpAny_bind (wpAny_attempt (wpAny_callSpecial?_slot ty slot_si_next (wpAny_call_entry slot_si_next ty zvd ?_ (zws _))))
 unfold Builtin.«set_iterator.__next__»
 refine wpAny_bind (wpAny_pure (wpAny_bind (wpAny_fieldsOf hi rfl ?_)))
 show wpAny _ _ (do let x ← setEntries a;_) _ _ _
 refine wpAny_bind (wpAny_setEntries_of ho hd hs.fits ?_)
 rw [if_neg (by simp)]
 show wpAny _ _ (do let x ← setNext a ((zod (byT w) t i:Nat):Int).toNat ((i:Nat):Int).toNat ((ep:Nat):Int).toNat;_) _ _ _
 rw [Int.toNat_natCast,Int.toNat_natCast,Int.toNat_natCast]
 refine wpAny_bind (zuo hs (Nat.le_of_eq he) ?_)
 rw [Array.getElem?_eq_none (by rw [zbg];omega)]
 show wpAny _ _ (do setField (.ref it) 2 .none;let x ← newExc (.type "StopIteration") [];raiseNew x) _ _ _
 refine wpAny_bind (wpAny_setField_rec (k:=2) hi (by show 2<5;decide) λ h1 g1 sb=>?_)
 unfold newExc raiseNew
 refine wpAny_bind (wpAny_bind (wpAny_newObj_type ?_))
 have fa:firstArgMember (.type "StopIteration") []=pure Value.none:=by
  rw [firstArgMember.eq_1]
  generalize (Manifest.find? "StopIteration").elim false (λ t=>t.mro.contains "StopIteration" || t.mro.contains "SystemExit")=b
  cases b <;> rfl
 refine wpAny_bind (wpAny_of_eq fa (wpAny_newObj_type ?_ (sizeOk_excFields _ _ _ _ _ _ _ _)))
 refine wpAny_bind (wpAny_handled ?_)
 rw [show A.in1.handled=none from hh]
 refine wpAny_throw ?_
 show wpAny _ _ (do let x ← isInstance _ (.type "StopIteration");_) _ _ _
 refine wpAny_bind (wpAny_isInstance ⟨_,Heap.get?_push_size _ rfl,rfl⟩ isSubtype_stop ?_)
 rw [if_pos rfl]
 refine wpAny_pure (k _ λ b o hb e=>?_)
 exact Heap.get?_push_of_some _ (Heap.get?_push_of_some _ ((sb.2 b hb).trans e))
end
end L2
namespace L2
open PySem PySem.Spec PyProof.Rows PySem.NumText
section
variable {prog:Program} {w:World} {A:Around} {E:Value→Shared→Prop} {s:Shared} {a it S:Addr} {es:Array (Int×Value)} {ep:Nat} {t:ST}
theorem zvu {R:Result→Shared→Prop} (hh:A.handled=none) (hn:es.size≤sizeLine) (nSI:S≠it) (ndS:a≠S) (ndI:a≠it) (res:Value) {h1:Heap}
  (k:∀ h' tk acc c,(∀ b o,b≠S→b≠it→h1.get? b=some o→h'.get? b=some o)→h'.get? S=some { cls := .type "list",data := .seq acc c }→acc.toList=(zkd w a ep es).toList.map (·.2)→R (.ok (.ret res)) { s with heap:=h',toks:=tk }) :
  ∀ (n i:Nat) (h:Heap) (tk c:Nat) (acc:Array Value),es.size - i=n→i≤es.size→h.get? it=some (zrs a (zod (byT w) t i) i es.size ep)→RawS w h a es ep t →
   (∀ b o,b≠S→b≠it→h1.get? b=some o→h.get? b=some o)→h.get? S=some { cls := .type "list",data := .seq acc c }→acc.toList=((zkd w a ep es).toList.take i).map (·.2) →
   codeAny (model prog w) A (.builtin "list.extend.loop" ⟨[.ref S,.ref it,res],[]⟩) R { s with heap:=h,toks:=tk }:=by
 have wz:(zkd w a ep es).size=es.size:=zbg
 intro n
 induction n with
 | zero =>
  intro i h tk c acc hni hi hit hd kp hS hacc
  refine codeAny_builtin F.entry_extend_loop ?_
  rw [Around.under_plainId F.plain_extend_loop]
  refine wpAny_bind (zlj (s:={ s with heap:=h,toks:=tk }) hh hit hd (by omega) λ h' kp'=>?_)
  refine wpAny_pure (k h' tk acc c (λ b o h1' h2' e=>kp' b o h2' (kp b o h1' h2' e)) (kp' _ _ nSI hS) ?_)
  rw [hacc,List.take_of_length_le (by rw [Array.length_toList];omega)]
 | succ n ih =>
  intro i h tk c acc hni hi hit hd kp hS hacc
  obtain ⟨e,he⟩:∃ e,(zkd w a ep es)[i]? = some e:=⟨_,Array.getElem?_eq_getElem (by omega)⟩
  refine codeAny_builtin F.entry_extend_loop ?_
  rw [Around.under_plainId F.plain_extend_loop]
  refine wpAny_bind (zjv (s:={ s with heap:=h,toks:=tk }) hit hd he λ h' hit' hz kp'=>?_)
  have hS':=kp' _ _ nSI hS
  have haz:acc.size=i:=by rw [← Array.length_toList,hacc,List.length_map,List.length_take,Array.length_toList];omega
  refine wpAny_bind (wpAny_updateSeq (a:=S) (s:={ s with heap:=h',toks:=tk }) hS' rfl ?_ (by omega) (by rw [Array.size_push];omega))
  refine wpAny_pure ⟨plainId_quiet F.plain_extend_loop _,?_⟩
  have oth:∀ b,b≠S→(h'.update S (Obj.mapSeq λ x=>x.push e.2)).get? b=h'.get? b:=λ b hb=>Heap.get?_update_other _ _ (Ne.symm hb)
  have self:(h'.update S (Obj.mapSeq λ x=>x.push e.2)).get? S=some { cls := .type "list",data := .seq (acc.push e.2) (if (acc.push e.2).size == acc.size then c else c+1) }:=Heap.get?_update_self _ hS' rfl
  refine ih (i+1) _ tk _ _ (by omega) (by omega) (by rw [oth _ nSI.symm];exact hit') (hd.kept λ o o1=>by rw [oth _ ndS];exact kp' _ _ ndI o1) ?_ self ?_
  ·intro b o hb1 hb2 q
   rw [oth _ hb1]
   exact kp' _ _ hb2 (kp b o hb1 hb2 q)
  ·have hil:i<(zkd w a ep es).toList.length:=by rw [Array.length_toList];omega
   rw [Array.toList_push,hacc,List.take_succ_eq_append_getElem hil,List.map_append]
   have:(zkd w a ep es).toList[i]=e:=by
    have:=(Array.getElem?_eq_some_iff.mp he).2
    rw [Array.getElem_toList];exact this
   rw [this]
   rfl
theorem zhl {R:List Value→Shared→Prop} (hh:A.handled=none) (hd:RawS w s.heap a es ep t) (hn:es.size≤sizeLine)
  (k:∀ h' tk,(∀ b o,s.heap.get? b=some o→h'.get? b=some o)→R ((zkd w a ep es).toList.map (·.2)) { s with heap:=h',toks:=tk }):wpAny (model prog w) A (collect (.ref a)) R E s:=by
 unfold collect
 refine wpAny_bind (wpAny_runValue (codeAny_builtin entry_proto_collect' ?_))
 rw [Around.under_plainId F.plain_proto_collect]
 refine wpAny_bind (wpAny_newObj_type (wpAny_pure ⟨plainId_quiet F.plain_list_iadd _,codeAny_builtin entry_list_iadd' ?_⟩))
 rw [Around.under_plainId F.plain_list_iadd]
 obtain ⟨o,d1,d2,d3⟩:=hd.ob
 obtain ⟨h1,hh1⟩:∃ h1,h1=s.heap.push { cls := .type "list",data := .seq (#[]:Array Value) }:=⟨_,rfl⟩
 have hS1:h1.get? s.heap.objs.size=some { cls := .type "list",data := .seq #[] }:=by rw [hh1];exact Heap.get?_push_size _ rfl
 have kp1:∀ b ob,s.heap.get? b=some ob→h1.get? b=some ob:=λ b ob e=>by rw [hh1];exact Heap.get?_push_of_some _ e
 have z1:h1.objs.size=s.heap.objs.size+1:=by rw [hh1,Heap.size_push]
 have hd1:RawS w h1 a es ep t:=hd.kept λ o e=>kp1 _ _ e
 have hT1:({ s with heap:=h1 }:Shared).TypeIs (.ref a) "set" := ⟨o,kp1 _ _ d1,d2⟩
 show wpAny _ _ (Builtin.«list.__iadd__» _) _ _ { s with heap:=s.heap.push { cls := .type "list",data := .seq (#[]:Array Value) } }
 rw [← hh1]
 unfold Builtin.«list.__iadd__»
 refine wpAny_bind (wpAny_pure ?_)
 show wpAny _ _ (Builtin.List.listExtendWith (.ref s.heap.objs.size) (.ref a) (.ref s.heap.objs.size)) _ _ _
 unfold Builtin.List.listExtendWith
 refine wpAny_bind (wpAny_typeOf hT1 ?_)
 have ndS:a≠s.heap.objs.size:=Nat.ne_of_lt (Heap.lt_size d1)
 rw [if_neg (by simp [Builtin.List.listSameRef,ndS.symm])]
 refine wpAny_bind (znv (s:={ s with heap:=h1 }) hd1 ?_)
 obtain ⟨h2,hh2⟩:∃ h2,h2=h1.push (zrs a 0 0 es.size ep):=⟨_,rfl⟩
 have z2:h2.objs.size=h1.objs.size+1:=by rw [hh2,Heap.size_push]
 have kp2:∀ b ob,h1.get? b=some ob→h2.get? b=some ob:=λ b ob e=>by rw [hh2];exact Heap.get?_push_of_some _ e
 have i2:h2.get? h1.objs.size=some (zrs a 0 0 es.size ep):=by rw [hh2];exact Heap.get?_push_size _ rfl
 show wpAny _ _ _ _ _ { s with heap:=h1.push (zrs a 0 0 es.size ep) }
 rw [← hh2]
 have hT2:({ s with heap:=h2 }:Shared).TypeIs (.ref a) "set" := ⟨o,kp2 _ _ (kp1 _ _ d1),d2⟩
 refine wpAny_bind (wpAny_holding (zxu hT2 ?_))
 have nSI:s.heap.objs.size≠h1.objs.size:=by rw [z1];exact Nat.ne_of_lt (Nat.lt_succ_self _)
 have ndI:a≠h1.objs.size:=Nat.ne_of_lt (Heap.lt_size (kp1 _ _ d1))
 have sl0:zod (byT w) t 0=0:=by
  unfold zod
  cases byT w <;> rfl
 have fin:∀ h3 c,h3.objs.size=h2.objs.size→(∀ b,b≠s.heap.objs.size→h3.get? b=h2.get? b)→h3.get? s.heap.objs.size=some { cls := .type "list",data := .seq #[] c } →
   codeAny (model prog w) A (.builtin "list.extend.loop" ⟨[.ref s.heap.objs.size,.ref h1.objs.size,.ref s.heap.objs.size],[]⟩) (λ r s'=>∃ h' tk acc c',r = .ok (.ret (.ref s.heap.objs.size))∧s'={ s with heap:=h',toks:=tk }∧(∀ b ob,s.heap.get? b=some ob→h'.get? b=some ob)∧h'.get? s.heap.objs.size=some { cls := .type "list",data := .seq acc c' }∧acc.toList=(zkd w a ep es).toList.map (·.2)) { s with heap:=h3,toks:=s.toks }:=by
  intro h3 c z3 oth3 hS3
  refine zvu (ep:=ep) (a:=a) (t:=t) (es:=es) (h1:=h2) hh hn nSI ndS ndI (.ref s.heap.objs.size) ?_ (es.size - 0) 0 h3 s.toks c #[] rfl (Nat.zero_le _) (by rw [oth3 _ nSI.symm,sl0];exact i2) (hd.kept λ o d1=>by rw [oth3 _ ndS];exact kp2 _ _ (kp1 _ _ d1)) (λ b ob hb1 hb2 e=>by rw [oth3 _ hb1];exact e) hS3 rfl
  intro h' tk acc c' kp' hS' hacc
  exact ⟨h',tk,acc,c',rfl,rfl,λ b ob e=>kp' b ob (Nat.ne_of_lt (Heap.lt_size e)) (Nat.ne_of_lt (Heap.lt_size (kp1 _ _ e))) (kp2 _ _ (kp1 _ _ e)),hS',hacc⟩
 refine wpAny_ite_split (λ _=>?_) (λ _=>?_)
 ·refine wpAny_bind (wpAny_rule (wpAny_bind (wpAny_bind (wpAny_updateSeq (a:=s.heap.objs.size) (s:={ s with heap:=h2 }) (kp2 _ _ hS1) rfl ?_ (Nat.zero_le _) (by show 1≤_;rw [sizeLine_eq];omega)))))
  have self:(h2.update s.heap.objs.size (Obj.mapSeq λ x=>x.push .none)).get? s.heap.objs.size=some { cls := .type "list",data := .seq #[.none] 1 }:=Heap.get?_update_self _ (kp2 _ _ hS1) rfl
  refine wpAny_updateSeq (a:=s.heap.objs.size) self rfl ?_ (by show 1≤_;rw [sizeLine_eq];omega) (Nat.zero_le _)
  refine wpAny_pure ⟨plainId_quiet F.plain_extend_loop _,codeAny_mono (fin _ 2 ?_ ?_ ?_) λ r s' ⟨h',tk,acc,c',e1,e2,kp',hS',hacc⟩=>?_⟩
  ·rw [Heap.size_update,Heap.size_update]
  ·intro b hb
   rw [Heap.get?_update_other _ _ (Ne.symm hb),Heap.get?_update_other _ _ (Ne.symm hb)]
  ·exact Heap.get?_update_self _ self rfl
  ·subst e1 e2
   refine wpAny_bind (wpAny_load hS' ?_)
   dsimp only
   rw [hacc]
   exact wpAny_pure (k h' tk kp')
 ·refine wpAny_pure ⟨plainId_quiet F.plain_extend_loop _,codeAny_mono (fin h2 0 rfl (λ _ _=>rfl) (kp2 _ _ hS1)) λ r s' ⟨h',tk,acc,c',e1,e2,kp',hS',hacc⟩=>?_⟩
  subst e1 e2
  refine wpAny_bind (wpAny_load hS' ?_)
  dsimp only
  rw [hacc]
  exact wpAny_pure (k h' tk kp')
end
noncomputable def zmi (w:World) (a:Addr) (qs:List Mem):HO := .ext λ h=>SetX h a qs∧Led (!byT w) h a
theorem zgo {P:Program} {w:World} {H:Hp} {h:Heap} {a:Addr} {qs:List Mem} (x:SetX h a qs) (l:Led (!byT w) h a):ObjOk P w H h a (zmi w a qs):=by
 obtain ⟨o,ho,r⟩:=x
 obtain ⟨o',es,ep,t,g,z⟩:=l
 exact ⟨⟨⟨o,ho,r⟩,o',es,ep,t,g,z⟩,⟨o,ho⟩,λ h1 h2 ⟨⟨o',ho',r'⟩,o2,es2,ep2,t2,g2,z2⟩ k=>⟨⟨o',k o' ho',r'⟩,o2,es2,ep2,t2,k o2 g2,z2⟩⟩
structure SWt (w:World) (K:W.Frag) (H:Hp) (a:Addr) (qs:List Mem):Prop where
 ob:H a=some (zmi w a qs)
 dv:∀ q∈qs,DV K H q.2 (.ref q.1)
 ok:∀ q∈qs,ok4 q.2
 nd:(qs.map (·.2)).Nodup
section
variable {X:Cx}
noncomputable def zxz (w:World) (K:W.Frag):List V→Hp→VK→Prop:=λ xs H Q=>∃ (a:Addr) (qs:List Mem),xs=[.ref a]∧SWt w K H a qs∧(∀ q∈qs,∃ m,q.2=markD m)∧qs.length<64 ∧
 ∀ (l:Addr) (bs:List Mark) (ws:List V),H l=none→bs.Pairwise (λ a b=>mLt a b=true)→(∀ m,m∈bs ↔ ∃ q∈qs,q.2=markD m)→bs.length=qs.length→DVs K H (bs.map markD) ws→Q (.ref l) (upd H l (.lst ws))
theorem zsd:∀ (qs:List Mem),(∀ q∈qs,∃ m,q.2=markD m)→∃ ms,Paired (λ (q:Mem) (m:Mark)=>q.2=markD m) qs ms
 | [],_=>⟨[],.nil⟩
 | q::qs,h=>by
  obtain ⟨m,e⟩:=h q List.mem_cons_self
  obtain ⟨ms,r⟩:=zsd qs λ q' hq'=>h q' (List.mem_cons_of_mem _ hq')
  exact ⟨m::ms,.cons e r⟩
theorem zln:∀ {qs:List Mem} {ms:List Mark},Paired (λ (q:Mem) (m:Mark)=>q.2=markD m) qs ms→qs.map (·.2)=ms.map markD
 | _,_,.nil=>rfl
 | _,_,.cons a b=>by rw [List.map_cons,List.map_cons,a,zln b]
theorem zvj:∀ {us:List (Int×Value)} {qs:List Mem},Paired MemR us qs→Vals (qs.map λ q=>V.ref q.1) (us.map (·.2))
 | _,_,.nil=>.nil
 | _,_,.cons a b=>.cons (by show RelV (.ref _) (Prod.snd _);rw [a.1];rfl) (zvj b)
theorem zzo {K:W.Frag} {H:Hp}:∀ {qs:List Mem} {ms:List Mark},Paired (λ (q:Mem) (m:Mark)=>q.2=markD m) qs ms→(∀ q∈qs,DV K H q.2 (.ref q.1))→DVs K H (ms.map λ (m:Mark)=>PyData.tuple [.int m.1,.int m.2]) (qs.map λ q=>V.ref q.1)
 | _,_,.nil,_=>rfl
 | _,_,.cons a b,h=>⟨_,_,rfl,by have:=h _ List.mem_cons_self;rw [a] at this;exact this,zzo b λ q hq=>h q (List.mem_cons_of_mem _ hq)⟩
theorem zej (hc:X.calm=true) (hu:X.A.units+100<cLine):zvg X (.builtin "sorted") (zxz X.w X.K):=by
 intro pins s σ H xs us Q I r h
 obtain ⟨a,qs,rfl,S,hm,few,q⟩:=h
 obtain ⟨u,rfl,ru⟩:=zzm r
 cases ru
 obtain ⟨⟨⟨o,ho,es,ep,t,qs1,hex,hd,hf,f,hfull,wp,pm,hp⟩,o',es',ep',t',g',d',l1,l2⟩,_,_⟩:=I.hok a _ S.ob
 rw [ho] at g'
 cases g'
 rw [hd] at d'
 cases d'
 have hraw:RawS X.w s.heap a es ep t:=⟨⟨o,ho,hex.1,hd⟩,hf,wp.mono,by
  cases hb:byT X.w with
  | true=>exact .inl rfl
  | false=>rw [hb] at l1;exact .inr ⟨l1,l2⟩⟩
 have hz:es.size=qs.length:=by rw [← Array.length_toList,Paired.length hp,pm.length_eq]
 refine zbc (zhl (I.ok.hd hc) hraw (by rw [hz,sizeLine_eq];omega) λ h' tk kp=>?_)
 have I1:Inv X pins σ H { s with heap:=h',toks:=tk }:=I.kept (t':=tk) kp
 obtain ⟨qs2,pm2,hp2⟩:=zwf (walk_perm (w:=X.w) (a:=a) (ep:=ep) (es:=es)) hp
 have pm3:qs2.Perm qs:=pm2.trans pm
 obtain ⟨ms,hms⟩:=zsd qs2 λ q' hq'=>hm q' (pm3.mem_iff.mp hq')
 have emap:=zln hms
 have nd2:(qs2.map (·.2)).Nodup:=(pm3.map (·.2)).nodup_iff.mpr S.nd
 have ndm:ms.Nodup:=by
  rw [emap] at nd2
  exact List.Pairwise.of_map markD (λ a b hab e=>hab (congrArg markD e)) nd2
 have hl:ms.length=qs.length:=by rw [← Paired.length hms,pm3.length_eq]
 refine zck (s:=s) hu (zsj ndm (by omega)) I1 (zvj hp2) (zzo hms λ q' hq'=>S.dv q' (pm3.mem_iff.mp hq')) ?_
 intro l bs ws hl' hpm hpw hds
 refine q l bs ws hl' hpw (λ m=>?_) (by rw [hpm.length_eq,hl]) hds
 have e1:m∈ms ↔ ∃ q∈qs,q.2=markD m:=by
  constructor
  ·intro hmm
   have:markD m∈qs2.map (·.2):=by rw [emap];exact List.mem_map_of_mem hmm
   obtain ⟨q',hq',e⟩:=List.mem_map.mp this
   exact ⟨q',pm3.mem_iff.mp hq',e⟩
  ·rintro ⟨q',hq',e⟩
   have:markD m∈ms.map markD:=by rw [← emap,← e];exact List.mem_map_of_mem (pm3.mem_iff.mpr hq')
   obtain ⟨m',hm',e'⟩:=List.mem_map.mp this
   have:m'=m:=by
    obtain ⟨x,y⟩:=m'
    obtain ⟨x',y'⟩:=m
    unfold markD at e'
    simp at e'
    rw [e'.1,e'.2]
   rw [← this]
   exact hm'
 rw [← e1]
 exact hpm.mem_iff
end
end L2
namespace L2
open PySem PySem.Spec PyProof.Rows PySem.NumText
section
variable {prog:Program} {w:World} {A:Around} {R:Result→Shared→Prop} {s:Shared}
theorem zgj {env:Env} (elt:Expr) (gens:List Comprehension) (scope:Scope) (pos:Pos):eval (elt.SetComp gens scope pos) env =
  comprehension (elt.SetComp gens scope pos) scope env (firstIterPos gens pos) (newSet (.type "set")) (firstAsync gens) (firstIter gens env):=by rw [eval]
theorem zki {elt target iter:Expr} {ifs:List Expr} {rest:List Comprehension} {scope:Scope} {pos:Pos} {it acc:Value} {env:Env}
  (h0:codeAny (model prog w) A (.compLoop (elt.SetComp (⟨target,iter,ifs,0⟩::rest) scope pos) 0 it acc env) R s)
  (h:wpAny (model prog w) A (pyIter it) (λ it' s'=>codeAny (model prog w) A (.compLoop (elt.SetComp (⟨target,iter,ifs,0⟩::rest) scope pos) 0 it' acc env) R s') (notedBy (model prog w) A env λ x s'=>R (.error x) s') s) :
  codeAny (model prog w) A (.compStart (elt.SetComp (⟨target,iter,ifs,0⟩::rest) scope pos) 0 it acc env) R s:=by
 refine codeAny_of_tree (wpAny_notedAt (wpAny_bind (wpAny_askSetting (wpAny_ite ?_))))
 split
 ·exact wpAny_bind (wpAny_pure (wpAny_pure ⟨rfl,h0⟩))
 ·exact wpAny_bind (wpAny_rule (wpAny_bind (wpAny_standAt (wpAny_bind (wpAny_mono h (λ it' s' h'=>wpAny_pure ⟨rfl,h'⟩) λ _ _ z=>z)))))
end
section
variable {X:Cx}
end
end L2
namespace L2
open PySem PySem.Spec PyProof.Rows PySem.NumText
mutual
theorem zfv:∀ d:PyData,zhf d=true→noL d=true
 | .int _,_=>rfl
 | .tuple xs,h=>zns xs h
 | .none,h=>by cases h
 | .bool _,h=>by cases h
 | .str _,h=>by cases h
 | .list _,h=>by cases h
theorem zns:∀ ds:List PyData,ztb ds=true→noLs ds=true
 | [],_=>rfl
 | d::ds,h=>by
  rw [ztb,Bool.and_eq_true] at h
  rw [noLs,zfv d h.1,zns ds h.2]
  rfl
end
theorem zsf {w:World} {a:Addr} {qs:List Mem}:zrt (zmi w a qs):=⟨λ xs z=>(by cases z),λ ob u z=>(by cases z)⟩
theorem SWt.add {w:World} {K:W.Frag} {H:Hp} {a ax:Addr} {qs:List Mem} {dx:PyData} (S:SWt w K H a qs) (hd:DV K H dx (.ref ax)) (ok:ok4 dx) (hn:∀ q∈qs,q.2≠dx):SWt w K (upd H a (zmi w a ((ax,dx)::qs))) a ((ax,dx)::qs) where
 ob:=upd_same
 dv:=λ q hq=>by
  rcases List.mem_cons.mp hq with rfl | hq
  ·exact zle S.ob zsf _ _ (zfv _ ok.1) hd
  ·exact zle S.ob zsf _ _ (zfv _ (S.ok q hq).1) (S.dv q hq)
 ok:=λ q hq=>by
  rcases List.mem_cons.mp hq with rfl | hq
  ·exact ok
  ·exact S.ok q hq
 nd:=by
  rw [List.map_cons]
  refine List.nodup_cons.mpr ⟨λ hm=>?_,S.nd⟩
  obtain ⟨q,hq,e⟩:=List.mem_map.mp hm
  exact hn q hq e
theorem SWt.same {w:World} {K:W.Frag} {H H':Hp} {a:Addr} {qs:List Mem} (S:SWt w K H a qs) (e:Same H H'):SWt w K H' a qs:=⟨e _ _ S.ob,λ q hq=>DV.same e _ _ (S.dv q hq),S.ok,S.nd⟩
section
variable {prog:Program} {w:World} {A:Around} {E:Value→Shared→Prop} {R:Result→Shared→Prop} {s:Shared}
theorem zxi (elt target iter:Expr) (ifs:List Expr) (scope:Scope) (pos:Pos) (it acc:Value) (env:Env) :
  compTurn (.SetComp elt [⟨target,iter,ifs,0⟩] scope pos) 0 it acc env=(do
   standAt iter.pos
   match ← pyNext it with
   | none=>pure (.done .next)
   | some v =>
    letOwnedTupleGo target it v
    assign target env v
    let mut ok:=true
    for c in ifs do
     if ok then ok ← isTrue c env (eval c env)
    if ok then
     (do let v ← eval elt env;standAt elt.pos;let _ ← call (.builtin "set.add") [acc,v])
    again (.compLoop (.SetComp elt [⟨target,iter,ifs,0⟩] scope pos) 0 it acc env)):=by rfl
theorem zij {elt target iter:Expr} {ifs:List Expr} {scope:Scope} {pos:Pos} {it acc:Value} {env:Env} (I:Nat→Shared→Prop)
  (turn:∀ n s,I n s→wpAny (model prog w) A (pyNext it) (λ r s₁=>match r with
   | none=>R (.ok .next) s₁
   | some v=>wpAny (model prog w) A (letOwnedTupleGo target it v) (λ _ s₁'=>wpAny (model prog w) A (assign target env v) (λ _ s₂ =>
     wpAny (model prog w) A (forIn ifs true λ c r=>if r=true then do let ok ← isTrue c env (eval c env);pure (ForInStep.yield ok) else pure (ForInStep.yield r)) (λ ok s₃ =>
      if ok=true then wpAny (model prog w) A (eval elt env) (λ x s₄ =>
       wpAny (model prog w) A (call (.builtin "set.add") [acc,x]) (λ _ s₅=>∃ m,m<n∧I m s₅) (notedBy (model prog w) A env λ e s'=>R (.error e) s') s₄) (notedBy (model prog w) A env λ e s'=>R (.error e) s') s₃
      else ∃ m,m<n∧I m s₃) (notedBy (model prog w) A env λ e s'=>R (.error e) s') s₂) (notedBy (model prog w) A env λ e s'=>R (.error e) s') s₁') (notedBy (model prog w) A env λ e s'=>R (.error e) s') s₁) (notedBy (model prog w) A env λ e s'=>R (.error e) s') s)
  (n:Nat) (h:I n s):codeAny (model prog w) A (.compLoop (.SetComp elt [⟨target,iter,ifs,0⟩] scope pos) 0 it acc env) R s:=by
 refine codeAny_loop rfl I (λ n s hI=>?_) n h
 show wpAny _ A ((compTurn (.SetComp elt [⟨target,iter,ifs,0⟩] scope pos) 0 it acc env).onRaise (λ x=>do noteFrame x env;theTreesLotGoes x)) _ _ s
 refine wpAny_noted ?_
 rw [zxi]
 refine wpAny_bind (wpAny_standAt (wpAny_bind (wpAny_mono (turn n s hI) (λ r s₁ h₁=>?_) λ _ _ h'=>h')))
 cases r with
 | none=>exact wpAny_pure h₁
 | some v =>
  refine wpAny_bind (wpAny_mono h₁ (λ _ s₁' h₁'=>?_) λ _ _ h'=>h')
  refine wpAny_bind (wpAny_mono h₁' (λ _ s₂ h₂=>wpAny_bind (wpAny_mono h₂ (λ ok s₃ h₃=>?_) λ _ _ h'=>h')) λ _ _ h'=>h')
  cases ok with
  | false=>exact wpAny_pure ⟨rfl,h₃⟩
  | true =>
   exact wpAny_bind (wpAny_bind (wpAny_mono h₃ (λ x s₄ h₄=>wpAny_bind (wpAny_standAt (wpAny_bind (wpAny_mono h₄ (λ _ s₅ h₅=>wpAny_pure (wpAny_pure ⟨rfl,h₅⟩)) λ _ _ h'=>h')))) λ _ _ h'=>h'))
end
section
variable {X:Cx}
theorem zgy {pins:List (Addr×Obj)} {s:Shared} {σ:St} {H:Hp} {Q:Hp→Prop} {D ax:Addr} {u:Value} {qs:List Mem} {dx:PyData} (hu:X.A.units+100<cLine) (I:Inv X pins σ H s) (S:SWt X.w X.K H D qs) (hl:qs.length<299) (r:RelV (.ref ax) u) (hd:DV X.K H dx (.ref ax)) (ok:ok4 dx)
  (q0:(∃ q∈qs,q.2=dx)→Q H) (q1:(∀ q∈qs,q.2≠dx)→Q (upd H D (zmi X.w D ((ax,dx)::qs)))) :
  wpAny (model X.prog X.w) X.A (call (.builtin "set.add") [.ref D,u]) (λ _ s'=>∃ H',Inv X pins σ H' s'∧Q H') E s:=by
 cases r
 obtain ⟨⟨hX,hL⟩,_,_⟩:=I.hok D _ S.ob
 have hT:s.TypeIs (.ref D) "set" := let ⟨o,ho,_,_,_,_,hex,_⟩:=hX; ⟨o,ho,hex.1⟩
 have hx:=I.el hd rfl ok
 refine wpAny_call_entry F.slot_set_add hT F.entry_set_add ?_ (F.args_set_add_2 _ _)
 unfold Builtin.«set.add» Builtin.Frozenset.oneOther
 simp only [List.isEmpty_nil,bind_assoc]
 unfold Builtin.Frozenset.addrOf setAdd
 refine wpAny_bind (wpAny_pure ?_)
 try dsimp only
 refine wpAny_bind (wpAny_pure ?_)
 try dsimp only
 refine wpAny_bind (wpAny_holding ?_)
 obtain ⟨as,rx⟩:=hx.rd
 refine wpAny_bind (zau 4 dx _ _ s _ as hx.dp rx hx.oi (by show X.A.units+1+4<cLine;omega) _ λ tk htk=>?_)
 refine zuy (s:={ s with toks:=tk }) hX (λ q hq=>I.el (S.dv q hq) rfl (S.ok q hq)) hx (by omega) (by show X.A.units+1+10<cLine;omega) (λ hold=>?_) (λ hnew h' sb hS2 hlk=>?_)
 ·exact wpAny_pure ⟨_,rfl,H,I.kept (t':=tk) (λ _ _ e=>e),q0 hold⟩
 ·have he:∃ ob,h'.get? D=some ob:=let ⟨ob,hq,_⟩:=hS2; ⟨ob,hq⟩
  exact wpAny_pure ⟨_,rfl,_,I.write (t':=tk) (x:=D) (e:=D) (by rw [S.ob];exact True.intro) (.inl rfl) (λ b ob hb z=>(sb.2 b hb).trans z) he (zgo hS2 (hlk _ hL)),q1 hnew⟩
noncomputable def zqx (w:World) (K:W.Frag) (J:It) (D:Addr) (nt:Nat) (cap:List Nat) (g:TG) (ti:TT) (te:TE) (σ:St) (H1:Hp) (Q:VK):Prop:=∃ W:Nat→Nat→List Mem→Hp→Prop,(∃ m,W 0 m [] (upd H1 D (zmi w D []))) ∧
 ∀ i m qs H2,W i m qs H2→SWt w K H2 D qs∧((J.stop i H2∧Q (.ref D) H2) ∨ (J.go i H2∧qs.length<299∧∀ x H3,J.yld i H2 x H3→g x (List.replicate nt none++caps cap σ) H3 λ σ4 H4=>ti σ4 H4 λ b H5 =>
  if b=true then te σ4 H5 λ y H6=>∃ ax dx,y = .ref ax∧DV K H6 dx (.ref ax)∧ok4 dx∧SWt w K H6 D qs∧((∃ q∈qs,q.2=dx)→∃ m',m'<m∧W (i+1) m' qs H6)∧((∀ q∈qs,q.2≠dx)→∃ m',m'<m∧W (i+1) m' ((ax,dx)::qs) (upd H6 D (zmi w D ((ax,dx)::qs))))
  else ∃ m',m'<m∧W (i+1) m' qs H5))
noncomputable def ze2 (w:World) (K:W.Frag) (wi:TI) (nt:Nat) (cap:List Nat) (g:TG) (ti:TT) (te:TE):TE:=λ σ H Q=>wi σ H λ J H1=>∀ D,H1 D=none→zqx w K J D nt cap g ti te σ H1 Q
theorem zdn {elt tg iter:Expr} {ifs:List Expr} {scope:Scope} {pos:Pos} {wi:TI} {g:TG} {ti:TT} {te:TE} (N':List Str) (nt:Nat) (cap:List Nat)
  (hc:X.calm=true) (hu:X.A.units+100<cLine) (hi:PI X tg iter wi) (hgk:zee nt g)
  (hg:∀ C s₀ H₀ fp E',PG (X.comp scope C s₀ H₀ fp N' E') tg g)
  (hif:∀ C s₀ H₀ fp E',PIf (X.comp scope C s₀ H₀ fp N' E') ifs ti)
  (he:∀ C s₀ H₀ fp E',PE (X.comp scope C s₀ H₀ fp N' E') elt te)
  (hk:scope.kind = .function:=by rfl) (hb:zvc scope X.env=true:=by rfl) (hcap:zwn X scope N' nt cap=true:=by rfl)
  (hs:∀ x,foldedSetIterable iter X.env x=pure x:=by intro _;rfl):PE X (.SetComp elt [⟨tg,iter,ifs,0⟩] scope pos) (ze2 X.w X.K wi nt cap g ti te) := .mk <| by
 intro pins s σ H Q I h
 rw [zgj]
 have hclos:closureFor scope X.env=pure (clOf scope X.env):=zcd λ p hp e=>I.ok.has p.1 (zlb hb p hp e)
 refine wpAny_comprehension_free (use:=none) rfl hs hclos hk (zac hb) (thn (hi pins s σ H _ I h) λ v s1 h1=>thn h1 λ itv s2 h2=>?_)
 obtain ⟨it,fp,tn,J,H2,e,I2,T,st2,f2,q2⟩:=h2
 subst e
 refine ztx (wpAny_newFunctionEnv (zwb hb) (by intro y hy;simp at hy) (λ h₁ hns₁ hsb₁=>?_) hk)
 obtain ⟨ob,hob⟩:∃ ob:Obj,ob={ cls := .type "set",data := .set #[] 0 (SetTable.fresh 0 0 (!X.w.params.followText "set-order")) }:=⟨_,rfl⟩
 rw [← hob] at hns₁ hsb₁ ⊢
 have g3:(s2.heap.push ob).get? s2.heap.objs.size=some ob:=by rw [hob];exact Heap.get?_push_size _ rfl
 have I3:Inv X pins σ (upd H2 s2.heap.objs.size (zmi X.w s2.heap.objs.size [])) { s2 with heap:=s2.heap.push ob }:=by
  refine I2.laid (t':=s2.toks) (λ b u e=>Heap.get?_push_of_some _ e) (Nat.le_refl _) (zgo ?_ ?_)
  ·rw [hob]
   rw [hob] at g3
   exact ⟨_,g3, #[],0,_,[],⟨rfl,rfl,rfl⟩,rfl,rfl,⟨rfl,by show 0≤7;decide,.inl rfl⟩,by show 0 * 5<7 * 3;decide,⟨(λ a b u v _ e _=>by simp [SetTable.fresh] at e),λ i j e h1=>by simp [SetTable.fresh] at h1⟩,.refl _,.nil⟩
  ·rw [hob]
   rw [hob] at g3
   exact ⟨_,_,_,_,g3,rfl,rfl,rfl⟩
 have hfl:∀ b∈fp,b<s2.heap.objs.size:=λ b hb'=>let ⟨o,e,_⟩:=T.obj 0 _ st2 b hb';Heap.lt_size e
 obtain ⟨W,⟨m0,w0⟩,turn⟩:=q2 s2.heap.objs.size (I2.hok.fresh (Nat.le_refl _))
 have nD:∀ b∈fp,b≠s2.heap.objs.size:=λ b hb'=>Nat.ne_of_lt (hfl b hb')
 have f3:∀ b∈fp,FpOk X pins (upd H2 s2.heap.objs.size (zmi X.w s2.heap.objs.size [])) b:=λ b hb'=>⟨by rw [zga (nD b hb')];exact (f2 b hb').1,(f2 b hb').2⟩
 obtain ⟨s3,hs3⟩:∃ s3:Shared,s3={ s2 with heap:=s2.heap.push ob }:=⟨_,rfl⟩
 have hs3':s3.heap=s2.heap.push ob:=by rw [hs3]
 rw [← hs3] at I3
 have hsz:s3.heap.objs.size=s2.heap.objs.size+1:=by rw [hs3',Heap.size_push]
 have hfl3:∀ b∈fp,b<s3.heap.objs.size:=λ b hb'=>by rw [hsz];exact Nat.lt_succ_of_lt (hfl b hb')
 have hC:(s2.heap.push ob).objs.size=s3.heap.objs.size:=by rw [hs3']
 dsimp only at hns₁ hsb₁ ⊢
 rw [hC] at hns₁ hsb₁ ⊢
 rw [← hs3'] at hsb₁
 have kp:∀ b o,s3.heap.get? b=some o→h₁.get? b=some o:=λ b o e=>hsb₁.extBut b o (Nat.ne_of_lt (Heap.lt_size e)) (Heap.get?_push_of_some _ e)
 generalize hE':(notedBy (model X.prog X.w) X.A (compEnvC scope (clOf scope X.env) s3.heap.objs.size X.env) λ e s'=>compPost (model X.prog X.w) X.A X.xe none (EP X pins σ Q) (.ref s2.heap.objs.size) s3.heap.objs.size (.error e) s')=E'
 have I4:=zbd (t4:=s2.toks+([]:List (Str×Value)).length) (E':=E') I3 hk hb hcap f3 hfl3 hns₁ kp
 have st4:tn 0 h₁:=T.keep 0 _ _ st2 λ b hb' o e=>kp b o (by rw [hs3'];exact Heap.get?_push_of_some _ e)
 obtain ⟨s4,hs4⟩:∃ s4:Shared,s4={ s3 with heap:=h₁,toks:=s2.toks+([]:List (Str×Value)).length }:=⟨_,rfl⟩
 rw [← hs4] at I4
 have st4':tn 0 s4.heap:=by rw [hs4];exact st4
 have cin:∀ x c,(clOf scope X.env).lookup x=some c→X.env.cells.lookup x=some c:=λ x c e=>zyv scope.names [] (λ y d q=>by simp at q) e
 have stat:∀ {H':Hp},(∀ b∈fp,H' b=none)→∀ b∈fp,FpOk (X.comp scope s3.heap.objs.size s3 (upd H2 s2.heap.objs.size (zmi X.w s2.heap.objs.size [])) fp N' E') [] H' b:=λ hn b hb'=>by
  refine ⟨hn b hb',Nat.ne_of_lt (hfl3 b hb'),λ z=>?_,.inl hb',λ x c e=>(f3 b hb').2.2.2.2.1 x c (cin x c e),λ p hp=>absurd hp (by simp [Cx.comp])⟩
  rcases List.mem_cons.mp (I3.stkSub b z) with z | z
  ·exact (f3 b hb').2.1 z
  ·exact (f3 b hb').2.2.1 z
 have loop:codeAny (model X.prog X.w) X.A (.compLoop (.SetComp elt [⟨tg,iter,ifs,0⟩] scope pos) 0 (.ref it) (.ref s2.heap.objs.size) (compEnvC scope (clOf scope X.env) s3.heap.objs.size X.env))
   (compPost (model X.prog X.w) X.A X.xe none (EP X pins σ Q) (.ref s2.heap.objs.size) s3.heap.objs.size) s4:=by
  refine zij (λ n s'=>∃ i qs H',Inv (X.comp scope s3.heap.objs.size s3 (upd H2 s2.heap.objs.size (zmi X.w s2.heap.objs.size [])) fp N' E') [] (List.replicate nt none++caps cap σ) H' s'∧tn i s'.heap∧(∀ b∈fp,H' b=none)∧W i n qs H') ?_ m0
   ⟨0,[],_,I4,st4',λ b hb'=>(f3 b hb').1,w0⟩
  rintro n s5 ⟨i,qs,H5,I5,st5,fr5,w5⟩
  rw [hE']
  obtain ⟨hD5,alt⟩:=turn i n qs H5 w5
  rcases alt with ⟨stop,qn⟩ | ⟨go,hyl,step⟩
  ·refine thn (T.done (X.comp scope s3.heap.objs.size s3 (upd H2 s2.heap.objs.size (zmi X.w s2.heap.objs.size [])) fp N' E') rfl rfl rfl hc i [] s5 _ H5 E' I5 (stat fr5) st5 stop) λ r s6 ⟨hr,I6⟩=>?_
   subst hr
   obtain ⟨m6,hn6,_⟩:=I6.loc
   refine ⟨m6,hn6,λ h' hsb'=>?_⟩
   have I7:=zie I3 f3 I6
   refine ⟨.ref s2.heap.objs.size,H5,?_,rfl,qn⟩
   refine I7.turnedL (ch:=[s3.heap.objs.size]) (t':=s6.toks) (λ b hb'=>?_) λ b u hb' e=>(hsb'.2 b λ z=>hb' (by simp [z])).trans e
   have eb:b=s3.heap.objs.size:=by simpa using hb'
   subst eb
   exact I3.fpOk (Nat.le_refl _) I6.free
  ·refine thn (T.item (X.comp scope s3.heap.objs.size s3 (upd H2 s2.heap.objs.size (zmi X.w s2.heap.objs.size [])) fp N' E') rfl rfl rfl hc i [] s5 _ H5 E' I5 (stat fr5) st5 go) λ r s6 ⟨u,hr,h6⟩=>?_
   subst hr
   refine thn h6 λ _ s7 ⟨x,H7,I7,r7,y7,st7,fr7⟩=>?_
   have I7':=I7.pinned (stat fr7) (T.obj _ _ st7)
   have again:∀ {σ8:St} {H8:Hp} {qs':List Mem} {s8:Shared},Inv (X.comp scope s3.heap.objs.size s3 (upd H2 s2.heap.objs.size (zmi X.w s2.heap.objs.size [])) fp N' E') ([]++zli fp s7.heap) σ8 H8 s8→(∃ m',m'<n∧W (i+1) m' qs' H8)→(∀ (j:Nat) v,(List.replicate nt none++caps cap σ)[j]? = some (some v)→σ8[j]? = some (some v)) →
     ∃ m,m<n∧∃ i qs H',Inv (X.comp scope s3.heap.objs.size s3 (upd H2 s2.heap.objs.size (zmi X.w s2.heap.objs.size [])) fp N' E') [] (List.replicate nt none++caps cap σ) H' s8∧tn i s8.heap∧(∀ b∈fp,H' b=none)∧W i m qs H':=fun {σ8 H8 qs' s8} I8 ⟨m',hm,w8⟩ hσ=>by
    refine ⟨m',hm,i+1,qs',H8,I8.unpinned.weak (by rw [I8.len,I5.len]) hσ,T.keep _ _ _ st7 λ b hb o e=>(I8.pin (b,o) (List.mem_append_right _ (List.mem_append_right _ (zta hb e)))).1,λ b hb=>?_,w8⟩
    obtain ⟨o,e,d⟩:=T.obj _ _ st7 b hb
    exact (I8.pin (b,o) (List.mem_append_right _ (List.mem_append_right _ (zta hb e)))).2.1
   refine thn (hg _ _ _ _ _ _ s7 _ H7 x u _ I7' r7 (hgk x _ H7 _ (step x H7 y7))) λ _ s8 ⟨σ8,H8,I8,q8,hσ⟩=>?_
   refine thn (hif _ _ _ _ _ _ s8 σ8 H8 _ I8 q8) λ ok s9 ⟨H9,I9,q9⟩=>?_
   cases ok with
   | false =>
    rw [if_neg Bool.false_ne_true] at q9 ⊢
    exact again I9 q9 hσ
   | true =>
    rw [if_pos rfl] at q9 ⊢
    refine thn (he _ _ _ _ _ _ s9 σ8 H9 _ I9 q9) λ y s10 ⟨vy,H10,I10,r10,ax,dx,ey,hd10,ok10,S10,k0,k1⟩=>?_
    subst ey
    refine thn (zgy (X:=X.comp scope s3.heap.objs.size s3 (upd H2 s2.heap.objs.size (zmi X.w s2.heap.objs.size [])) fp N' E') (Q:=λ H'=>∃ m',m'<n∧∃ qs',W (i+1) m' qs' H') hu I10 S10 hyl r10 hd10 ok10 (λ z=>let ⟨m',a,b⟩:=k0 z; ⟨m',a,_,b⟩) (λ z=>let ⟨m',a,b⟩:=k1 z; ⟨m',a,_,b⟩)) λ _ s11 ⟨H11,I11,m',hm',qs',w11⟩=>?_
    exact again I11 ⟨m',hm',w11⟩ hσ
 have e4:({ s2 with heap:=h₁,toks:=s2.toks+([]:List (Str×Value)).length }:Shared)=s4:=by rw [hs4,hs3]
 show codeAny _ _ _ _ { s2 with heap:=h₁,toks:=s2.toks+([]:List (Str×Value)).length }
 rw [e4]
 exact zki loop (T.self X.A 0 s4 _ _ st4' loop)
end
theorem zor {w:World} {K:W.Frag} {J:It} {n:Nat} {nt:Nat} {cap:List Nat} {g:TG} {te:TE} {σ:St} {H1:Hp} {Q:VK} {D:Addr} (val:Nat→V) (dat:Nat→PyData) (hD:H1 D=none) (hP:Plain H1) (hx:n<299) (hok:∀ i,i<n→ok4 (dat i))
  (hJ:∀ i H2,Same H1 H2→(i<n→J.go i H2)∧(J.stop n H2)∧∀ x H3,i<n→J.yld i H2 x H3→H3=H2∧x=val i)
  (step:∀ (i:Nat) H2 (Tt:VK),i<n→Plain H2→Same H1 H2→(∀ ax H6,DV K H6 (dat i) (.ref ax)→Same H2 H6→Plain H6→Tt (.ref ax) H6) →
   g (val i) (List.replicate nt none++caps cap σ) H2 λ σ4 H4=>te σ4 H4 Tt)
  (fin:∀ qs H2,SWt w K H2 D qs→(∀ d,(∃ q∈qs,q.2=d) ↔ ∃ i,i<n∧dat i=d)→qs.length≤n→Same H1 H2→Plain H2→Q (.ref D) H2) :
  zqx w K J D nt cap g tYes te σ H1 Q:=by
 refine ⟨λ i m qs H2=>m=n - i∧i≤n∧qs.length≤i∧SWt w K H2 D qs∧Same H1 H2∧Plain H2∧(∀ d,(∃ q∈qs,q.2=d) ↔ ∃ j,j<i∧dat j=d),⟨_,rfl,Nat.zero_le _,Nat.le_refl _,⟨upd_same,(λ q hq=>by cases hq),(λ q hq=>by cases hq),List.nodup_nil⟩,zca hD,hP.upd trivial,λ d=>⟨(λ ⟨q,hq,_⟩=>by cases hq),(λ ⟨j,hj,_⟩=>by omega)⟩⟩,?_⟩
 rintro i m qs H2 ⟨rfl,hi,hl,hS,hs,hp,hr⟩
 refine ⟨hS,?_⟩
 obtain ⟨j1,j2,j3⟩:=hJ i H2 hs
 by_cases hlt:i<n
 ·refine .inr ⟨j1 hlt,by omega,λ v H3 hy=>?_⟩
  obtain ⟨rfl,rfl⟩:=j3 v H3 hlt hy
  simp only [tYes,if_true]
  refine step i _ _ hlt hp hs λ ax H6 hd hs6 hp6=>⟨ax,dat i,rfl,hd,hok i hlt,hS.same hs6,λ hold=>⟨_,by omega,rfl,hlt,by omega,hS.same hs6,hs.trans hs6,hp6,λ d=>?_⟩,λ hnew=>⟨_,by omega,rfl,hlt,by rw [List.length_cons];omega,(hS.same hs6).add hd (hok i hlt) hnew,(hs.trans hs6).upd hD,hp6.upd trivial,λ d=>?_⟩⟩
  ·constructor
   ·intro z
    obtain ⟨j,hj,e⟩:=(hr d).mp z
    exact ⟨j,by omega,e⟩
   ·rintro ⟨j,hj,e⟩
    rcases Nat.lt_or_ge j i with h | h
    ·exact (hr d).mpr ⟨j,h,e⟩
    ·have:j=i:=by omega
     subst this
     rw [← e]
     exact hold
  ·constructor
   ·rintro ⟨q,hq,e⟩
    rcases List.mem_cons.mp hq with rfl | hq
    ·exact ⟨i,by omega,e⟩
    ·obtain ⟨j,hj,e'⟩:=(hr d).mp ⟨q,hq,e⟩
     exact ⟨j,by omega,e'⟩
   ·rintro ⟨j,hj,e⟩
    rcases Nat.lt_or_ge j i with h | h
    ·obtain ⟨q,hq,e'⟩:=(hr d).mpr ⟨j,h,e⟩
     exact ⟨q,List.mem_cons_of_mem _ hq,e'⟩
    ·have:j=i:=by omega
     subst this
     exact ⟨_,List.mem_cons_self,e⟩
 ·have e:i=n:=by omega
  subst e
  exact .inl ⟨j2,fin qs H2 hS hr hl hs hp⟩
end L2
namespace L2
open PySem PySem.Spec PyProof.Rows PySem.NumText
section
variable {X:Cx}
theorem zr2 {P:Program} {w:World} {K:W.Frag} (hP:X.prog=P) (hw:X.w=w) (hK:X.K=K) (hu:X.A.units+1<cLine):IxR X (rIxM P w K):=by
 subst hP hw hK
 exact ix_M hu
end
end L2
namespace L2
open PySem PySem.Spec PyProof.Rows PySem.NumText
theorem zlr {J:It} {n:Nat} {nt:Nat} {cap:List Nat} {g:TG} {ti:TT} {te:TE} {σ:St} {H1:Hp} {Q:VK} {D:Addr} (val:Nat→V) (kb:Nat→Bool) (R:Nat→V→Hp→Prop) (hD:H1 D=none) (hP:Plain H1) (hx:n≤sizeLine)
  (hJ:∀ i H2,Same H1 H2→(i<n→J.go i H2)∧(J.stop n H2)∧∀ x H3,i<n→J.yld i H2 x H3→H3=H2∧x=val i)
  (mono:∀ i y H H',R i y H→(∀ b o,b≠D→H b=some o→H' b=some o)→(∃ zs,H D=some (.lst zs))→R i y H')
  (step:∀ (i:Nat) H2 (Tt:VK) (Tf:Hp→Prop),i<n→Plain H2→Same H1 H2→(kb i=true→∀ y H6,R i y H6→Same H2 H6→Plain H6→Tt y H6)→(kb i=false→∀ H6,Same H2 H6→Plain H6→Tf H6) →
   g (val i) (List.replicate nt none++caps cap σ) H2 λ σ4 H4=>ti σ4 H4 λ b H5=>if b=true then te σ4 H5 Tt else Tf H5)
  (fin:∀ ys H2,Paired (λ i y=>R i y H2) ((List.range n).filter kb) ys→H2 D=some (.lst ys)→Same H1 H2→Plain H2→Q (.ref D) H2) :
  ztw J D nt cap g ti te σ H1 Q:=by
 refine ⟨λ i m ys H2=>m=n - i∧i≤n∧ys.length≤i∧H2 D=some (.lst ys)∧Same H1 H2∧Plain H2∧Paired (λ i y=>R i y H2) ((List.range i).filter kb) ys,⟨_,rfl,Nat.zero_le _,Nat.le_refl _,upd_same,zca hD,hP.lst,.nil⟩,?_⟩
 rintro i m ys H2 ⟨rfl,hi,hl,hd,hs,hp,hr⟩
 refine ⟨hd,?_⟩
 obtain ⟨j1,j2,j3⟩:=hJ i H2 hs
 by_cases hlt:i<n
 ·refine .inr ⟨j1 hlt,by omega,λ v H3 hy=>?_⟩
  obtain ⟨rfl,rfl⟩:=j3 v H3 hlt hy
  refine step i _ _ _ hlt hp hs (λ hk y H6 hR hs6 hp6=>⟨hs6 _ _ hd,_,by omega,rfl,hlt,by simp;omega,upd_same,(hs.trans hs6).upd hD,hp6.lst,?_⟩) (λ hk H6 hs6 hp6=>⟨_,by omega,rfl,hlt,by omega,hs6 _ _ hd,hs.trans hs6,hp6,?_⟩)
  ·have up:∀ b o,b≠D→H6 b=some o→(upd H6 D (.lst (ys++[y]))) b=some o:=λ b o hb e=>by rw [zga hb];exact e
   rw [List.range_succ,List.filter_append,show [i].filter kb=[i] by simp [hk]]
   refine Paired.snoc (Paired.mapP hr λ e' y' hr'=>mono e' y' H6 _ (mono e' y' _ H6 hr' (λ b o _ q=>hs6 b o q) ⟨_,hd⟩) up ⟨_,hs6 _ _ hd⟩) (mono i y H6 _ hR up ⟨_,hs6 _ _ hd⟩)
  ·rw [List.range_succ,List.filter_append,show [i].filter kb=[] by simp [hk],List.append_nil]
   exact Paired.mapP hr λ e' y' hr'=>mono e' y' _ H6 hr' (λ b o _ q=>hs6 b o q) ⟨_,hd⟩
 ·have e:i=n:=by omega
  subst e
  exact .inl ⟨j2,fin ys H2 hr hd hs hp⟩
theorem znq {α:Type} (as:List α) (d:α):(List.range as.length).map (λ i=>as.getD i d)=as:=by
 refine List.ext_getElem (by simp) λ i h1 h2=>?_
 rw [List.getElem_map,List.getElem_range,List.getD_eq_getElem?_getD,List.getElem?_eq_getElem h2]
 rfl
theorem zov {α β:Type} (as:List α) (d:α) (kb:α→Bool) (f:α→β):((List.range as.length).filter (λ i=>kb (as.getD i d))).map (λ i=>f (as.getD i d))=(as.filter kb).map f:=by
 have h:=znq as d
 rw [show (as.filter kb).map f=(((List.range as.length).map (λ i=>as.getD i d)).filter kb).map f by rw [h],List.filter_map,List.map_map]
 rfl
theorem zty {v:Ver} (h:okV v):PyData.canLay0 (ver v)=true:=by
 show (true && (PyData.canLay0 (plc v.2.1) && (PyData.strOk v.2.2 && true)))=true
 rw [zto,show PyData.strOk v.2.2=true from h]
 rfl
theorem zyq (v:Ver):PyData.depth (ver v)≤4:=by
 have h2:PyData.depth (ver v)=max 0 (max (PyData.depthAll (v.2.1.map stp)+1) (max 0 0))+1:=rfl
 have:=zlc v.2.1
 rw [h2]
 omega
end L2
namespace L2
open PySem PySem.Spec PyProof.Rows PySem.NumText
noncomputable abbrev Chg:=Mark×Option Ver×Option Ver
noncomputable def chD (c:Chg):PyData := .tuple [markD c.1,vdat c.2.1,vdat c.2.2]
noncomputable def okCh (c:Chg):Prop:=okO c.2.1∧okO c.2.2
theorem zbq (c:Chg):noL (chD c)=true:=by
 show (noL (markD c.1) && (noL (vdat c.2.1) && (noL (vdat c.2.2) && true)))=true
 rw [zgc,zgc]
 rfl
theorem zxs:∀ cs:List Chg,noLs (cs.map chD)=true
 | []=>rfl
 | c::cs=>by
  show (noL (chD c) && noLs (cs.map chD))=true
  rw [zbq,zxs cs]
  rfl
theorem zhg {o:Option Ver} (h:okO o):PyData.canLay0 (vdat o)=true:=by
 cases o with
 | none=>rfl
 | some v=>exact zty (h v rfl)
theorem zld (o:Option Ver):PyData.depth (vdat o)≤4:=by
 cases o with
 | none=>exact Nat.zero_le _
 | some v=>exact zyq v
theorem zkz {c:Chg} (h:okCh c):PyData.canLay0 (chD c)=true:=by
 show (PyData.canLay0 (markD c.1) && (PyData.canLay0 (vdat c.2.1) && (PyData.canLay0 (vdat c.2.2) && true)))=true
 rw [zhg h.1,zhg h.2]
 rfl
theorem zbu (c:Chg):PyData.depth (chD c)≤5:=by
 have h2:PyData.depth (chD c)=max (PyData.depth (markD c.1)) (max (PyData.depth (vdat c.2.1)) (max (PyData.depth (vdat c.2.2)) 0))+1:=rfl
 have h3:PyData.depth (markD c.1)≤1:=Nat.le_refl _
 have h4:=zld c.2.1
 have h5:=zld c.2.2
 rw [h2]
 omega
theorem zjh:∀ {cs:List Chg},(∀ c∈cs,okCh c)→PyData.canLayAll0 (cs.map chD)=true∧PyData.depthAll (cs.map chD)≤5
 | [],_=>⟨rfl,Nat.zero_le _⟩
 | c::cs,h=>by
  obtain ⟨h1,h2⟩:=zjh λ e he=>h e (List.mem_cons_of_mem _ he)
  refine ⟨?_,?_⟩
  ·show (PyData.canLay0 (chD c) && PyData.canLayAll0 (cs.map chD))=true
   rw [zkz (h c List.mem_cons_self),h1]
   rfl
  ·show max (PyData.depth (chD c)) (PyData.depthAll (cs.map chD))≤5
   have:=zbu c
   omega
theorem zad {cs:List Chg} (h:∀ c∈cs,okCh c):SeqAt.shaped (.list (cs.map chD))=true:=by
 obtain ⟨h1,h2⟩:=zjh h
 unfold SeqAt.shaped
 rw [show PyData.canLay0 (.list (cs.map chD))=true from h1,Bool.true_and]
 refine decide_eq_true ?_
 show PyData.depthAll (cs.map chD)+1≤_
 omega
theorem zbk {cs:List Chg} (h:∀ c∈cs,okCh c):PyData.eqv (.list (cs.map chD)) (.list (cs.map chD))=true:=SeqAt.eqvAll_refl _ (zjh h).1
theorem zdv {K:W.Frag} {H:Hp} {c:Chg} {x:V} (h:DV K H (chD c) x):∃ t q a b,x = .ref t∧SqT K H t [.ref q,a,b]∧SqT K H q (mkV c.1)∧DV K H (vdat c.2.1) a∧DV K H (vdat c.2.2) b:=by
 obtain ⟨t,vs,rfl,hq,v1,r1,rfl,e1,v2,r2,rfl,e2,v3,r3,rfl,e3,e4⟩:=h
 cases (show r3=_ from e4)
 obtain ⟨q,rfl,hm⟩:=zed e1
 exact ⟨t,q,v2,v3,rfl,hq,hm,e2,e3⟩
theorem zc2 {K:W.Frag} {H:Hp} {c:Chg} {t q:Addr} {a b:V} (h:SqT K H t [.ref q,a,b]) (hm:SqT K H q (mkV c.1)) (ha:DV K H (vdat c.2.1) a) (hb:DV K H (vdat c.2.2) b):DV K H (chD c) (.ref t) :=
 ⟨t,_,rfl,h,_,_,rfl,zsg hm,_,_,rfl,ha,_,_,rfl,hb,rfl⟩
noncomputable def mks (a:Sh):List Mark:=a.map (·.1)
theorem zzb:∀ {a:Sh} {m:Mark} {v:Ver},look a m=some v→(m,v)∈a
 | [],_,_,h=>by cases h
 | x::a,m,v,h=>by
  unfold look at h
  by_cases e:x.1=m
  ·rw [if_pos e] at h
   cases h
   rw [← e]
   exact List.mem_cons_self
  ·rw [if_neg e] at h
   exact List.mem_cons_of_mem _ (zzb h)
theorem zcs:∀ {a:Sh} {m:Mark},look a m=none→m∉mks a
 | [],_,_=>List.not_mem_nil
 | x::a,m,h=>by
  unfold look at h
  by_cases e:x.1=m
  ·rw [if_pos e] at h;cases h
  ·rw [if_neg e] at h
   intro z
   rcases List.mem_cons.mp z with z | z
   ·exact e z.symm
   ·exact zcs h z
theorem zmd {a:Sh} {m:Mark} (h:m∉mks a):look a m=none:=by
 cases e:look a m with
 | none=>rfl
 | some v=>exact absurd (List.mem_map_of_mem (f:=(·.1)) (zzb e)) h
theorem zyl {a:Sh} {m:Mark} (h:m∈mks a):∃ v,(m,v)∈a:=by
 obtain ⟨x,hx,rfl⟩:=List.mem_map.mp h
 exact ⟨x.2,hx⟩
theorem zuh {α:Type}:∀ {l1 l2:List α},l1.Nodup→l2.Nodup→(∀ x,x∈l1↔x∈l2)→l1.Perm l2:=λ h1 h2 h=>(List.perm_ext_iff_of_nodup h1 h2).mpr h
theorem zse {α:Type} [DecidableEq α]:∀ {l U:List α},l.Nodup→(∀ x∈l,x∈U)→l.length≤U.length
 | [],U,_,_=>Nat.zero_le _
 | x::l,U,h,hs=>by
  obtain ⟨h1,h2⟩:=List.nodup_cons.mp h
  have hx:=hs x List.mem_cons_self
  have:=zse (l:=l) (U:=U.erase x) h2 λ y hy=>(List.mem_erase_of_ne (λ (z:y=x)=>h1 (by rw [← z];exact hy))).mpr (hs y (List.mem_cons_of_mem _ hy))
  rw [List.length_erase_of_mem hx] at this
  have hp:=List.length_pos_of_mem hx
  rw [List.length_cons]
  omega
noncomputable def IsMk (a b:Sh) (ks:List Mark):Prop:=ks.Pairwise (λ x y=>mLt x y=true)∧∀ m,m∈ks↔m∈mks a ∨ m∈mks b
noncomputable def chg (a b:Sh) (m:Mark):Chg:=(m,look a m,look b m)
noncomputable def difB (c:Chg):Bool := !decide (c.2.1=c.2.2)
noncomputable def chgs (a b:Sh) (ks:List Mark):List Chg:=(ks.map (chg a b)).filter difB
theorem zzs {a b:Sh} (oa:∀ m∈a,okV m.2) (ob:∀ m∈b,okV m.2) (ks:List Mark):∀ c∈ks.map (chg a b),okCh c:=λ c hc=>by
 obtain ⟨m,_,rfl⟩:=List.mem_map.mp hc
 exact ⟨λ v e=>oa _ (zzb e),λ v e=>ob _ (zzb e)⟩
theorem zes {a b:Sh} {ks:List Mark} (h:ks.Pairwise λ x y=>mLt x y=true):(chgs a b ks).Pairwise λ x y=>mLt x.1 y.1=true:=by
 unfold chgs
 exact List.Pairwise.filter _ (List.pairwise_map.mpr h)
theorem toE {X:Cx} {e:Expr} {t t':TE} (h:PE X e t) (z:t=t'):PE X e t':=z ▸ h
theorem toS {X:Cx} {e:Stmt} {t t':TS} (h:PS X e t) (z:t=t'):PS X e t':=z ▸ h
theorem zoj {K:W.Frag} {H:Hp} (m:Mark):∀ {es:List Ent} {ns:Sh},EnS K H es ns→EnS K H (zer es m) (ns.filter λ n => !decide (n.1=m))
 | _,_,.nil=>.nil
 | e::es,n::ns,.cons a b=>by
  have ih:=zoj m b
  unfold zer at ih ⊢
  by_cases h:e.1=m
  ·rw [List.filter_cons_of_neg (by simp [h]),List.filter_cons_of_neg (by rw [← a.1];simp [h])]
   exact ih
  ·rw [List.filter_cons_of_pos (by simp [h]),List.filter_cons_of_pos (by rw [← a.1];simp [h])]
   exact .cons a ih
theorem zrv {es:List Ent} {m:Mark} {q:Addr} {v:V}:∃ z,zab (putM es m q v) m=some z:=by
 have:m∈(putM es m q v).map (·.1):=by
  rw [zyg]
  cases h:zab es m with
  | none=>simp
  | some z =>
   rw [if_pos (show (some z).isSome=true from rfl)]
   exact Classical.byContradiction λ hn=>by rw [znc hn] at h;cases h
 have:=zrb this
 cases h:zab (putM es m q v) m with
 | none=>rw [h] at this;cases this
 | some z=>exact ⟨z,rfl⟩
end L2
namespace L2
open PySem PySem.Spec PyProof.Rows PySem.NumText
theorem zoh {α:Type} {f:α→Int} {c:Int}:∀ {l:List α},(l.map f).Nodup→(l.filter λ x=>f x == c).length≤1
 | [],_=>Nat.zero_le _
 | x::l,h=>by
  obtain ⟨h1,h2⟩:=List.nodup_cons.mp h
  by_cases e:(f x == c)=true
  ·rw [List.filter_cons_of_pos (p:=λ y=>f y == c) e]
   have:l.filter (λ y=>f y == c)=[]:=by
    rw [List.filter_eq_nil_iff]
    intro y hy z
    refine h1 ?_
    rw [eq_of_beq e,← eq_of_beq z]
    exact List.mem_map_of_mem hy
   rw [this]
   exact Nat.le_refl _
  ·rw [List.filter_cons_of_neg (p:=λ y=>f y == c) e]
   exact zoh h2
section
variable {prog:Program} {w:World} {A:Around} {E:Value→Shared→Prop} {s:Shared} {d a:Addr} {ds:Array DictEntry} {ep:Nat} {o:Obj}
theorem zdl {id:String} {Q:Array DictEntry→Shared→Prop} (ho:s.heap.get? a=some o) (hd:o.data = .dict ds ep) (hk:∀ e∈ds.toList,∃ q,e.key = .ref q∧s.TypeIs (.ref q) "tuple") (hn:(ds.toList.map (·.hash)).Nodup) (h:Q ds s) :
  wpAny (model prog w) A (Builtin.Dict.entriesForEmpty id a) Q E s:=by
 unfold Builtin.Dict.entriesForEmpty
 refine wpAny_bind (wpAny_dictEntries ho hd (wpAny_bind ?_))
 rw [← Array.forIn_toList]
 refine wpAny_forIn_list _ (λ rest _ s'=>s'=s∧∀ e∈rest,e∈ds.toList) _ ?_ ?_ _ _ ⟨rfl,λ e he=>he⟩
 ·rintro e rest b s' ⟨rfl,hr⟩
  obtain ⟨q,ek,hT⟩:=hk e (hr e List.mem_cons_self)
  rw [ek]
  unfold Builtin.Dict.quietEq
  refine wpAny_bind (wpAny_bind (wpAny_specialOf hT F.slot_tuple_eq.lookup (wpAny_pure ?_)))
  have hz:(ds.filter (·.hash == e.hash)).size≤1:=by
   rw [← Array.length_toList,Array.toList_filter]
   exact zoh hn
  rw [if_pos (by decide),if_neg (Nat.not_lt.mpr hz)]
  exact wpAny_pure ⟨rfl,λ e' he'=>hr e' (List.mem_cons_of_mem _ he')⟩
 ·rintro b s' ⟨rfl,_⟩
  exact wpAny_pure h
theorem zkn {nm:String} {Q:Unit→Shared→Prop} {od:Obj} {epd:Nat} (nda:d≠a) (haS:(a == sysModules)=false) (hod:s.heap.get? d=some od) (hdd:od.data = .dict #[] epd) (ho:s.heap.get? a=some o) (hd:o.data = .dict ds ep)
  (hk:∀ e∈ds.toList,∃ q,e.key = .ref q∧s.TypeIs (.ref q) "tuple") (hn:(ds.toList.map (·.hash)).Nodup) (hz:ds.size≤1000)
  (h0:ds = #[]→Q () s) (h1:ds ≠ #[]→Q () { s with heap:=s.heap.update d (Obj.mapDictKeys λ _=>ds) }):wpAny (model prog w) A (Builtin.Dict.mergeDict nm d a) Q E s:=by
 unfold Builtin.Dict.mergeDict
 rw [if_neg (by simpa using nda)]
 unfold Builtin.Dict.showsAll
 rw [if_neg (by rw [haS];exact Bool.false_ne_true)]
 refine wpAny_bind (wpAny_pure ?_)
 refine wpAny_bind (wpAny_dictEntries ho hd ?_)
 dsimp only
 by_cases he:ds = #[]
 ·subst he
  rw [if_neg (by simp)]
  refine wpAny_bind (wpAny_dictEpoch ho hd (wpAny_bind (wpAny_dictEntries ho hd (wpAny_bind ?_))))
  rw [Std.Legacy.Range.forIn_eq_forIn_range']
  refine wpAny_forIn_list _ (λ rest _ s'=>rest=[]∧s'=s) _ ?_ ?_ _ _ ⟨rfl,rfl⟩
  ·rintro x rest b s' ⟨z,_⟩
   cases z
  ·rintro b s' ⟨_,rfl⟩
   exact wpAny_pure (h0 rfl)
 ·have hne:0<ds.size:=Nat.pos_of_ne_zero λ z=>he (Array.size_eq_zero_iff.mp z)
  have hfew:(decide (ds.size≤8) && ds.all λ e=>(keyPart e.key).isSome)=false:=by
   have:(ds.all λ e=>(keyPart e.key).isSome)=false:=by
    rw [Bool.eq_false_iff]
    intro z
    rw [Array.all_eq_true] at z
    have z0:=z 0 hne
    obtain ⟨q,ek,_⟩:=hk ds[0] (Array.mem_toList_iff.mpr (Array.getElem_mem hne))
    rw [ek] at z0
    cases z0
   rw [this,Bool.and_false]
  rw [hfew,if_pos (by decide)]
  refine wpAny_bind (wpAny_dictEntries hod hdd ?_)
  rw [if_pos (by decide)]
  refine wpAny_bind (zdl ho hd hk hn ?_)
  have hemp:ds.isEmpty=false:=by
   cases hq:ds.isEmpty with
   | false=>rfl
   | true=>exact absurd (Array.isEmpty_iff.mp hq) he
  rw [hemp,if_pos (by decide)]
  exact wpAny_bind (wpAny_updateDictKeysTo hod hdd (wpAny_pure (h1 he)) (by rw [sizeLine_eq];omega))
theorem zig {Q:Value→Shared→Prop} {xs:List Row} (haS:(a == sysModules)=false) (hd:s.heap.DictOfH (dK prog w) a xs) (hz:xs.length≤1000) (hn:(xs.map λ x=>(dK prog w).hash x.1).Nodup)
  (k:∀ h' tk,(∀ b o,s.heap.get? b=some o→h'.get? b=some o)→h'.DictOfH (dK prog w) s.heap.objs.size xs→Q (.ref s.heap.objs.size) { s with heap:=h',toks:=tk }):wpAny (model prog w) A (call (.type "dict") [.ref a]) Q E s:=by
 obtain ⟨o,ds,ep,a1,a2,a3,a4,a5,a6⟩:=id hd
 obtain ⟨h1,hh1⟩:∃ h1,h1=s.heap.push { cls := .type "dict",data := .dict (#[]:Array DictEntry) }:=⟨_,rfl⟩
 have kp1:∀ b o,s.heap.get? b=some o→h1.get? b=some o:=λ b o e=>by rw [hh1];exact Heap.get?_push_of_some _ e
 have hd1:h1.get? s.heap.objs.size=some { cls := .type "dict",data := .dict #[] }:=by rw [hh1];exact Heap.get?_push_size _ rfl
 refine callType_codes (Q₁:=λ obj s1=>obj = .ref s.heap.objs.size∧s1={ s with heap:=h1 }) F.kt_called_dict (F.kt_typeCall_dict_1 _) F.entry_dict_init (kt_code_dict_new _ ⟨rfl,by rw [hh1]⟩) λ obj s1 ⟨e1,e2⟩=>?_
 subst e1 e2
 have td:({ s with heap:=h1 }:Shared).TypeIs (.ref s.heap.objs.size) "dict" := ⟨_,hd1,rfl⟩
 have ta:({ s with heap:=h1 }:Shared).TypeIs (.ref a) "dict" := ⟨_,kp1 _ _ a1,a2.1⟩
 refine ⟨td,F.args_dict_init_2 _ _,?_⟩
 unfold Builtin.«dict.__init__» Builtin.Dict.selfAndRest
 refine wpAny_bind (wpAny_bind (wpAny_notOrdered_dict td ?_))
 refine wpAny_bind (wpAny_pure (wpAny_pure ?_))
 show wpAny _ _ (Builtin.Dict.updateFrom "dict.__init__" s.heap.objs.size (.ref a) [] .none) _ _ _
 unfold Builtin.Dict.updateFrom
 refine wpAny_bind (wpAny_typeOf ta ?_)
 rw [if_neg (by decide)]
 refine wpAny_bind ?_
 unfold Builtin.Dict.merge
 refine wpAny_bind ?_
 unfold Builtin.Dict.readDirectly
 refine wpAny_bind (wpAny_isInstance ta isSubtype_dict_dict ?_)
 simp only [Bool.not_true,Bool.false_eq_true,if_false]
 refine wpAny_bind (wpAny_specialOf ta F.slot_dict_iter.lookup (wpAny_pure ?_))
 simp only [beq_self_eq_true,if_true]
 refine wpAny_bind (wpAny_pure ?_)
 have nda:s.heap.objs.size≠a:=Ne.symm (Nat.ne_of_lt (Heap.lt_size a1))
 have hsz:ds.size=xs.length:=by rw [← Array.length_toList,a4,List.length_map]
 have last:∀ h',(∀ b o,s.heap.get? b=some o→h'.get? b=some o)→(∃ ob ep',h'.get? s.heap.objs.size=some ob∧ob.ExactDict∧ob.data = .dict ds ep') →
   wpAny (model prog w) A.in1.in1 (do Builtin.Dict.addKeywords s.heap.objs.size [];ret Value.none)
    (λ fin s'=>match fin with
     | .done f=>wants (λ r s₂=>r=Value.none∧Q (.ref s.heap.objs.size) s₂) E (Except.ok f) s'
     | .again c'=>c'.quiet=true∧codeAny (model prog w) A.in1 c' (wants (λ r s₂=>r=Value.none∧Q (.ref s.heap.objs.size) s₂) E) s')
    (λ e s'=>wants (λ r s₂=>r=Value.none∧Q (.ref s.heap.objs.size) s₂) E (Except.error e) s') { s with heap:=h' }:=by
  rintro h' kp ⟨ob,ep',g1,g2,g3⟩
  refine wpAny_bind (wpAny_pure (wpAny_pure ⟨rfl,k h' s.toks kp ⟨ob,ds,ep',g1,g2,g3,a4,λ x hx=>?_,a6⟩⟩))
  exact zek (a5 x hx) λ o e=>kp _ _ e
 refine zkn (s:={ s with heap:=h1 }) nda haS hd1 rfl (kp1 _ _ a1) a3 (λ e he=>?_) ?_ (by omega) (λ h0=>?_) (λ h0=>?_)
 ·rw [a4] at he
  obtain ⟨x,hx,rfl⟩:=List.mem_map.mp he
  obtain ⟨oq,its,n,q1,q2,_⟩:=a5 x hx
  exact ⟨x.2.1,rfl,oq,kp1 _ _ q1,q2⟩
 ·rw [a4,List.map_map]
  exact hn
 ·exact last h1 kp1 ⟨_,0,hd1,⟨rfl,rfl,rfl⟩,by rw [h0]⟩
 ·refine last _ (λ b o' e=>?_) ⟨_,_,Heap.get?_update_self _ hd1 rfl,⟨rfl,rfl,rfl⟩,rfl⟩
  rw [Heap.get?_update_other _ _ (Ne.symm (Nat.ne_of_lt (Heap.lt_size e)))]
  exact kp1 _ _ e
end
section
variable {X:Cx}
noncomputable def zx1 (P:Program) (w:World) (K:W.Frag):List V→Hp→VK→Prop:=λ xs H Q=>∃ (a:Addr) (es:List Ent) (o:Obj),xs=[.ref a]∧H a=some (dO P w a es o)∧(∀ e∈es,SqT K H e.2.1 (mkV e.1))∧es.length≤1000∧(es.map λ e=>zni (markD e.1)).Nodup∧∀ q o',H q=none→Q (.ref q) (upd H q (dO P w q es o'))
theorem zao:zvg X (.type "dict") (zx1 X.prog X.w X.K):=by
 intro pins s σ H xs us Q I r h
 obtain ⟨a,es,o,rfl,ha,hk,hz,hn,q⟩:=h
 obtain ⟨u,rfl,ru⟩:=zzm r
 cases ru
 obtain ⟨z,hs,rs,rel,dd⟩:=I.dict ⟨⟨o,ha⟩,hk⟩
 have hrl:es.length=rs.length:=Paired.length rel
 have hh:∀ {es:List Ent} {rs:List Row},Paired EntR es rs→(rs.map λ x=>(dK X.prog X.w).hash x.1)=es.map λ e=>zni (markD e.1):=by
  intro es rs h
  induction h with
  | nil=>rfl
  | cons p _ ih=>rw [List.map_cons,List.map_cons,ih,p.1];rfl
 refine zig hs dd (by omega) (by rw [hh rel];exact hn) λ h' tk kp dd'=>?_
 have hb:(s.heap.objs.size == sysModules)=false:=beq_eq_false_iff_ne.mpr (Ne.symm (Nat.ne_of_lt I.bigM))
 obtain ⟨ob,hob⟩:=zcu (P:=X.prog) (w:=X.w) (H:=H) (es:=es) z hb rel dd'
 exact ⟨.ref s.heap.objs.size,_,I.laid (t':=tk) kp (Nat.le_refl _) hob,rfl,q _ ob (I.hok.fresh (Nat.le_refl _))⟩
end
end L2
namespace L2
open PySem PySem.Spec PyProof.Rows PySem.NumText
section
variable {prog:Program} {w:World} {A:Around} {E:Value→Shared→Prop} {s:Shared} {d r:Addr} {ds:Array DictEntry} {ep:Nat}
theorem zqi {R:Result→Shared→Prop} {S:Addr} {c0:Nat} (hh:A.handled=none) (hv:s.heap.IsItemsView r d) (hd:RawD s.heap d ds ep) (hn:ds.size≤sizeLine) (nSr:S≠r) (ndS:d≠S)
  (hS:s.heap.get? S=some { cls := .type "list",data := .seq #[] c0 })
  (k:∀ h' tk acc c as,(∀ b o,b≠S→s.heap.get? b=some o→h'.get? b=some o)→h'.get? S=some { cls := .type "list",data := .seq acc c }→as.length=ds.size→Got ds s.heap.objs.size h' as→acc.toList=as.map Value.ref→R (.ok (.ret .none)) { s with heap:=h',toks:=tk }) :
  wpAny (model prog w) A.in1 (Builtin.List.listExtendWith (.ref S) (.ref r) .none)
   (λ fin s'=>match fin with | .done f=>R (.ok f) s' | .again c'=>c'.quiet=true∧codeAny (model prog w) A c' R s') (λ e s'=>R (.error e) s') s:=by
 obtain ⟨o,d1,d2,d3⟩:=id hd
 obtain ⟨vo,v1,v2⟩:=id hv
 unfold Builtin.List.listExtendWith
 refine wpAny_bind (wpAny_typeOf hv.typeIs ?_)
 rw [if_neg (by simp [Builtin.List.listSameRef,nSr])]
 refine wpAny_bind (zkh hv hd ?_)
 obtain ⟨h2,hh2⟩:∃ h2,h2=s.heap.push (zcg d 0 ds.size ep .none false .none .none):=⟨_,rfl⟩
 have z2:h2.objs.size=s.heap.objs.size+1:=by rw [hh2,Heap.size_push]
 have kp2:∀ b ob,s.heap.get? b=some ob→h2.get? b=some ob:=λ b ob e=>by rw [hh2];exact Heap.get?_push_of_some _ e
 have i2:h2.get? s.heap.objs.size=some (zcg d 0 ds.size ep .none false .none .none):=by rw [hh2];exact Heap.get?_push_size _ rfl
 show wpAny _ _ _ _ _ { s with heap:=s.heap.push (zcg d 0 ds.size ep .none false .none .none) }
 rw [← hh2]
 have hv2:({ s with heap:=h2 }:Shared).heap.IsItemsView r d:=⟨vo,kp2 _ _ v1,v2⟩
 refine wpAny_bind (wpAny_holding (W.kdx_hint hv2.typeIs ?_))
 have nSI:S≠s.heap.objs.size:=Nat.ne_of_lt (Heap.lt_size hS)
 have ndI:d≠s.heap.objs.size:=Nat.ne_of_lt (Heap.lt_size d1)
 have fin:∀ h3 c,h3.objs.size=h2.objs.size→(∀ b,b≠S→h3.get? b=h2.get? b)→h3.get? S=some { cls := .type "list",data := .seq #[] c } →
   codeAny (model prog w) A (.builtin "list.extend.loop" ⟨[.ref S,.ref s.heap.objs.size,.none],[]⟩) R { s with heap:=h3,toks:=s.toks }:=by
  intro h3 c z3 oth3 hS3
  refine zeh (ep:=ep) (d:=d) (h1:=h2) (lo:=s.heap.objs.size) hh hn nSI ndS ndI .none ?_ (ds.size - 0) 0 h3 s.toks c #[] [] .none false .none .none rfl (Nat.zero_le _) (by rw [oth3 _ nSI.symm];exact i2) (.inl ⟨rfl,rfl⟩) ⟨o,by rw [oth3 _ ndS];exact kp2 _ _ d1,d2,d3⟩ (λ b ob hb1 hb2 e=>by rw [oth3 _ hb1];exact e) hS3 rfl rfl ⟨λ j a e=>by simp at e,List.nodup_nil⟩ (λ a ha=>by cases ha) (by rw [z3,z2];exact Nat.le_succ _)
  intro h' tk acc c' as kp' hS' hal hG hacc
  exact k h' tk acc c' as (λ b ob hb e=>kp' b ob hb (Nat.ne_of_lt (Heap.lt_size e)) (kp2 _ _ e)) hS' hal hG hacc
 refine wpAny_ite_split (λ _=>?_) (λ _=>?_)
 ·refine wpAny_bind (wpAny_rule (wpAny_bind (wpAny_bind (wpAny_updateSeq (a:=S) (s:={ s with heap:=h2 }) (kp2 _ _ hS) rfl ?_ (Nat.zero_le _) (by show 1≤_;rw [sizeLine_eq];omega)))))
  have self:(h2.update S (Obj.mapSeq λ x=>x.push .none)).get? S=some { cls := .type "list",data := .seq #[.none] (c0+1) }:=Heap.get?_update_self _ (kp2 _ _ hS) rfl
  refine wpAny_updateSeq (a:=S) self rfl ?_ (by show 1≤_;rw [sizeLine_eq];omega) (Nat.zero_le _)
  refine wpAny_pure ⟨plainId_quiet F.plain_extend_loop _,fin _ (c0+1+1) ?_ ?_ ?_⟩
  ·rw [Heap.size_update,Heap.size_update]
  ·intro b hb
   rw [Heap.get?_update_other _ _ (Ne.symm hb),Heap.get?_update_other _ _ (Ne.symm hb)]
  ·exact Heap.get?_update_self _ self rfl
 ·exact wpAny_pure ⟨plainId_quiet F.plain_extend_loop _,fin h2 c0 rfl (λ _ _=>rfl) (kp2 _ _ hS)⟩
theorem zjf {Q:Value→Shared→Prop} (hh:A.handled=none) (hv:s.heap.IsItemsView r d) (hd:RawD s.heap d ds ep) (hn:ds.size≤sizeLine)
  (k:∀ h' tk acc c as,(∀ b o,s.heap.get? b=some o→h'.get? b=some o)→h'.get? s.heap.objs.size=some { cls := .type "list",data := .seq acc c }→as.length=ds.size→Got ds (s.heap.objs.size+1) h' as→acc.toList=as.map Value.ref→Q (.ref s.heap.objs.size) { s with heap:=h',toks:=tk }):wpAny (model prog w) A (call (.type "list") [.ref r]) Q E s:=by
 obtain ⟨o,d1,d2,d3⟩:=id hd
 obtain ⟨vo,v1,v2⟩:=id hv
 obtain ⟨h1,hh1⟩:∃ h1,h1=s.heap.push { cls := .type "list",data := .seq (#[]:Array Value) }:=⟨_,rfl⟩
 have kp1:∀ b ob,s.heap.get? b=some ob→h1.get? b=some ob:=λ b ob e=>by rw [hh1];exact Heap.get?_push_of_some _ e
 have hS1:h1.get? s.heap.objs.size=some { cls := .type "list",data := .seq #[] }:=by rw [hh1];exact Heap.get?_push_size _ rfl
 refine callType_codes (Q₁:=λ obj s₁=>obj = .ref s.heap.objs.size∧s₁={ s with heap:=h1 }) F.called_list (F.typeCall_list_1 _) F.entry_list_init (code_list_new _ ⟨rfl,by rw [hh1]⟩) λ obj s₁ ⟨e1,e2⟩=>?_
 subst e1 e2
 refine ⟨⟨_,hS1,rfl⟩,F.args_list_init_2 _ _,?_⟩
 show wpAny _ A.in1.in1 (do let old ← Builtin.List.listItems (.ref s.heap.objs.size);Builtin.List.listUpdate (.ref s.heap.objs.size) (λ _ => #[]);letGo old.toList.reverse;Builtin.List.listExtendWith (.ref s.heap.objs.size) (.ref r) .none) _ _ _
 refine wpAny_bind ?_
 unfold Builtin.List.listItems
 refine wpAny_bind (wpAny_seqItems hS1 rfl (wpAny_pure ?_))
 show wpAny _ A.in1.in1 (updateSeq s.heap.objs.size (λ _ => #[]) >>= λ _=>letGo (#[]:Array Value).toList.reverse >>= λ _=>Builtin.List.listExtendWith (.ref s.heap.objs.size) (.ref r) .none) _ _ _
 refine wpAny_bind (wpAny_updateSeq hS1 rfl ?_)
 have hS2:=Heap.get?_update_self (Obj.mapSeq (λ _=>(#[]:Array Value))) hS1 rfl
 refine wpAny_bind (wpAny_letGo ?_)
 obtain ⟨h2,hh2⟩:∃ h2,h2=h1.update s.heap.objs.size (Obj.mapSeq (λ _=>(#[]:Array Value))):=⟨_,rfl⟩
 rw [← hh2] at hS2 ⊢
 have kp2:∀ b ob,s.heap.get? b=some ob→h2.get? b=some ob:=λ b ob e=>by
  rw [hh2,Heap.get?_update_other _ _ (Ne.symm (Nat.ne_of_lt (Heap.lt_size e)))]
  exact kp1 _ _ e
 have z2:h2.objs.size=s.heap.objs.size+1:=by rw [hh2,Heap.size_update,hh1,Heap.size_push]
 refine zqi (A:=A.in1) (s:={ s with heap:=h2 }) (c0:=0) hh (d:=d) (ds:=ds) (ep:=ep) ⟨vo,kp2 _ _ v1,v2⟩ ⟨o,kp2 _ _ d1,d2,d3⟩ hn (Nat.ne_of_gt (Heap.lt_size v1)) (Nat.ne_of_lt (Heap.lt_size d1)) hS2 ?_
 intro h' tk acc c as kp hS' hal hG hacc
 rw [z2] at hG
 exact ⟨rfl,k h' tk acc c as (λ b ob e=>kp b ob (Nat.ne_of_lt (Heap.lt_size e)) (kp2 _ _ e)) hS' hal hG hacc⟩
end
section
variable {X:Cx}
noncomputable def zh2 (P:Program) (w:World) (K:W.Frag):List V→Hp→VK→Prop:=λ xs H Q=>∃ (v a:Addr) (es:List Ent) (o:Obj) (val:Mark→PyData),xs=[.ref v]∧H v=some (zmv v a)∧H a=some (dO P w a es o)∧(∀ e∈es,SqT K H e.2.1 (mkV e.1))∧(∀ e∈es,DV K H (val e.1) e.2.2)∧es.length≤1000 ∧
 ∀ (H':Hp) (l:Addr) (ws:List V),Same H H'→(Plain H→Plain H')→H' l=none→DVs K H' ((es.map (·.1)).map (zcl val)) ws→Q (.ref l) (upd H' l (.lst ws))
theorem ztn (hc:X.calm=true):zvg X (.type "list") (zh2 X.prog X.w X.K):=by
 intro pins s σ H xs us Q I r h
 obtain ⟨v,a,es,o,val,rfl,hv,ha,hk,hd,hz,q⟩:=h
 obtain ⟨u,rfl,ru⟩:=zzm r
 cases ru
 obtain ⟨hview,_,_⟩:=I.hok v _ hv
 obtain ⟨h1,_,_,ds,ep,rs,RR⟩:=I.raw ha
 refine zjf (I.ok.hd hc) hview ⟨o,h1,RR.cl,RR.dat⟩ (by rw [RR.size,sizeLine_eq];omega) λ h' tk acc c as kp hS hal hG hacc=>?_
 rw [RR.size] at hal
 have hts:∀ t∈List.zipWith (λ a (e:Ent)=>(a,[V.ref e.2.1,e.2.2])) as es,s.heap.objs.size≤t.1∧ObjOk X.prog X.w H h' t.1 (.tup t.2):=by
  intro t ht
  obtain ⟨j,hj⟩:=List.getElem?_of_mem ht
  rw [List.getElem?_zipWith] at hj
  cases ea:as[j]? with
  | none=>rw [ea] at hj;cases hj
  | some aj =>
   cases ee:es[j]? with
   | none=>rw [ea,ee] at hj;cases hj
   | some e =>
    rw [ea,ee] at hj
    cases hj
    obtain ⟨q1,u,q2,q3⟩:=hG.at_ j aj ea
    obtain ⟨u',x,q4,q5,q6,q7⟩:=RR.at_ ee
    rw [q4] at q2
    cases q2
    refine ⟨Nat.le_of_succ_le q1,by show 2≤sizeLine;decide,[.ref e.2.1,x],.cons rfl (.cons q7 .nil),⟨_,q3,rfl,0,?_⟩⟩
    rw [q5,q6]
    rfl
 have hne:∀ a'∈as,a'≠s.heap.objs.size:=λ a' h=>by
  obtain ⟨j,hj⟩:=List.getElem?_of_mem h
  exact Nat.ne_of_gt (hG.at_ j a' hj).1
 have sm:Same H (layT H (List.zipWith (λ a (e:Ent)=>(a,[V.ref e.2.1,e.2.2])) as es)):=λ b z e=>by
  rw [zqc λ t ht=>Nat.ne_of_lt (Nat.lt_of_lt_of_le (I.hok.lt e) (hts t ht).1)];exact e
 have hmap:(List.zipWith (λ a (e:Ent)=>(a,[V.ref e.2.1,e.2.2])) as es).map (·.1)=as:=by
  rw [List.map_zipWith]
  exact List.ext_getElem? λ j=>by
   rw [List.getElem?_zipWith]
   cases ea:as[j]? with
   | none=>rfl
   | some aj =>
    cases ee:es[j]? with
    | none =>
     have h1:=(List.getElem?_eq_some_iff.mp ea).1
     have h2:=List.getElem?_eq_none_iff.mp ee
     omega
    | some e=>rfl
 have hnd:((List.zipWith (λ a (e:Ent)=>(a,[V.ref e.2.1,e.2.2])) as es).map (·.1)).Nodup:=by rw [hmap];exact hG.nd
 have dvs:DVs X.K (layT H (List.zipWith (λ a (e:Ent)=>(a,[V.ref e.2.1,e.2.2])) as es)) ((es.map (·.1)).map (zcl val)) (as.map V.ref):=by
  have gen:∀ (as':List Addr) (es':List Ent),as'.length=es'.length→(∀ (j:Nat) aj e,as'[j]? = some aj→es'[j]? = some e→(aj,[V.ref e.2.1,e.2.2])∈List.zipWith (λ a (e:Ent)=>(a,[V.ref e.2.1,e.2.2])) as es∧e∈es)→DVs X.K (layT H (List.zipWith (λ a (e:Ent)=>(a,[V.ref e.2.1,e.2.2])) as es)) ((es'.map (·.1)).map (zcl val)) (as'.map V.ref):=by
   intro as'
   induction as' with
   | nil =>
    intro es' hl hm
    cases es' with
    | nil=>rfl
    | cons e es'=>cases hl
   | cons a1 as' ih =>
    intro es' hl hm
    cases es' with
    | nil=>cases hl
    | cons e es' =>
     obtain ⟨m1,m2⟩:=hm 0 a1 e rfl rfl
     refine ⟨_,_,rfl,⟨a1,_,rfl,SqT.of (zvm hnd m1),_,_,rfl,zsg (sm.seqT (hk e m2)),_,_,rfl,DV.same sm _ _ (hd e m2),rfl⟩,ih es' (by simpa using hl) λ j aj e h1 h2=>hm (j+1) aj e (by simpa using h1) (by simpa using h2)⟩
  refine gen as es hal λ j aj e h1 h2=>⟨List.mem_of_getElem? (i:=j) ?_,List.mem_of_getElem? h2⟩
  rw [List.getElem?_zipWith,h1,h2]
 have vals:∀ as:List Addr,Vals (as.map V.ref) (as.map Value.ref):=by
  intro as
  induction as with
  | nil=>exact .nil
  | cons a as ih=>exact .cons rfl ih
 have hn0:(layT H (List.zipWith (λ a (e:Ent)=>(a,[V.ref e.2.1,e.2.2])) as es)) s.heap.objs.size=none:=by
  rw [zqc λ t ht=>Ne.symm (hne t.1 (by rw [← hmap];exact List.mem_map_of_mem (f:=(·.1)) ht))]
  exact I.hok.fresh (Nat.le_refl _)
 have key:∀ (ts:List (Addr×List V)),(∀ t∈ts,t.1≠s.heap.objs.size)→upd (layT H ts) s.heap.objs.size (.lst (as.map V.ref))=layT (upd H s.heap.objs.size (.lst (as.map V.ref))) ts:=by
  intro ts
  induction ts with
  | nil=>intro _;rfl
  | cons t ts ih =>
   intro hn
   have:=ih λ t' h=>hn t' (List.mem_cons_of_mem _ h)
   show upd (upd (layT H ts) t.1 (.tup t.2)) s.heap.objs.size _=upd (layT (upd H s.heap.objs.size _) ts) t.1 (.tup t.2)
   rw [← this]
   funext b
   have nt:=hn t List.mem_cons_self
   by_cases h1:b=s.heap.objs.size
   ·subst h1;rw [upd_same,zga (Ne.symm nt),upd_same]
   ·rw [zga h1]
    by_cases h2:b=t.1
    ·subst h2;rw [upd_same,upd_same]
    ·rw [zga h2,zga h2,zga h1]
 have hnt:∀ t∈List.zipWith (λ a (e:Ent)=>(a,[V.ref e.2.1,e.2.2])) as es,t.1≠s.heap.objs.size:=λ t ht=>hne t.1 (by rw [← hmap];exact List.mem_map_of_mem (f:=(·.1)) ht)
 obtain ⟨lo,hlo⟩:∃ lo:Obj,lo={ cls := .type "list",data := .seq (as.map Value.ref).toArray c }:=⟨_,rfl⟩
 have eacc:acc=(as.map Value.ref).toArray:=by rw [← hacc]
 have gp:(s.heap.push lo).get? s.heap.objs.size=some lo:=by rw [hlo];exact Heap.get?_push_size _ rfl
 have hlen:(as.map V.ref).length≤sizeLine:=by rw [List.length_map,hal,sizeLine_eq];omega
 have I2:=I.laid (h':=s.heap.push lo) (t':=s.toks) (a:=s.heap.objs.size) (o := .lst (as.map V.ref)) (λ b u e=>Heap.get?_push_of_some _ e) (Nat.le_refl _) ⟨hlen,_,c,vals as,by rw [gp,hlo]⟩
 have kp2:∀ b u,(s.heap.push lo).get? b=some u→h'.get? b=some u:=λ b u e=>by
  rcases Heap.get?_push_cases e with ⟨rfl,rfl⟩ | e
  ·rw [hS,hlo,eacc]
  ·exact kp b u e
 have I3:=I2.laidAll (t':=tk) (h':=h') kp2 (ts:=List.zipWith (λ a (e:Ent)=>(a,[V.ref e.2.1,e.2.2])) as es) λ t ht=>by
  refine ⟨?_,(hts t ht).2⟩
  show (s.heap.push lo).objs.size≤t.1
  rw [Heap.size_push]
  exact Nat.succ_le_of_lt (Nat.lt_of_le_of_ne (hts t ht).1 (Ne.symm (hnt t ht)))
 rw [← key _ hnt] at I3
 exact ⟨.ref s.heap.objs.size,_,I3,rfl,q _ _ _ sm (λ p=>Plain.layT p _) hn0 dvs⟩
end
end L2
namespace L2
open PySem PySem.Spec PyProof.Rows PySem.NumText
noncomputable def boxM (A B:Nat):List Mark:=(List.range A).flatMap λ (a:Nat)=>(List.range B).map λ (b:Nat)=>(Int.ofNat a,Int.ofNat b)
theorem zis {A B:Nat} {m:Mark} (h1:0≤m.1) (h2:m.1<A) (h3:0≤m.2) (h4:m.2<B):m∈boxM A B:=by
 obtain ⟨x,y⟩:=m
 refine List.mem_flatMap.mpr ⟨x.toNat,List.mem_range.mpr (by dsimp only at *;omega),List.mem_map.mpr ⟨y.toNat,List.mem_range.mpr (by dsimp only at *;omega),?_⟩⟩
 dsimp only at h1 h3
 show (Int.ofNat x.toNat,Int.ofNat y.toNat)=(x,y)
 rw [show Int.ofNat x.toNat=x from Int.toNat_of_nonneg h1,show Int.ofNat y.toNat=y from Int.toNat_of_nonneg h3]
theorem zax {α β:Type} {f:α→β}:∀ {l:List α},(l.map f).Nodup→∀ {x y},x∈l→y∈l→f x=f y→x=y
 | a::l,h,x,y,hx,hy,e=>by
  obtain ⟨h1,h2⟩:=List.nodup_cons.mp h
  rcases List.mem_cons.mp hx with hx1 | hx1
  ·rcases List.mem_cons.mp hy with hy1 | hy1
   ·rw [hx1,hy1]
   ·refine absurd ?_ h1
    rw [← hx1,e]
    exact List.mem_map_of_mem hy1
  ·rcases List.mem_cons.mp hy with hy1 | hy1
   ·refine absurd ?_ h1
    rw [← hy1,← e]
    exact List.mem_map_of_mem hx1
   ·exact zax h2 hx1 hy1 e
theorem zxx {box ks:List Mark} (hb:(box.map λ m=>zni (markD m)).Nodup) (nd:ks.Nodup) (hin:∀ k∈ks,k∈box):(ks.map λ m=>zni (markD m)).Nodup:=by
 refine List.pairwise_map.mpr (nd.imp_of_mem fun {a b} ha hb' hne e=>hne (zax hb (hin a ha) (hin b hb') e))
theorem zru {ns:Sh} {m:Mark} {v:Ver} (hn:m∉mks ns):∀ k,look (ns++[(m,v)]) k=if m=k then some v else look ns k:=by
 intro k
 induction ns with
 | nil=>rfl
 | cons n ns ih =>
  have hn':m∉mks ns:=λ z=>hn (List.mem_cons_of_mem _ z)
  have hm:n.1≠m:=λ z=>hn (by rw [← z];exact List.mem_cons_self)
  show (if n.1=k then some n.2 else look (ns++[(m,v)]) k)=if m=k then some v else if n.1=k then some n.2 else look ns k
  rw [ih hn']
  by_cases h1:n.1=k
  ·rw [if_pos h1,if_neg (λ z=>hm (h1.trans z.symm)),if_pos h1]
  ·rw [if_neg h1,if_neg h1]
theorem zxo {m:Mark} {v:Ver}:∀ {ns:Sh},m∈mks ns→∀ k,look (ns.map λ n=>if n.1=m then (n.1,v) else n) k=if m=k then some v else look ns k
 | [],h,k=>by cases h
 | n::ns,h,k=>by
  have step:look ((n::ns).map λ n=>if n.1=m then (n.1,v) else n) k=if n.1=k then some (if n.1=m then v else n.2) else look (ns.map λ n=>if n.1=m then (n.1,v) else n) k:=by
   show (if (if n.1=m then (n.1,v) else n).1=k then some (if n.1=m then (n.1,v) else n).2 else _)=_
   by_cases h1:n.1=m
   ·rw [if_pos h1,if_pos h1]
   ·rw [if_neg h1,if_neg h1]
  rw [step]
  show _=if m=k then some v else if n.1=k then some n.2 else look ns k
  by_cases h2:n.1=k
  ·rw [if_pos h2,if_pos h2]
   by_cases h1:n.1=m
   ·rw [if_pos h1,if_pos (h1.symm.trans h2)]
   ·rw [if_neg h1,if_neg (λ z=>h1 (h2.trans z.symm))]
  ·rw [if_neg h2,if_neg h2]
   by_cases h3:m∈mks ns
   ·rw [zxo h3]
   ·have hm:m=n.1:=(List.mem_cons.mp h).resolve_right h3
    rw [if_neg (λ z=>h2 (hm ▸ z))]
    congr 1
    have:∀ x∈ns,(if x.1=m then (x.1,v) else x)=x:=λ x hx=>if_neg λ z=>h3 (by rw [← z];exact List.mem_map_of_mem (f:=(·.1)) hx)
    exact (List.map_congr_left this).trans (List.map_id _)
theorem zxf (m:Mark):∀ (ns:Sh) (k:Mark),look (ns.filter λ n => !decide (n.1=m)) k=if m=k then none else look ns k
 | [],k=>by
  show none=if m=k then none else none
  split <;> rfl
 | n::ns,k=>by
  have ih:=zxf m ns k
  by_cases h1:n.1=m
  ·rw [List.filter_cons_of_neg (by simp [h1]),ih]
   show _=if m=k then none else if n.1=k then some n.2 else look ns k
   by_cases h2:m=k
   ·rw [if_pos h2,if_pos h2]
   ·rw [if_neg h2,if_neg h2,if_neg (λ z=>h2 (h1.symm.trans z))]
  ·rw [List.filter_cons_of_pos (by simp [h1])]
   show (if n.1=k then some n.2 else look (ns.filter _) k)=if m=k then none else if n.1=k then some n.2 else look ns k
   rw [ih]
   by_cases h2:n.1=k
   ·rw [if_pos h2,if_neg (λ z=>h1 (h2.trans z.symm)),if_pos h2]
   ·rw [if_neg h2,if_neg h2]
noncomputable def putS (ns:Sh) (m:Mark) (v:Ver):Sh:=if m∈mks ns then ns.map (λ n=>if n.1=m then (n.1,v) else n) else ns++[(m,v)]
theorem zzq (ns:Sh) (m:Mark) (v:Ver) (k:Mark):look (putS ns m v) k=if m=k then some v else look ns k:=by
 unfold putS
 by_cases h:m∈mks ns
 ·rw [if_pos h];exact zxo h k
 ·rw [if_neg h];exact zru h k
theorem zje (ns:Sh) (m:Mark) (v:Ver):mks (putS ns m v)=if m∈mks ns then mks ns else mks ns++[m]:=by
 unfold putS
 by_cases h:m∈mks ns
 ·rw [if_pos h,if_pos h]
  unfold mks
  rw [List.map_map]
  exact List.map_congr_left λ n _=>by
   show (if n.1=m then (n.1,v) else n).1=n.1
   split <;> rfl
 ·rw [if_neg h,if_neg h]
  unfold mks
  rw [List.map_append]
  rfl
theorem zlg {ns:Sh} {m:Mark} {v:Ver} {k:Mark} (h:k∈mks (putS ns m v)):k=m ∨ k∈mks ns:=by
 rw [zje] at h
 split at h
 ·exact .inr h
 ·rcases List.mem_append.mp h with z | z
  ·exact .inr z
  ·exact .inl (List.mem_singleton.mp z)
theorem zwg {ns:Sh} (nd:(mks ns).Nodup) (m:Mark) (v:Ver):(mks (putS ns m v)).Nodup:=by
 rw [zje]
 by_cases h:m∈mks ns
 ·rw [if_pos h];exact nd
 ·rw [if_neg h]
  refine List.nodup_append.mpr ⟨nd,List.nodup_cons.mpr ⟨by simp,List.nodup_nil⟩,λ a ha b hb z=>?_⟩
  exact h ((show a=m from z.trans (List.mem_singleton.mp hb)) ▸ ha)
theorem zbf (ns:Sh) (m:Mark) (v:Ver):(putS ns m v).length≤ns.length+1:=by
 unfold putS
 split <;> simp
theorem zhh {ns:Sh} (ok:∀ n∈ns,okV n.2) (m:Mark) {v:Ver} (okv:okV v):∀ n∈putS ns m v,okV n.2:=λ n hn=>by
 unfold putS at hn
 split at hn
 ·obtain ⟨y,hy,rfl⟩:=List.mem_map.mp hn
  split
  ·exact okv
  ·exact ok y hy
 ·rcases List.mem_append.mp hn with z | z
  ·exact ok n z
  ·rw [List.mem_singleton.mp z];exact okv
theorem zme {K:W.Frag} {H:Hp} {es:List Ent} {ns:Sh} (he:EnS K H es ns) {m:Mark} {q:Addr} {v:Ver} {x:V} (hq:SqT K H q (mkV m)) (hx:DV K H (ver v) x):EnS K H (putM es m q x) (putS ns m v):=by
 have em:=zwa he
 unfold putM putS
 by_cases hm:m∈mks ns
 ·have hf:(zab es m).isSome=true:=zrb (by rw [em];exact hm)
  rw [if_pos hf,if_pos hm]
  clear hm hf em
  induction he with
  | nil=>exact .nil
  | cons a b ih =>
   rename_i e n _ _
   refine .cons ?_ ih
   obtain ⟨a1,a2,a3⟩:=a
   dsimp only
   by_cases z:e.1=m
   ·have z2:n.1=m:=a1 ▸ z
    rw [if_pos z,if_pos z2]
    exact ⟨a1,a2,hx⟩
   ·have z2:¬ n.1=m:=a1 ▸ z
    rw [if_neg z,if_neg z2]
    exact ⟨a1,a2,a3⟩
 ·have hf:zab es m=none:=znc (by rw [em];exact hm)
  rw [hf,if_neg hm]
  rw [if_neg (show ¬ (none:Option V).isSome=true from Bool.false_ne_true)]
  exact Paired.snoc he ⟨rfl,hq,hx⟩
noncomputable abbrev Giv:=Mark×Option Ver
noncomputable def givD (g:Giv):PyData := .tuple [markD g.1,vdat g.2]
noncomputable def zui (f:Mark→Option Ver) (gs:List Giv):Mark→Option Ver:=gs.foldl (λ f g k=>if g.1=k then g.2 else f k) f
theorem zum (f:Mark→Option Ver) (gs:List Giv) (g:Giv):zui f (gs++[g])=λ k=>if g.1=k then g.2 else zui f gs k:=by
 unfold zui
 rw [List.foldl_append]
 rfl
theorem zvq {a b:Sh} (na:(mks a).Nodup) (nb:(mks b).Nodup) (h:∀ k,look a k=look b k):a.Perm b:=by
 have nd:∀ {c:Sh},(mks c).Nodup→c.Nodup:=fun {c} hc=>List.Pairwise.of_map _ (λ x y hxy e=>hxy (congrArg (·.1) e)) hc
 refine zuh (nd na) (nd nb) λ x=>⟨λ hx=>?_,λ hx=>?_⟩
 ·have:look b x.1=some x.2:=by rw [← h,zic na hx]
  exact zzb this
 ·have:look a x.1=some x.2:=by rw [h,zic nb hx]
  exact zzb this
end L2
namespace L2
open PySem PySem.Spec PyProof.Rows PySem.NumText
noncomputable def gmk (gs:List Giv):List Mark:=gs.map (·.1)
theorem zmh (gs:List Giv) {k:Mark}:∀ {f:Mark→Option Ver},k∉gmk gs→zui f gs k=f k:=by
 induction gs with
 | nil=>intro f _;rfl
 | cons g gs ih =>
  intro f h
  have h1:g.1≠k:=λ z=>h (by rw [← z];exact List.mem_cons_self)
  have h2:k∉gmk gs:=λ z=>h (List.mem_cons_of_mem _ z)
  show zui (λ k=>if g.1=k then g.2 else f k) gs k=f k
  rw [ih h2,if_neg h1]
theorem zgq {gs:List Giv} (nd:(gmk gs).Nodup) {g:Giv}:∀ {f:Mark→Option Ver},g∈gs→zui f gs g.1=g.2:=by
 induction gs with
 | nil=>intro f h;cases h
 | cons g0 gs ih =>
  intro f h
  obtain ⟨n1,n2⟩:=List.nodup_cons.mp (show (g0.1::gmk gs).Nodup from nd)
  show zui (λ k=>if g0.1=k then g0.2 else f k) gs g.1=g.2
  rcases List.mem_cons.mp h with rfl | h
  ·rw [zmh gs n1,if_pos rfl]
  ·exact ih n2 h
theorem zv0 {K:W.Frag} {H:Hp} {g:Giv} {x:V} (h:DV K H (givD g) x):∃ t q y,x = .ref t∧SqT K H t [.ref q,y]∧SqT K H q (mkV g.1)∧DV K H (vdat g.2) y:=by
 obtain ⟨t,vs,rfl,ht,a,l1,rfl,ha,b,l2,rfl,hb,rfl⟩:=h
 obtain ⟨q,rfl,hq⟩:=zed ha
 exact ⟨t,q,b,rfl,ht,hq,hb⟩
theorem zq0 {K:W.Frag} {H:Hp} {g:Giv} {t q:Addr} {y:V} (h:SqT K H t [.ref q,y]) (hm:SqT K H q (mkV g.1)) (hy:DV K H (vdat g.2) y):DV K H (givD g) (.ref t) :=
 ⟨t,_,rfl,h,_,_,rfl,zsg hm,_,_,rfl,hy,rfl⟩
theorem zzx (g:Giv):noL (givD g)=true:=by
 have:=zgc g.2
 unfold givD
 show (noL (markD g.1) && (noL (vdat g.2) && true))=true
 rw [this]
 rfl
end L2
namespace L2
open PySem PySem.Spec PyProof.Rows PySem.NumText
section
variable {X:Cx} {tg:Expr}
end
end L2
namespace L2
open PySem PySem.Spec PyProof.Rows PySem.NumText
section
variable {prog:Program} {w:World} {A:Around} {E:Value→Shared→Prop} {s:Shared}
end
section
variable {X:Cx}
end
end L2
namespace L2
open PySem PySem.Spec PyProof.Rows PySem.NumText
theorem gk12 {K:W.Frag}:zee 3 (gTup K 2 (zep (zfk 0) (zep (gTup K 2 (zep (zfk 1) (zep (zfk 2) gNil))) gNil))):=λ x c H Q h=>by
 obtain ⟨a,xs,e1,hq,hl,v,r,e2,v',r',e3,a2,xs2,e5,hq2,hl2,v2,r2,e6,v3,r3,e7,e8,e9,h⟩:=h
 refine ⟨a,xs,e1,hq,hl,v,r,e2,v',r',e3,a2,xs2,e5,hq2,hl2,v2,r2,e6,v3,r3,e7,e8,e9,h,λ j v e=>?_⟩
 match j,e with
 | 0,e=>simp [List.replicate] at e
 | 1,e=>simp [List.replicate] at e
 | 2,e=>simp [List.replicate] at e
 | j+3,e=>simpa [List.replicate,List.set] using e
end L2
namespace L2
open PySem PySem.Spec PyProof.Rows PySem.NumText
noncomputable def ze3 (z:Int):Prop:=z=2 ∨ z=4 ∨ z=5 ∨ z = -1
noncomputable def ItZ (z lo:Int) (n:Nat):It:=⟨λ i _=>i<n,λ i H x H'=>H'=H∧x = .int (lo+i * z),λ i _=>n≤i⟩
theorem zrl {P:Program} {w:World} {K:W.Frag} {tg:Expr} (it:Addr) (z lo:Int) (n:Nat):Turn P w K tg (ItZ z lo n) [it] it (λ i h=>IsRangeIter h it (lo+(i:Nat) * z) ((n:Int) - (i:Nat)) z) where
 mem:=by simp
 obj:=λ i h st b hb=>by
  have e:b=it:=by simpa using hb
  subst e
  exact ⟨_,st,λ v y=>by
   have y':Data.fields _=Data.cell v:=y
   cases y'⟩
 keep:=λ i h h' st k=>k it (by simp) _ st
 item:=by
  intro X hP hw hK hc i pins s σ H E I hf st hg
  subst hP hw hK
  obtain ⟨f0,f1,f2,f3,f4,f5⟩:=hf it (by simp)
  have W:=Walks.range (prog:=X.prog) (w:=X.w) (I.ok.hd hc) it lo z n
  refine W.item i s _ _ hg st λ v h' tk hv st' kk=>?_
  obtain ⟨t,rfl⟩:=hv
  have I1:Inv X pins σ H { s with heap:=h',toks:=tk }:=I.turned (λ b o hb e=>kk b o (by simpa using hb) e) f0 f1 f3 f4 f5
  exact ⟨_,rfl,zvz (s:={ s with heap:=h',toks:=tk }) (n := "range_iterator") st' rfl rfl (by decide) ⟨.int (lo+i * z),H,I1,⟨t,rfl⟩,⟨rfl,rfl⟩,st',λ b hb=>(hf b hb).1⟩⟩
 done:=by
  intro X hP hw hK hc i pins s σ H E I hf st hg
  subst hP hw hK
  obtain ⟨f0,f1,f2,f3,f4,f5⟩:=hf it (by simp)
  exact wpAny_pyNext_range_end (I.ok.hd hc) st (by have:n≤i:=hg;omega) λ h' eb=>⟨rfl,I.turned (t':=s.toks) (λ b o hb e=>eb b o hb e) f0 f1 f3 f4 f5⟩
 self:=λ _ _ _ _ _ st h=>wpAny_pyIter_rangeiter st h
section
variable {X:Cx} {tg:Expr}
noncomputable def numZ (z lo hi:Int):Nat:=(Builtin.Range.rangeSize lo hi z).toNat
noncomputable def zn3 (ta:TA):TI:=λ σ H R=>ta σ H λ vs H1=>∃ z i j:Int,vs=[.int i,.int j,.int z]∧ze3 z∧(-1000<i∧i<1000 ∧ -1000<j∧j<1000)∧R (ItZ z i (numZ z i j)) H1
theorem zp3 {z i j:Int} (hz:ze3 z) (h1 : -1000<i) (h2:i<1000) (h3 : -1000<j) (h4:j<1000):Builtin.Range.small i j z=true∧((numZ z i j:Nat):Int)=Builtin.Range.rangeSize i j z∧z≠0:=by
 have e:0≤Builtin.Range.rangeSize i j z∧Builtin.Range.rangeSize i j z<5000:=by
  unfold Builtin.Range.rangeSize
  rcases hz with rfl | rfl | rfl | rfl
  all_goals simp only [show (2:Int) > 0 by decide,show (4:Int) > 0 by decide,show (5:Int) > 0 by decide,show ¬ (-1:Int) > 0 by decide,if_true,if_false,show -(-1:Int)=1 by decide,Int.ediv_one]
  all_goals split <;> omega
 have e1 : -10<z∧z<10∧z≠0:=by rcases hz with rfl | rfl | rfl | rfl <;> decide
 refine ⟨?_,?_,e1.2.2⟩
 ·rcases hz with rfl | rfl | rfl | rfl
  all_goals
   unfold Builtin.Range.small
   simp only [Builtin.Range.rangeFitsLong,Bool.and_eq_true,Bool.or_eq_true,decide_eq_true_eq,beq_iff_eq,show (2:Int) > 0 by decide,show (4:Int) > 0 by decide,show (5:Int) > 0 by decide,show ¬ (-1:Int) > 0 by decide,if_true,if_false]
   (try split) <;> omega
 ·unfold numZ
  omega
theorem zkr {a b c:Expr} {ta:TA} {p pos:Pos} (hg:Gl X "range") (hm:X.mg "range" = none) (ha:PA X [a,b,c] ta) (hs:starEach [a,b,c] X.env=[(false,eval a X.env),(false,eval b X.env),(false,eval c X.env)]:=by rfl) (hs2:starEach [b,c] X.env=[(false,eval b X.env),(false,eval c X.env)]:=by rfl) :
  PI X tg (.Call (.Name "range" p) [a,b,c] [] pos) (zn3 ta) := .mk <| by
 intro pins s σ H R I h
 refine Call_ (zll I hg hm boot_range (PyProof.Rows.callWith_type1 (thn (ha pos pins s σ H _ I h) λ us s1 ⟨vs,H1,I1,r1,q1⟩=>?_) (by rw [hs,hs2]) (by rw [hs2];rfl)))
 obtain ⟨z,i,j,e,hz,⟨q1,q2,q3,q4⟩,q⟩:=q1
 subst e
 cases r1 with
 | cons r rr =>
  cases rr with
  | cons r' rr =>
   cases rr with
   | cons r'' rr =>
    cases rr
    obtain ⟨t,rfl⟩:=r
    obtain ⟨t',rfl⟩:=r'
    obtain ⟨t'',rfl⟩:=r''
    obtain ⟨sm,e1,z0⟩:=zp3 hz q1 q2 q3 q4
    have zs:z.natAbs<1073741824:=by rcases hz with rfl | rfl | rfl | rfl <;> decide
    refine call_range_3 z0 ?_ (.inl (PyProof.noPylong_small zs))
    refine wpAny_pyIter_range (IsRange.new ..) sm ?_
    have I2:Inv X pins σ H1 { s1 with heap:=s1.heap.push { cls := .type "range",data := .fields #[.int i t,.int j t',.int z t''] },toks:=s1.toks }:=I1.kept λ b o e=>Heap.get?_push_of_some _ e
    refine ⟨(s1.heap.push { cls := .type "range",data := .fields #[.int i t,.int j t',.int z t''] }).objs.size,[(s1.heap.push { cls := .type "range",data := .fields #[.int i t,.int j t',.int z t''] }).objs.size],_,_,H1,rfl,
     I2.kept (t':=s1.toks) λ b o e=>Heap.get?_push_of_some _ e,zrl _ z i (numZ z i j),?_,λ b hb=>?_,q⟩
    ·have e3:i+((0:Nat):Int) * z=i:=by simp
     show IsRangeIter _ _ (i+((0:Nat):Int) * z) (((numZ z i j:Nat):Int) - ((0:Nat):Int)) z
     rw [e3,e1,show Builtin.Range.rangeSize i j z - ((0:Nat):Int)=Builtin.Range.rangeSize i j z by simp]
     exact Heap.get?_push_size _ rfl
    ·have e:b=(s1.heap.push { cls := .type "range",data := .fields #[.int i t,.int j t',.int z t''] }).objs.size:=by simpa using hb
     subst e
     exact I2.fpOk (Nat.le_refl _) (I2.hok.fresh (Nat.le_refl _))
end
theorem zsn {z lo:Int} {n:Nat} {g:TG} {tb:TS} {D:Ends} {σ:St} {H:Hp} (Pv:Nat→St→Hp→Prop) (h0:Pv 0 σ H)
  (hs:∀ i σ H,i<n→Pv i σ H→g (.int (lo+i * z)) σ H λ σ2 H2=>tb { D with nx:=Pv (i+1),ct:=Pv (i+1),bk:=D.nx } σ2 H2) (hd:∀ σ H,Pv n σ H→D.nx σ H) :
  ∃ W:Nat→Nat→St→Hp→Prop,(∃ m,W 0 m σ H)∧∀ i m σ H,W i m σ H →
   ((ItZ z lo n).stop i H∧D.nx σ H) ∨ ((ItZ z lo n).go i H∧∃ N:St→Hp→Prop,(∀ σ' H',N σ' H'→∃ m',m'<m∧W (i+1) m' σ' H')∧∀ x H',(ItZ z lo n).yld i H x H'→g x σ H' λ σ2 H2=>tb { D with nx:=N,ct:=N,bk:=D.nx } σ2 H2):=by
 refine ⟨λ i m σ H=>m=n - i∧i≤n∧Pv i σ H,⟨n,by simp,Nat.zero_le _,h0⟩,?_⟩
 rintro i m σ H ⟨rfl,hi,p⟩
 by_cases hlt:i<n
 ·refine .inr ⟨hlt,Pv (i+1),λ σ' H' p'=>⟨n - (i+1),by omega,rfl,hlt,p'⟩,λ x H' y=>?_⟩
  obtain ⟨e,y⟩:=y
  subst e y
  exact hs i σ _ hlt p
 ·have e:i=n:=by omega
  subst e
  exact .inl ⟨Nat.le_refl _,hd σ H p⟩
end L2
namespace L2
open PySem PySem.Spec PyProof.Rows PySem.NumText
theorem zlp {J:It} {n:Nat} {nt:Nat} {cap:List Nat} {g:TG} {te:TE} {σ:St} {H1:Hp} {Q:VK} {D:Addr} (val:Nat→V) (R:Nat→V→Hp→Prop) (hD:H1 D=none) (hP:Plain H1) (hx:n≤sizeLine)
  (hJ:∀ i H2,Same H1 H2→(i<n→J.go i H2)∧(J.stop n H2)∧∀ x H3,i<n→J.yld i H2 x H3→H3=H2∧x=val i)
  (mono:∀ i y H H',R i y H→(∀ b o,b≠D→H b=some o→H' b=some o)→(∃ zs,H D=some (.lst zs))→R i y H')
  (step:∀ (i:Nat) H2 (T:VK),i<n→Plain H2→Same H1 H2→(∃ zs,H2 D=some (.lst zs))→(∀ y H6,R i y H6→Same H2 H6→Plain H6→T y H6)→g (val i) (List.replicate nt none++caps cap σ) H2 λ σ4 H4=>te σ4 H4 T)
  (fin:∀ ys H2,ys.length=n→(∀ (i:Nat) y,ys[i]? = some y→R i y H2)→H2 D=some (.lst ys)→Same H1 H2→Plain H2→Q (.ref D) H2) :
  ztw J D nt cap g tYes te σ H1 Q:=by
 refine ⟨λ i m ys H2=>m=n - i∧i≤n∧ys.length=i∧H2 D=some (.lst ys)∧Same H1 H2∧Plain H2∧∀ (j:Nat) y,ys[j]? = some y→R j y H2,⟨_,rfl,Nat.zero_le _,rfl,upd_same,zca hD,hP.lst,λ j y e=>by simp at e⟩,?_⟩
 rintro i m ys H2 ⟨rfl,hi,hl,hd,hs,hp,hr⟩
 refine ⟨hd,?_⟩
 obtain ⟨j1,j2,j3⟩:=hJ i H2 hs
 by_cases hlt:i<n
 ·refine .inr ⟨j1 hlt,by omega,λ v H3 hy=>?_⟩
  obtain ⟨rfl,rfl⟩:=j3 v H3 hlt hy
  simp only [tYes,if_true]
  refine step i _ _ hlt hp hs ⟨_,hd⟩ λ y H6 hR hs6 hp6=>⟨hs6 _ _ hd,_,by omega,rfl,hlt,by simp [hl],upd_same,?_,hp6.lst,?_⟩
  ·exact (hs.trans hs6).upd hD
  ·intro j z e
   have up:∀ b o,b≠D→H6 b=some o→(upd H6 D (.lst (ys++[y]))) b=some o:=λ b o hb e=>by rw [zga hb];exact e
   rcases Nat.lt_or_ge j ys.length with hj | hj
   ·rw [List.getElem?_append_left hj] at e
    refine mono j z H6 _ (mono j z _ H6 (hr j z e) (λ b o _ e=>hs6 b o e) ⟨_,hd⟩) up ⟨_,hs6 _ _ hd⟩
   ·rw [List.getElem?_append_right hj] at e
    have hj0:j - ys.length=0:=by
     rcases Nat.eq_zero_or_pos (j - ys.length) with h0 | h0
     ·exact h0
     ·rw [List.getElem?_eq_none (by simp;omega)] at e;cases e
    rw [hj0] at e
    simp at e
    subst e
    have:j=i:=by omega
    subst this
    exact mono j y H6 _ hR up ⟨_,hs6 _ _ hd⟩
 ·have e:i=n:=by omega
  subst e
  exact .inl ⟨j2,fin ys H2 hl hr hd hs hp⟩
end L2
namespace L2
open PySem PySem.Spec PyProof.Rows PySem.NumText
end L2
namespace L2
open PySem PySem.Spec PyProof.Rows PySem.NumText PySem.W
section
variable {prog:Program} {w:World} {A:Around} {E:Value→Shared→Prop} {s:Shared} {a:Addr} {vs:List Value}
end
section
variable {X:Cx}
end
end L2
namespace L2
open PySem PySem.Spec PyProof.Rows PySem.NumText PySem.W
section
variable {X:Cx}
variable {CX:CXT} {k:Nat} {E:XK} {x:Str} {p pos:Pos} {e:Expr} {es:List Expr} {t:TA}
end
end L2
namespace L2
open PySem PySem.Spec PyProof.Rows PySem.NumText
section
variable {X:Cx}
end
end L2
namespace L2
open PySem PySem.Spec PyProof.Rows PySem.NumText
end L2
namespace L2
open PySem PySem.Spec PyProof.Rows PySem.NumText
section
variable {X:Cx}
end
end L2
namespace L2
open PySem PySem.Spec PyProof.Rows PySem.NumText
section
variable {X:Cx} {o e z:Expr} {td ty tz:TE}
noncomputable def zw1 (P:Program) (w:World) (K:W.Frag) (td ty tz:TE):TE:=λ σ H Q=>td σ H λ x H1=>∃ a es,x = .ref a∧DM P w K H1 a es∧ty σ H1 λ y H2=>tz σ H2 λ v H3=>∃ q m,y = .ref q∧DM P w K H3 a es∧SqT K H3 q (mkV m)∧Q ((zab es m).getD v) H3
theorem zdt {apos cpos:Pos} (hu:X.A.units+1<cLine) (ho:PE X o td) (he:PE X e ty) (hz:PE X z tz) (hbase:attributeBase o "get" X.env (eval o X.env)=eval o X.env:=by rfl)
  (hfew:((backTo cpos (starEach [e,z] X.env)).all (λ x => !x.1) && (backToKw cpos (keywordEach [] X.env)).all (λ x=>x.1.isSome)
   && decide (([e,z]:List Expr).length+([]:List Keyword).length+(if ([]:List Keyword).isEmpty then 0 else 1)<30))=true:=by rfl)
  (hline:(apos.endLine == cpos.line)=true:=by rfl) (htr:backTo cpos (starEach [e,z] X.env)=[(false,eval e X.env),(false,eval z X.env)]:=by rfl):PE X (.Call (.Attribute o "get" apos) [e,z] [] cpos) (zw1 X.prog X.w X.K td ty tz) := .mk <| by
 intro pins s σ H Q I h
 refine wpAny_Call_method hbase hfew hline PySem.F.plainAttrs_dict PySem.F.slot_dict_get PySem.F.type_dict_get (thn (ho pins s σ H _ I h) λ u s1 ⟨x,H1,I1,rx,a,es,ex,D,q1⟩=>?_)
 subst ex
 cases rx
 obtain ⟨_,_,xs,_,dd⟩:=I1.dict D
 refine ⟨dd.typeIs,λ b q=>?_,?_⟩
 ·cases q
  obtain ⟨ob,_,_,h1,h2,_⟩:=dd
  exact ⟨ob,h1,h2.2.1⟩
 rw [htr]
 refine Calls.callWith_builtin rfl (Calls.evalArgs_plain (Calls.spliced_cons (thn (he pins s1 σ H1 _ I1 q1) λ iv s2 ⟨y,H2,I2,ry,q2⟩=>Calls.spliced_cons (thn (hz pins s2 σ H2 _ I2 q2) λ zv s3 ⟨v,H3,I3,rz,q,m,ey,D3,hm,k⟩=>Calls.spliced_nil ?_))))
 subst ey
 cases ry
 obtain ⟨_,hd,xs,r,dd⟩:=I3.dict D3
 exact call_meetsIn PySem.F.slot_dict_get dd.typeIs PySem.F.entry_dict_get (PySem.F.args_dict_get_3 _ _ _) (meetsH_dict_get_default (dK X.prog X.w) a q hd zv) ⟨tupleKind_room_in1 hu,mkK m,xs,I3.mark hm,dd,⟨_,H3,I3.tok _,zdk (d:=v) (zwc r m) rz,k⟩⟩
end
end L2
namespace L2
open PySem PySem.Spec PyProof.Rows PySem.NumText
section
variable {prog:Program} {w:World} {A:Around} {E:Value→Shared→Prop} {R:Result→Shared→Prop} {s:Shared}
theorem zet {Q:Value→Shared→Prop} (h:Q (.ref s.heap.objs.size) { s with heap:=s.heap.push { cls := .type "dict",data := .dict #[] } }):wpAny (model prog w) A newDict Q E s:=by
 simp only [newDict,newObj]
 exact wpAny_bind (wpAny_alloc (wpAny_pure h))
theorem zeg {kx vx target iter:Expr} {ifs:List Expr} {rest:List Comprehension} {scope:Scope} {pos:Pos} {it acc:Value} {env:Env}
  (h0:codeAny (model prog w) A (.compLoop (.DictComp kx vx (⟨target,iter,ifs,0⟩::rest) scope pos) 0 it acc env) R s)
  (h:wpAny (model prog w) A (pyIter it) (λ it' s'=>codeAny (model prog w) A (.compLoop (.DictComp kx vx (⟨target,iter,ifs,0⟩::rest) scope pos) 0 it' acc env) R s') (notedBy (model prog w) A env λ x s'=>R (.error x) s') s) :
  codeAny (model prog w) A (.compStart (.DictComp kx vx (⟨target,iter,ifs,0⟩::rest) scope pos) 0 it acc env) R s:=by
 refine codeAny_of_tree (wpAny_notedAt (wpAny_bind (wpAny_askSetting (wpAny_ite ?_))))
 split
 ·exact wpAny_bind (wpAny_pure (wpAny_pure ⟨rfl,h0⟩))
 ·exact wpAny_bind (wpAny_rule (wpAny_bind (wpAny_standAt (wpAny_bind (wpAny_mono h (λ it' s' h'=>wpAny_pure ⟨rfl,h'⟩) λ _ _ z=>z)))))
theorem zfh (kx vx target iter:Expr) (ifs:List Expr) (scope:Scope) (pos:Pos) (it:Value) (D:Addr) (env:Env) :
  compTurn (.DictComp kx vx [⟨target,iter,ifs,0⟩] scope pos) 0 it (.ref D) env=(do
   standAt iter.pos
   match ← pyNext it with
   | none=>pure (.done .next)
   | some v =>
    letOwnedTupleGo target it v
    assign target env v
    let mut ok:=true
    for c in ifs do
     if ok then ok ← isTrue c env (eval c env)
    if ok then
     (do
      let kv ← eval kx env
      let vv ← holding [kv] (eval vx env)
      standAt { kx.pos with endLine:=vx.pos.endLine,endCol:=vx.pos.endCol }
      holding [kv,vv] (dictSet D kv vv))
    again (.compLoop (.DictComp kx vx [⟨target,iter,ifs,0⟩] scope pos) 0 it (.ref D) env)):=by rfl
theorem zih {kx vx target iter:Expr} {ifs:List Expr} {scope:Scope} {pos:Pos} {it:Value} {D:Addr} {env:Env} (I:Nat→Shared→Prop)
  (turn:∀ n s,I n s→wpAny (model prog w) A (pyNext it) (λ r s₁=>match r with
   | none=>R (.ok .next) s₁
   | some v=>wpAny (model prog w) A (letOwnedTupleGo target it v) (λ _ s₁'=>wpAny (model prog w) A (assign target env v) (λ _ s₂ =>
     wpAny (model prog w) A (forIn ifs true λ c r=>if r=true then do let ok ← isTrue c env (eval c env);pure (ForInStep.yield ok) else pure (ForInStep.yield r)) (λ ok s₃ =>
      if ok=true then wpAny (model prog w) A (eval kx env) (λ kv s₄=>wpAny (model prog w) A (eval vx env) (λ vv s₅ =>
       wpAny (model prog w) A (dictSet D kv vv) (λ _ s₆=>∃ m,m<n∧I m s₆) (notedBy (model prog w) A env λ e s'=>R (.error e) s') s₅) (notedBy (model prog w) A env λ e s'=>R (.error e) s') s₄) (notedBy (model prog w) A env λ e s'=>R (.error e) s') s₃
      else ∃ m,m<n∧I m s₃) (notedBy (model prog w) A env λ e s'=>R (.error e) s') s₂) (notedBy (model prog w) A env λ e s'=>R (.error e) s') s₁') (notedBy (model prog w) A env λ e s'=>R (.error e) s') s₁) (notedBy (model prog w) A env λ e s'=>R (.error e) s') s)
  (n:Nat) (h:I n s):codeAny (model prog w) A (.compLoop (.DictComp kx vx [⟨target,iter,ifs,0⟩] scope pos) 0 it (.ref D) env) R s:=by
 refine codeAny_loop rfl I (λ n s hI=>?_) n h
 show wpAny _ A ((compTurn (.DictComp kx vx [⟨target,iter,ifs,0⟩] scope pos) 0 it (.ref D) env).onRaise (λ x=>do noteFrame x env;theTreesLotGoes x)) _ _ s
 refine wpAny_noted ?_
 rw [zfh]
 refine wpAny_bind (wpAny_standAt (wpAny_bind (wpAny_mono (turn n s hI) (λ r s₁ h₁=>?_) λ _ _ h'=>h')))
 cases r with
 | none=>exact wpAny_pure h₁
 | some v =>
  refine wpAny_bind (wpAny_mono h₁ (λ _ s₁' h₁'=>?_) λ _ _ h'=>h')
  refine wpAny_bind (wpAny_mono h₁' (λ _ s₂ h₂=>wpAny_bind (wpAny_mono h₂ (λ ok s₃ h₃=>?_) λ _ _ h'=>h')) λ _ _ h'=>h')
  cases ok with
  | false=>exact wpAny_pure ⟨rfl,h₃⟩
  | true =>
   exact wpAny_bind (wpAny_bind (wpAny_mono h₃ (λ kv s₄ h₄=>wpAny_bind (wpAny_holding (wpAny_mono h₄ (λ vv s₅ h₅=>wpAny_bind (wpAny_standAt (wpAny_holding (wpAny_mono h₅ (λ _ s₆ h₆=>wpAny_pure ⟨rfl,h₆⟩) λ _ _ h'=>h')))) λ _ _ h'=>h'))) λ _ _ h'=>h'))
end
section
variable {X:Cx}
noncomputable def zbx (P:Program) (w:World) (K:W.Frag) (J:It) (D:Addr) (nt:Nat) (cap:List Nat) (g:TG) (ti:TT) (tk tv:TE) (σ:St) (H1:Hp) (o0:Obj) (Q:VK):Prop:=∃ W:Nat→Nat→List Ent→Hp→Prop,(∃ m,W 0 m [] (upd H1 D (dO P w D [] o0))) ∧
 ∀ i m es H2,W i m es H2→DM P w K H2 D es∧((J.stop i H2∧Q (.ref D) H2) ∨ (J.go i H2∧es.length<sizeLine∧∀ x H3,J.yld i H2 x H3→g x (List.replicate nt none++caps cap σ) H3 λ σ4 H4=>ti σ4 H4 λ b H5 =>
  if b=true then tk σ4 H5 λ y H6=>tv σ4 H6 λ v H7=>∃ q m',y = .ref q∧SqT K H7 q (mkV m')∧DM P w K H7 D es∧∀ o,∃ k,k<m∧W (i+1) k (putM es m' q v) (upd H7 D (dO P w D (putM es m' q v) o))
  else ∃ m',m'<m∧W (i+1) m' es H5))
noncomputable def zmy (P:Program) (w:World) (K:W.Frag) (wi:TI) (nt:Nat) (cap:List Nat) (g:TG) (ti:TT) (tk tv:TE):TE:=λ σ H Q=>wi σ H λ J H1=>∀ D o,H1 D=none→zbx P w K J D nt cap g ti tk tv σ H1 o Q
theorem zbm {P:Program} {w:World} {K:W.Frag} {J:It} {n:Nat} {nt:Nat} {cap:List Nat} {g:TG} {tk tv:TE} {σ:St} {H1:Hp} {o0:Obj} {Q:VK} {D:Addr} (val:Nat→V) (Iv:Nat→List Ent→Hp→Prop) (hn:n≤sizeLine)
  (h0:Iv 0 [] (upd H1 D (dO P w D [] o0)))
  (hI:∀ i es H2,i≤n→Iv i es H2→DM P w K H2 D es∧es.length≤i∧Same H1 H2)
  (hJ:∀ i H2,Same H1 H2→(i<n→J.go i H2)∧(J.stop n H2)∧∀ x H3,i<n→J.yld i H2 x H3→H3=H2∧x=val i)
  (step:∀ (i:Nat) es H2 (Tt:V→VK),i<n→Iv i es H2→(∀ q m' v H7,SqT K H7 q (mkV m')→DM P w K H7 D es→(∀ o,Iv (i+1) (putM es m' q v) (upd H7 D (dO P w D (putM es m' q v) o)))→Tt (.ref q) v H7) →
   g (val i) (List.replicate nt none++caps cap σ) H2 λ σ4 H4=>tk σ4 H4 λ y H6=>tv σ4 H6 (Tt y))
  (fin:∀ es H2,Iv n es H2→Q (.ref D) H2):zbx P w K J D nt cap g tYes tk tv σ H1 o0 Q:=by
 refine ⟨λ i m es H2=>m=n - i∧i≤n∧Iv i es H2,⟨_,rfl,Nat.zero_le _,h0⟩,?_⟩
 rintro i m es H2 ⟨rfl,hi,hv⟩
 obtain ⟨hD,hl,hs⟩:=hI i es H2 hi hv
 refine ⟨hD,?_⟩
 obtain ⟨j1,j2,j3⟩:=hJ i H2 hs
 by_cases hlt:i<n
 ·refine .inr ⟨j1 hlt,by omega,λ v H3 hy=>?_⟩
  obtain ⟨rfl,rfl⟩:=j3 v H3 hlt hy
  simp only [tYes,if_true]
  exact step i es _ _ hlt hv λ q m' v H7 hm hD' k=>⟨q,m',rfl,hm,hD',λ o=>⟨_,by omega,rfl,hlt,k o⟩⟩
 ·have e:i=n:=by omega
  subst e
  exact .inl ⟨j2,fin es H2 hv⟩
end
end L2
namespace L2
open PySem PySem.Spec PyProof.Rows PySem.NumText
section
variable {X:Cx}
theorem zcm {P:Program} {w:World} {K:W.Frag} (hP:X.prog=P) (hw:X.w=w) (hK:X.K=K) (hu:X.A.units+1<cLine):OpR X (compareOp .NotIn) (zfs P w K):=by
 subst hP hw hK
 exact zwj hu
theorem zxn {use:Option (Value→Sem Unit)} {QQ:Value→Shared→Prop} {p0:Pos} {pins:List (Addr×Obj)} {s:Shared} {σ:St} {H:Hp} {Q:VK} {kx vx tg iter:Expr} {ifs:List Expr} {scope:Scope} {pos:Pos} {N':List Str} {nt:Nat} {cap:List Nat} {wi:TI} {g:TG} {ti:TT} {tk tv:TE}
  (hc:X.calm=true) (hu:X.A.units+100<cLine) (hi:PI X tg iter wi) (hgk:zee nt g)
  (hg:∀ C s₀ H₀ fp E',PG (X.comp scope C s₀ H₀ fp N' E') tg g)
  (hif:∀ C s₀ H₀ fp E',PIf (X.comp scope C s₀ H₀ fp N' E') ifs ti)
  (he:∀ C s₀ H₀ fp E',PE (X.comp scope C s₀ H₀ fp N' E') kx tk) (hv:∀ C s₀ H₀ fp E',PE (X.comp scope C s₀ H₀ fp N' E') vx tv)
  (hk:scope.kind = .function) (hb:zvc scope X.env=true) (hcap:zwn X scope N' nt cap=true)
  (hs:∀ x,foldedSetIterable iter X.env x=pure x) (I:Inv X pins σ H s) (h:zmy X.prog X.w X.K wi nt cap g ti tk tv σ H Q)
  (fin:∀ (D C:Addr) (m:Str→Option Value) (H5:Hp) (s6:Shared),Inv X pins σ H5 s6→Q (.ref D) H5→s6.heap.Ns C m→C≠X.env.locals→(∀ x c,X.env.cells.lookup x=some c→c≠C)→(∀ H',H' C=none→FpOk X pins H' C)→H5 C=none →
   compPost (model X.prog X.w) X.A X.xe use QQ (.ref D) C (.ok .next) s6) :
  wpAny (model X.prog X.w) X.A (comprehension (.DictComp kx vx [⟨tg,iter,ifs,0⟩] scope pos) scope X.env p0 newDict false (eval iter X.env) use) QQ X.xe s:=by
 have hclos:closureFor scope X.env=pure (clOf scope X.env):=zcd λ p hp e=>I.ok.has p.1 (zlb hb p hp e)
 refine wpAny_comprehension_free (use:=use) rfl hs hclos hk (zac hb) (thn (hi pins s σ H _ I h) λ v s1 h1=>thn h1 λ itv s2 h2=>?_)
 obtain ⟨it,fp,tn,J,H2,e,I2,T,st2,f2,q2⟩:=h2
 subst e
 obtain ⟨ob,hob⟩:∃ ob:Obj,ob={ cls := .type "dict",data := .dict #[] }:=⟨_,rfl⟩
 obtain ⟨ob0,hob0⟩:=zcu (P:=X.prog) (w:=X.w) (H:=H2) (es:=[]) (Nat.zero_le _) (beq_eq_false_iff_ne.mpr (Ne.symm (Nat.ne_of_lt I2.bigM))) .nil (Heap.DictOfH.new s2.heap)
 have I3:Inv X pins σ (upd H2 s2.heap.objs.size (dO X.prog X.w s2.heap.objs.size [] ob0)) { s2 with heap:=s2.heap.push ob }:=by
  rw [hob]
  exact I2.laid (t':=s2.toks) (λ _ _ q=>Heap.get?_push_of_some _ q) (Nat.le_refl _) hob0
 refine zet (wpAny_newFunctionEnv (zwb hb) (by intro y hy;simp at hy) (λ h₁ hns₁ hsb₁=>?_) hk)
 rw [← hob] at hns₁ hsb₁ ⊢
 have hfl:∀ b∈fp,b<s2.heap.objs.size:=λ b hb'=>let ⟨o,e,_⟩:=T.obj 0 _ st2 b hb';Heap.lt_size e
 obtain ⟨W,⟨m0,w0⟩,turn⟩:=q2 s2.heap.objs.size ob0 (I2.hok.fresh (Nat.le_refl _))
 have nD:∀ b∈fp,b≠s2.heap.objs.size:=λ b hb'=>Nat.ne_of_lt (hfl b hb')
 have f3:∀ b∈fp,FpOk X pins (upd H2 s2.heap.objs.size (dO X.prog X.w s2.heap.objs.size [] ob0)) b:=λ b hb'=>⟨by rw [zga (nD b hb')];exact (f2 b hb').1,(f2 b hb').2⟩
 obtain ⟨s3,hs3⟩:∃ s3:Shared,s3={ s2 with heap:=s2.heap.push ob }:=⟨_,rfl⟩
 have hs3':s3.heap=s2.heap.push ob:=by rw [hs3]
 rw [← hs3] at I3
 have hsz:s3.heap.objs.size=s2.heap.objs.size+1:=by rw [hs3',Heap.size_push]
 have hfl3:∀ b∈fp,b<s3.heap.objs.size:=λ b hb'=>by rw [hsz];exact Nat.lt_succ_of_lt (hfl b hb')
 have hC:(s2.heap.push ob).objs.size=s3.heap.objs.size:=by rw [hs3']
 dsimp only at hns₁ hsb₁ ⊢
 rw [hC] at hns₁ hsb₁ ⊢
 rw [← hs3'] at hsb₁
 have kp:∀ b o,s3.heap.get? b=some o→h₁.get? b=some o:=λ b o e=>hsb₁.extBut b o (Nat.ne_of_lt (Heap.lt_size e)) (Heap.get?_push_of_some _ e)
 generalize hE':(notedBy (model X.prog X.w) X.A (compEnvC scope (clOf scope X.env) s3.heap.objs.size X.env) λ e s'=>compPost (model X.prog X.w) X.A X.xe none (EP X pins σ Q) (.ref s2.heap.objs.size) s3.heap.objs.size (.error e) s')=E'
 have hE2:(notedBy (model X.prog X.w) X.A (compEnvC scope (clOf scope X.env) s3.heap.objs.size X.env) λ e s'=>compPost (model X.prog X.w) X.A X.xe use QQ (.ref s2.heap.objs.size) s3.heap.objs.size (.error e) s')=E':=hE'
 have I4:=zbd (t4:=s2.toks+([]:List (Str×Value)).length) (E':=E') I3 hk hb hcap f3 hfl3 hns₁ kp
 have st4:tn 0 h₁:=T.keep 0 _ _ st2 λ b hb' o e=>kp b o (by rw [hs3'];exact Heap.get?_push_of_some _ e)
 obtain ⟨s4,hs4⟩:∃ s4:Shared,s4={ s3 with heap:=h₁,toks:=s2.toks+([]:List (Str×Value)).length }:=⟨_,rfl⟩
 rw [← hs4] at I4
 have st4':tn 0 s4.heap:=by rw [hs4];exact st4
 have cin:∀ x c,(clOf scope X.env).lookup x=some c→X.env.cells.lookup x=some c:=λ x c e=>zyv scope.names [] (λ y d q=>by simp at q) e
 have stat:∀ {H':Hp},(∀ b∈fp,H' b=none)→∀ b∈fp,FpOk (X.comp scope s3.heap.objs.size s3 (upd H2 s2.heap.objs.size (dO X.prog X.w s2.heap.objs.size [] ob0)) fp N' E') [] H' b:=λ hn b hb'=>by
  refine ⟨hn b hb',Nat.ne_of_lt (hfl3 b hb'),λ z=>?_,.inl hb',λ x c e=>(f3 b hb').2.2.2.2.1 x c (cin x c e),λ p hp=>absurd hp (by simp [Cx.comp])⟩
  rcases List.mem_cons.mp (I3.stkSub b z) with z | z
  ·exact (f3 b hb').2.1 z
  ·exact (f3 b hb').2.2.1 z
 have loop:codeAny (model X.prog X.w) X.A (.compLoop (.DictComp kx vx [⟨tg,iter,ifs,0⟩] scope pos) 0 (.ref it) (.ref s2.heap.objs.size) (compEnvC scope (clOf scope X.env) s3.heap.objs.size X.env))
   (compPost (model X.prog X.w) X.A X.xe use QQ (.ref s2.heap.objs.size) s3.heap.objs.size) s4:=by
  refine zih (λ n s'=>∃ i qs H',Inv (X.comp scope s3.heap.objs.size s3 (upd H2 s2.heap.objs.size (dO X.prog X.w s2.heap.objs.size [] ob0)) fp N' E') [] (List.replicate nt none++caps cap σ) H' s'∧tn i s'.heap∧(∀ b∈fp,H' b=none)∧W i n qs H') ?_ m0
   ⟨0,[],_,I4,st4',λ b hb'=>(f3 b hb').1,w0⟩
  rintro n s5 ⟨i,qs,H5,I5,st5,fr5,w5⟩
  rw [hE2]
  obtain ⟨hD5,alt⟩:=turn i n qs H5 w5
  rcases alt with ⟨stop,qn⟩ | ⟨go,hyl,step⟩
  ·refine thn (T.done (X.comp scope s3.heap.objs.size s3 (upd H2 s2.heap.objs.size (dO X.prog X.w s2.heap.objs.size [] ob0)) fp N' E') rfl rfl rfl hc i [] s5 _ H5 E' I5 (stat fr5) st5 stop) λ r s6 ⟨hr,I6⟩=>?_
   subst hr
   obtain ⟨m6,hn6,_⟩:=I6.loc
   have I7:=zie I3 f3 I6
   refine fin _ _ m6 H5 s6 I7 qn hn6 ?_ ?_ (λ H' hn=>I3.fpOk (Nat.le_refl _) hn) I6.free
   ·intro z
    exact absurd (Nat.lt_of_lt_of_le I3.lt (Nat.le_of_eq z)) (Nat.lt_irrefl _)
   ·intro x c e z
    obtain ⟨v,q⟩:=I3.cell x c e
    exact absurd (Nat.lt_of_lt_of_le q.lt (by rw [z];exact Nat.le_refl _)) (Nat.lt_irrefl _)
  ·refine thn (T.item (X.comp scope s3.heap.objs.size s3 (upd H2 s2.heap.objs.size (dO X.prog X.w s2.heap.objs.size [] ob0)) fp N' E') rfl rfl rfl hc i [] s5 _ H5 E' I5 (stat fr5) st5 go) λ r s6 ⟨u,hr,h6⟩=>?_
   subst hr
   refine thn h6 λ _ s7 ⟨x,H7,I7,r7,y7,st7,fr7⟩=>?_
   have I7':=I7.pinned (stat fr7) (T.obj _ _ st7)
   have again:∀ {σ8:St} {H8:Hp} {qs':List Ent} {s8:Shared},Inv (X.comp scope s3.heap.objs.size s3 (upd H2 s2.heap.objs.size (dO X.prog X.w s2.heap.objs.size [] ob0)) fp N' E') ([]++zli fp s7.heap) σ8 H8 s8→(∃ m',m'<n∧W (i+1) m' qs' H8)→(∀ (j:Nat) v,(List.replicate nt none++caps cap σ)[j]? = some (some v)→σ8[j]? = some (some v)) →
     ∃ m,m<n∧∃ i qs H',Inv (X.comp scope s3.heap.objs.size s3 (upd H2 s2.heap.objs.size (dO X.prog X.w s2.heap.objs.size [] ob0)) fp N' E') [] (List.replicate nt none++caps cap σ) H' s8∧tn i s8.heap∧(∀ b∈fp,H' b=none)∧W i m qs H':=fun {σ8 H8 qs' s8} I8 ⟨m',hm,w8⟩ hσ=>by
    refine ⟨m',hm,i+1,qs',H8,I8.unpinned.weak (by rw [I8.len,I5.len]) hσ,T.keep _ _ _ st7 λ b hb o e=>(I8.pin (b,o) (List.mem_append_right _ (List.mem_append_right _ (zta hb e)))).1,λ b hb=>?_,w8⟩
    obtain ⟨o,e,d⟩:=T.obj _ _ st7 b hb
    exact (I8.pin (b,o) (List.mem_append_right _ (List.mem_append_right _ (zta hb e)))).2.1
   refine thn (hg _ _ _ _ _ _ s7 _ H7 x u _ I7' r7 (hgk x _ H7 _ (step x H7 y7))) λ _ s8 ⟨σ8,H8,I8,q8,hσ⟩=>?_
   refine thn (hif _ _ _ _ _ _ s8 σ8 H8 _ I8 q8) λ ok s9 ⟨H9,I9,q9⟩=>?_
   cases ok with
   | false =>
    rw [if_neg Bool.false_ne_true] at q9 ⊢
    exact again I9 q9 hσ
   | true =>
    rw [if_pos rfl] at q9 ⊢
    refine thn (he _ _ _ _ _ _ s9 σ8 H9 _ I9 q9) λ y s10 ⟨vy,H10,I10,r10,q10⟩=>?_
    refine thn (hv _ _ _ _ _ _ s10 σ8 H10 _ I10 q10) λ v s11 ⟨vv,H11,I11,rv,q,m',ey,hm,DD,k⟩=>?_
    subst ey
    cases r10
    obtain ⟨z,hd,xs,rr,dd⟩:=I11.dict DD
    refine wpAny_dictSet_heap (hsz:=by rw [← Paired.length rr];exact z) (show X.A.units<cLine by omega) (I11.mark hm) dd λ h' dd' sb=>?_
    have hex:∃ ob,h'.get? s2.heap.objs.size=some ob:=let ⟨ob,_,_,hq,_⟩:=dd'; ⟨ob,hq⟩
    obtain ⟨o1,o2⟩:=DD.ob
    obtain ⟨ob',hob'⟩:=zcu (P:=X.prog) (w:=X.w) (H:=H11) (es:=putM qs m' q vv) (by have:=zqd qs m' q vv;omega) hd (zro rr m' rv) dd'
    exact again (I11.write (t':=_) (x:=s2.heap.objs.size) (e:=s2.heap.objs.size) (by rw [o2];exact True.intro) (.inl rfl) (λ b ob hb z=>(sb.2 b hb).trans z) hex hob') (k ob') hσ
 have e4:({ s2 with heap:=h₁,toks:=s2.toks+([]:List (Str×Value)).length }:Shared)=s4:=by rw [hs4,hs3]
 show codeAny _ _ _ _ { s2 with heap:=h₁,toks:=s2.toks+([]:List (Str×Value)).length }
 rw [e4]
 exact zeg loop (T.self X.A 0 s4 _ _ st4' loop)
theorem zjx {kx vx tg iter:Expr} {ifs:List Expr} {scope:Scope} {cpos pos pos':Pos} {wi:TI} {g:TG} {ti:TT} {tk tv:TE} {i:Nat} {x:Str} (N':List Str) (nt:Nat) (cap:List Nat)
  (hN:X.N.Nodup) (hix:X.N[i]? = some x) (hx:Loc X.env.scope x)
  (hc:X.calm=true) (hu:X.A.units+100<cLine) (hi:PI X tg iter wi) (hgk:zee nt g)
  (hg:∀ C s₀ H₀ fp E',PG (X.comp scope C s₀ H₀ fp N' E') tg g)
  (hif:∀ C s₀ H₀ fp E',PIf (X.comp scope C s₀ H₀ fp N' E') ifs ti)
  (he:∀ C s₀ H₀ fp E',PE (X.comp scope C s₀ H₀ fp N' E') kx tk) (hv:∀ C s₀ H₀ fp E',PE (X.comp scope C s₀ H₀ fp N' E') vx tv)
  (hk:scope.kind = .function:=by rfl) (hb:zvc scope X.env=true:=by rfl) (hcap:zwn X scope N' nt cap=true:=by rfl)
  (hs:∀ x,foldedSetIterable iter X.env x=pure x:=by intro _;rfl) (hf:X.fn x=true ∨ X.env.scope.names.lookup x=some .local:=by first | exact .inl rfl | exact .inr rfl | assumption)
  (hsw:swapsWith (.DictComp kx vx [⟨tg,iter,ifs,0⟩] scope cpos) (some (.Name x pos')) pos.line X.env=pure true:=by rfl) :
  PS X (.Assign [.Name x pos'] (.DictComp kx vx [⟨tg,iter,ifs,0⟩] scope cpos) pos) (tAsg (zmy X.prog X.w X.K wi nt cap g ti tk tv) (zfk i)) := .mk <| by
 intro pins s σ H D I h
 rw [exec_Assign_Name_used _ _ _ _ hsw]
 refine wpAny_bind (wpAny_standAt (wpAny_bind ?_))
 show wpAny _ X.A (do let _ ← comprehension (.DictComp kx vx [⟨tg,iter,ifs,0⟩] scope cpos) scope X.env _ newDict false (eval iter X.env) (some (assign (.Name x pos') X.env))) _ _ s
 refine wpAny_bind (thn (zxn (use:=some (assign (.Name x pos') X.env)) (QQ:=λ _ s'=>SP X pins D .next s') hc hu hi hgk hg hif he hv hk hb hcap hs I h ?_) λ _ s' hq=>wpAny_pure (wpAny_pure hq))
 intro Da C m H5 s6 I6 q6 hn hC hcell hfp h5
 show wpAny _ _ (assign (.Name x pos') X.env (.ref Da)) _ _ s6
 refine wpAny_assign_Name (zog I6 hN hix hx (v := .ref Da) rfl (λ s7 I7 ⟨a,hsb,ha⟩=>?_) hf)
 have hCa:C≠a:=by
  rcases ha with rfl | ha
  ·exact hC
  ·exact λ z=>hcell x a ha z.symm
 refine ⟨m,hn.sameBut hsb hCa,λ h' hsb'=>⟨_,H5,?_,q6⟩⟩
 refine I7.turnedL (ch:=[C]) (t':=s7.toks) (λ b hb'=>?_) λ b u hb' e=>(hsb'.2 b λ z=>hb' (by simp [z])).trans e
 have eb:b=C:=by simpa using hb'
 subst eb
 exact hfp _ h5
end
end L2
namespace L2
open PySem PySem.Spec PyProof.Rows PySem.NumText
theorem zfp (es:List Ent) (m:Mark) (q:Addr) (v:V) (k:Mark):zab (putM es m q v) k=if m=k then some v else zab es k:=by
 unfold putM
 by_cases hs:(zab es m).isSome=true
 ·rw [if_pos hs]
  induction es with
  | nil=>cases hs
  | cons e es ih =>
   rw [List.map_cons]
   unfold zab
   by_cases he:e.1=m
   ·rw [if_pos he]
    show (if e.1=k then some v else _)=_
    by_cases hk:m=k
    ·rw [if_pos (he.trans hk),if_pos hk]
    ·rw [if_neg (λ z=>hk (he.symm.trans z)),if_neg hk,if_neg (λ z=>hk (he.symm.trans z))]
     have:es.map (λ e=>if e.1=m then (e.1,e.2.1,v) else e)=es.map (λ e=>if e.1=m then (e.1,e.2.1,v) else e):=rfl
     clear ih hs this
     induction es with
     | nil=>rfl
     | cons x es ih =>
      rw [List.map_cons]
      unfold zab
      by_cases hx:x.1=m
      ·rw [if_pos hx]
       show (if x.1=k then some v else _)=_
       rw [if_neg (λ z=>hk (hx.symm.trans z)),if_neg (λ z=>hk (hx.symm.trans z))]
       exact ih
      ·rw [if_neg hx,ih]
   ·rw [if_neg he]
    have hs':(zab es m).isSome=true:=by
     unfold zab at hs
     rw [if_neg he] at hs
     exact hs
    by_cases hk:e.1=k
    ·rw [if_pos hk,if_neg (λ z=>he (hk.trans z.symm)),if_pos hk]
    ·rw [if_neg hk,if_neg hk]
     exact ih hs'
 ·rw [if_neg hs]
  induction es with
  | nil =>
   show (if m=k then some v else none)=_
   rfl
  | cons e es ih =>
   rw [List.cons_append]
   unfold zab
   have he:¬ e.1=m:=λ z=>hs (by unfold zab;rw [if_pos z];rfl)
   have hs':¬ (zab es m).isSome=true:=λ z=>hs (by unfold zab;rw [if_neg he];exact z)
   by_cases hk:e.1=k
   ·rw [if_pos hk,if_neg (λ z=>he (hk.trans z.symm)),if_pos hk]
   ·rw [if_neg hk,if_neg hk]
    exact ih hs'
structure Tb (K:W.Frag) (H:Hp) (es:List Ent) (f:Mark→Option PyData):Prop where
 nd:(es.map (·.1)).Nodup
 ky:∀ e∈es,SqT K H e.2.1 (mkV e.1)
 va:∀ k,match f k with
  | none=>zab es k=none
  | some d=>∃ x,zab es k=some x∧DV K H d x
theorem zgn:∀ {es:List Ent} {k:Mark} {x:V},zab es k=some x→k∈es.map (·.1)
 | e::es,k,x,h=>by
  unfold zab at h
  by_cases z:e.1=k
  ·rw [← z];exact List.mem_cons_self
  ·rw [if_neg z] at h
   exact List.mem_cons_of_mem _ (zgn h)
theorem zzn:∀ {es:List Ent},(es.map (·.1)).Nodup→∀ {e:Ent},e∈es→zab es e.1=some e.2.2
 | x::es,nd,e,h=>by
  rw [List.map_cons] at nd
  have nd:=List.nodup_cons.mp nd
  unfold zab
  rcases List.mem_cons.mp h with rfl | h
  ·rw [if_pos rfl]
  ·rw [if_neg (λ z=>nd.1 (by rw [z];exact List.mem_map_of_mem (f:=λ x:Ent=>x.1) h))]
   exact zzn nd.2 h
section
variable {K:W.Frag} {H H':Hp} {es:List Ent} {f:Mark→Option PyData} {k m:Mark} {d:PyData}
theorem Tb.nil:Tb K H [] (λ _=>none):=⟨List.nodup_nil,(λ _ h=>by cases h),λ _=>rfl⟩
theorem Tb.hit (t:Tb K H es f) (h:f k=some d):∃ x,zab es k=some x∧DV K H d x:=by
 have:=t.va k
 rw [h] at this
 exact this
theorem Tb.miss (t:Tb K H es f) (h:f k=none):zab es k=none:=by
 have:=t.va k
 rw [h] at this
 exact this
theorem Tb.imp (t:Tb K H es f) (h1:∀ q m,SqT K H q (mkV m)→SqT K H' q (mkV m)) (h2:∀ k d x,f k=some d→DV K H d x→DV K H' d x):Tb K H' es f:=⟨t.nd,λ e he=>h1 _ _ (t.ky e he),λ k=>by
 cases h:f k with
 | none=>exact t.miss h
 | some d =>
  obtain ⟨x,e,hx⟩:=t.hit h
  exact ⟨x,e,h2 k d x h hx⟩⟩
theorem Tb.same (t:Tb K H es f) (s:Same H H'):Tb K H' es f:=t.imp (λ _ _ q=>s.seqT q) λ _ _ _ _ q=>DV.same s _ _ q
theorem Tb.other (t:Tb K H es f) {p:Addr} {o o':HO} (hp:H p=some o) (n:zrt o) (nl:∀ k d,f k=some d→noL d=true):Tb K (upd H p o') es f:=t.imp (λ _ _ q=>zqb hp n q) λ k d _ h q=>zle hp n _ _ (nl k d h) q
theorem Tb.upd {P:Program} {w:World} {a:Addr} {es0:List Ent} {o:Obj} {o':HO} (t:Tb K H es f) (ha:H a=some (dO P w a es0 o)) (nl:∀ k d,f k=some d→noL d=true):Tb K (upd H a o') es f:=t.other ha (zde _) nl
theorem Tb.mem (t:Tb K H es f) (k:Mark):k∈es.map (·.1)↔f k≠none:=by
 constructor
 ·intro h z
  have:=zrb h
  rw [t.miss z] at this
  cases this
 ·intro h
  cases e:f k with
  | none=>exact absurd e h
  | some d =>
   obtain ⟨x,e,_⟩:=t.hit e
   exact zgn e
theorem Tb.ent (t:Tb K H es f) {e:Ent} (h:e∈es):∃ d,f e.1=some d∧DV K H d e.2.2:=by
 cases z:f e.1 with
 | none =>
  have:=t.miss z
  rw [zzn t.nd h] at this
  cases this
 | some d =>
  obtain ⟨x,e1,hx⟩:=t.hit z
  rw [zzn t.nd h] at e1
  cases e1
  exact ⟨d,rfl,hx⟩
theorem Tb.put (t:Tb K H es f) {q:Addr} {v:V} (hq:SqT K H q (mkV m)) (hv:DV K H d v):Tb K H (putM es m q v) (λ k=>if m=k then some d else f k):=by
 refine ⟨?_,zuw t.ky hq,λ k=>?_⟩
 ·rw [zyg]
  by_cases h:(zab es m).isSome=true
  ·rw [if_pos h];exact t.nd
  ·rw [if_neg h]
   exact List.nodup_append.mpr ⟨t.nd,List.nodup_cons.mpr ⟨by simp,List.nodup_nil⟩,λ x hx y hy z=>h (zrb (by rw [← List.mem_singleton.mp hy,← z];exact hx))⟩
 ·show match (if m=k then some d else f k) with
   | none=>zab (putM es m q v) k=none
   | some d=>∃ x,zab (putM es m q v) k=some x∧DV K H d x
  rw [zfp]
  by_cases e:m=k
  ·rw [if_pos e,if_pos e]
   exact ⟨v,rfl,hv⟩
  ·rw [if_neg e,if_neg e]
   exact t.va k
theorem Tb.len (t:Tb K H es f) {U:List Mark} (h:∀ k,f k≠none→k∈U):es.length≤U.length:=by
 have:=zse (U:=U) t.nd λ k hk=>h k ((t.mem k).mp hk)
 rw [List.length_map] at this
 exact this
theorem Tb.dm {P:Program} {w:World} {a:Addr} {o:Obj} (t:Tb K H es f) (h:H a=some (dO P w a es o)):DM P w K H a es:=⟨⟨o,h⟩,t.ky⟩
end
theorem zfc {α β:Type} {R:α→β→Prop} {xs:List α} {ys:List β} (h:Paired R xs ys):∀ {i:Nat} {y:β},ys[i]? = some y→∃ x,xs[i]? = some x∧R x y:=by
 induction h with
 | nil=>intro i y e;simp at e
 | cons r rr ih =>
  intro i y e
  cases i with
  | zero=>simp at e;subst e;exact ⟨_,rfl,r⟩
  | succ i =>
   rw [List.getElem?_cons_succ] at e
   obtain ⟨x,hx,q⟩:=ih e
   exact ⟨x,by rw [List.getElem?_cons_succ];exact hx,q⟩
noncomputable def LsR (K:W.Frag) (N:List Addr) (H:Hp) (v:V) (ds:List PyData):Prop:=∃ l zs,v = .ref l∧l∉N∧H l=some (.lst zs)∧DVs K H ds zs∧noLs ds=true
section
variable {K:W.Frag} {N:List Addr} {H H':Hp} {v:V} {ds:List PyData}
theorem LsR.keep {D:Addr} (h:LsR K N H v ds) (k:∀ c o,c≠D→H c=some o→H' c=some o) (hd:∃ xs,H D=some (.lst xs)) (n:D∈N):LsR K N H' v ds:=by
 obtain ⟨l,zs,e,nl,hl,hz,ns⟩:=h
 exact ⟨l,zs,e,nl,k _ _ (λ z=>nl (z ▸ n)) hl,DVs.mono k hd _ _ ns hz,ns⟩
theorem LsR.same (h:LsR K N H v ds) (s:Same H H'):LsR K N H' v ds:=by
 obtain ⟨l,zs,e,nl,hl,hz,ns⟩:=h
 exact ⟨l,zs,e,nl,s _ _ hl,DVs.same s _ _ hz,ns⟩
theorem LsR.less {M:List Addr} (h:LsR K N H v ds) (n:∀ a∈M,a∈N):LsR K M H v ds:=by
 obtain ⟨l,zs,e,nl,r⟩:=h
 exact ⟨l,zs,e,λ z=>nl (n l z),r⟩
end
end L2
local macro_rules | `(tactic| walk_at "rd") => `(tactic| repeat (first
 | refine ⟨_,rfl,?_⟩
 | refine ⟨_,_,rfl,rfl,?_⟩
 | refine ⟨(by show (0:Int)<_;decide),?_⟩
 | refine ⟨⟨by decide,by decide⟩,?_⟩
 | refine ⟨Or.inr ⟨by decide,by decide⟩,?_⟩
 | refine ⟨⟨by decide,by decide,by decide⟩,?_⟩
 | refine ⟨_,_,_,_,rfl,rfl,L2.SqL.of L2.upd_same,rfl,?_⟩
 | refine ⟨_,_,_,_,rfl,rfl,L2.SqL.of (by assumption),rfl,?_⟩))
namespace My
open PySem L2 PySem.Spec PyProof.Rows PySem.NumText
local macro_rules | `(tactic| walk_at "sc") => `(tactic| exact ⟨rfl,rfl,rfl,by decide +kernel,rfl,by decide +kernel,by decide +kernel⟩)
theorem sm1 {n:Nat} (h:n≤1000):n≤sizeLine:=Nat.le_of_lt (zoa h)
theorem ip_2:(0:Int)<2:=by decide
theorem ip_3:(0:Int)<3:=by decide
theorem ip_4:(0:Int)<4:=by decide
theorem ip_5:(0:Int)<5:=by decide
theorem ip_7:(0:Int)<7:=by decide
theorem sz_0:0≤sizeLine:=by decide
theorem sz_1:1≤sizeLine:=by decide
theorem sz_2:2≤sizeLine:=by decide
theorem sz_3:3≤sizeLine:=by decide
noncomputable def top (i:Nat):Stmt:=PySem.Challenge.pw_twotabs_k22_changes_followed.main.body.getD i (.Pass ⟨0,0,0,0⟩)
noncomputable abbrev s_q0:Stmt:=zok (top 11) 0
noncomputable abbrev s_q4:Stmt:=zok (top 11) 1
noncomputable abbrev s_q1:Stmt:=zok (top 11) 4
noncomputable abbrev s_q5:Stmt:=zok (top 11) 9
noncomputable abbrev zk1:Stmt:=top 12
noncomputable abbrev s_q2:Stmt:=top 15
noncomputable abbrev zs1:Stmt:=top 14
noncomputable abbrev zu0:Stmt:=top 16
noncomputable abbrev zlz:Stmt:=top 17
noncomputable abbrev s_q6:Stmt:=top 19
noncomputable abbrev s_q9:Stmt:=top 20
noncomputable abbrev zhz:Stmt:=top 21
noncomputable abbrev s_q3:Stmt:=top 22
noncomputable abbrev s_q8:Stmt:=top 23
noncomputable abbrev zyz:Stmt:=top 24
noncomputable abbrev zb1:Stmt:=top 25
noncomputable abbrev zgz:Stmt:=top 26
noncomputable abbrev zf0:Stmt:=top 27
noncomputable abbrev s_q7:Stmt:=top 28
noncomputable abbrev zvv:Stmt:=top 29
structure Adr where
 f_q0:Addr
 d_q0:FuncData
 f_q4:Addr
 d_q4:FuncData
 f_q1:Addr
 d_q1:FuncData
 f_q5:Addr
 d_q5:FuncData
 f_q16:Addr
 d_q16:FuncData
 f_q2:Addr
 d_q2:FuncData
 f_q17:Addr
 d_q17:FuncData
 f_q18:Addr
 d_q18:FuncData
 f_q15:Addr
 d_q15:FuncData
 f_q6:Addr
 d_q6:FuncData
 f_q9:Addr
 d_q9:FuncData
 f_q10:Addr
 d_q10:FuncData
 f_q3:Addr
 d_q3:FuncData
 f_q8:Addr
 d_q8:FuncData
 f_q13:Addr
 d_q13:FuncData
 f_q12:Addr
 d_q12:FuncData
 f_q14:Addr
 d_q14:FuncData
 f_q11:Addr
 d_q11:FuncData
 f_q7:Addr
 d_q7:FuncData
 f_law:Addr
 d_law:FuncData
 DraftError:Addr
 NoDeed:Addr
 NoSheet:Addr
 NoStretch:Addr
 Sheet:Addr
 Unfit:Addr
structure Txt (K:W.Frag) (mg:Str→Option Value) (A:Adr):Prop where
 F_q0:Fun K "__init__" "Sheet.__init__" s_q0 A.f_q0 A.d_q0
 b_q0:Binds K A.d_q0 ["self", "pairs"] []
 mk_Sheet:Mk K A.Sheet A.f_q0
 F_q4:Fun K "pairs" "Sheet.pairs" s_q4 A.f_q4 A.d_q4
 b_q4:Binds K A.d_q4 ["self"] []
 m_q4:Meth K A.Sheet "pairs" A.f_q4
 F_q1:Fun K "version" "Sheet.version" s_q1 A.f_q1 A.d_q1
 b_q1:Binds K A.d_q1 ["self", "mark"] []
 m_q1:Meth K A.Sheet "version" A.f_q1
 F_q5:Fun K "given" "Sheet.given" s_q5 A.f_q5 A.d_q5
 b_q5:Binds K A.d_q5 ["self", "pairs"] []
 m_q5:Meth K A.Sheet "given" A.f_q5
 F_q16:Fun K "marks_of" "marks_of" zk1 A.f_q16 A.d_q16
 g_q16:mg "marks_of" = some (.ref A.f_q16)
 k_q16:W.keepIn K (.ref A.f_q16)=true
 b_q16:Binds K A.d_q16 ["one", "other"] []
 F_q2:Fun K "true_changes" "true_changes" s_q2 A.f_q2 A.d_q2
 g_q2:mg "true_changes" = some (.ref A.f_q2)
 k_q2:W.keepIn K (.ref A.f_q2)=true
 b_q2:Binds K A.d_q2 ["some"] []
 F_q17:Fun K "changes" "changes" zs1 A.f_q17 A.d_q17
 g_q17:mg "changes" = some (.ref A.f_q17)
 k_q17:W.keepIn K (.ref A.f_q17)=true
 b_q17:Binds K A.d_q17 ["one", "other"] []
 F_q18:Fun K "laid" "laid" zu0 A.f_q18 A.d_q18
 g_q18:mg "laid" = some (.ref A.f_q18)
 k_q18:W.keepIn K (.ref A.f_q18)=true
 b_q18:Binds K A.d_q18 ["sheet", "some"] []
 F_q15:Fun K "followed" "followed" zlz A.f_q15 A.d_q15
 g_q15:mg "followed" = some (.ref A.f_q15)
 k_q15:W.keepIn K (.ref A.f_q15)=true
 b_q15:Binds K A.d_q15 ["some", "more"] []
 F_q6:Fun K "_law_digits" "_law_digits" s_q6 A.f_q6 A.d_q6
 g_q6:mg "_law_digits" = some (.ref A.f_q6)
 k_q6:W.keepIn K (.ref A.f_q6)=true
 b_q6:Binds K A.d_q6 ["_law_cell", "_law_place"] []
 F_q9:Fun K "_law_signs" "_law_signs" s_q9 A.f_q9 A.d_q9
 g_q9:mg "_law_signs" = some (.ref A.f_q9)
 k_q9:W.keepIn K (.ref A.f_q9)=true
 b_q9:Binds K A.d_q9 [] []
 F_q10:Fun K "_law_words" "_law_words" zhz A.f_q10 A.d_q10
 g_q10:mg "_law_words" = some (.ref A.f_q10)
 k_q10:W.keepIn K (.ref A.f_q10)=true
 b_q10:Binds K A.d_q10 ["_law_one", "_law_other"] []
 F_q3:Fun K "_law_version" "_law_version" s_q3 A.f_q3 A.d_q3
 g_q3:mg "_law_version" = some (.ref A.f_q3)
 k_q3:W.keepIn K (.ref A.f_q3)=true
 b_q3:Binds K A.d_q3 ["_law_some"] []
 F_q8:Fun K "_law_pairs" "_law_pairs" s_q8 A.f_q8 A.d_q8
 g_q8:mg "_law_pairs" = some (.ref A.f_q8)
 k_q8:W.keepIn K (.ref A.f_q8)=true
 b_q8:Binds K A.d_q8 ["_law_cells"] []
 F_q13:Fun K "_law_bent" "_law_bent" zyz A.f_q13 A.d_q13
 g_q13:mg "_law_bent" = some (.ref A.f_q13)
 k_q13:W.keepIn K (.ref A.f_q13)=true
 b_q13:Binds K A.d_q13 ["_law_pairs_here", "_law_cells", "_law_by"] []
 F_q12:Fun K "_law_back" "_law_back" zb1 A.f_q12 A.d_q12
 g_q12:mg "_law_back" = some (.ref A.f_q12)
 k_q12:W.keepIn K (.ref A.f_q12)=true
 b_q12:Binds K A.d_q12 ["_law_pairs_here", "_law_first", "_law_cell"] []
 F_q14:Fun K "_law_row" "_law_row" zgz A.f_q14 A.d_q14
 g_q14:mg "_law_row" = some (.ref A.f_q14)
 k_q14:W.keepIn K (.ref A.f_q14)=true
 b_q14:Binds K A.d_q14 ["_law_script"] []
 F_q11:Fun K "_law_clear" "_law_clear" zf0 A.f_q11 A.d_q11
 g_q11:mg "_law_clear" = some (.ref A.f_q11)
 k_q11:W.keepIn K (.ref A.f_q11)=true
 b_q11:Binds K A.d_q11 ["_law_some", "_law_more"] []
 F_q7:Fun K "_law_right" "_law_right" s_q7 A.f_q7 A.d_q7
 g_q7:mg "_law_right" = some (.ref A.f_q7)
 k_q7:W.keepIn K (.ref A.f_q7)=true
 b_q7:Binds K A.d_q7 ["_law_some", "_law_more"] []
 F_law:Fun K "law" "law" zvv A.f_law A.d_law
 g_law:mg "law" = some (.ref A.f_law)
 k_law:W.keepIn K (.ref A.f_law)=true
 b_law:Binds K A.d_law ["_law_script"] []
 g_DraftError:mg "DraftError" = some (.ref A.DraftError)
 x_DraftError:XCls K A.DraftError
 g_NoDeed:mg "NoDeed" = some (.ref A.NoDeed)
 x_NoDeed:XCls K A.NoDeed
 g_NoSheet:mg "NoSheet" = some (.ref A.NoSheet)
 x_NoSheet:XCls K A.NoSheet
 g_NoStretch:mg "NoStretch" = some (.ref A.NoStretch)
 x_NoStretch:XCls K A.NoStretch
 g_Sheet:mg "Sheet" = some (.ref A.Sheet)
 cl_Sheet:Cls K A.Sheet
 na_Sheet_versions:NoAttr K A.Sheet "versions"
 g_Unfit:mg "Unfit" = some (.ref A.Unfit)
 x_Unfit:XCls K A.Unfit
 m_ud:W.mroIn K A.Unfit (.ref A.DraftError)=some true
 kv:W.kitOne K (.ref A.Unfit) (.type "ValueError")=some true
 kt:W.kitAny K (.ref A.Unfit) [.ref A.NoDeed,.ref A.NoSheet,.ref A.NoStretch]=some false
 n_ValueError:mg "ValueError" = none
 n_all:mg "all" = none
 n_dict:mg "dict" = none
 n_enumerate:mg "enumerate" = none
 n_isinstance:mg "isinstance" = none
 n_len:mg "len" = none
 n_list:mg "list" = none
 n_min:mg "min" = none
 n_range:mg "range" = none
 n_sorted:mg "sorted" = none
 n_tuple:mg "tuple" = none
noncomputable def sp_law (K:W.Frag):Sp:=λ vs H Q _=>∃ (a:Addr) (ns:List Int),vs=[.ref a]∧SqL K H a (ns.map V.int)∧ns.length≤63∧(∀ H',Q (.bl true) H')∧Plain H
noncomputable def zyk:Sp:=za3 (λ (a:Int×Int) vs=>vs=[.int a.1,.int a.2]) (λ _ o=>∃ d0 d1 d2 d3 d4 d5 d6 d7:Int,o = .lst [.int d0,.int d1,.int d2,.int d3,.int d4,.int d5,.int d6,.int d7]∧Dig d0∧Dig d1∧Dig d2∧Dig d3∧Dig d4∧Dig d5∧Dig d6∧Dig d7)
theorem zko {P:Program} {w:World} {K:W.Frag} {mg:Str→Option Value} {B:Heap} {CX:CXT} {k:Nat} {f:Addr} {fd:FuncData} {ps:List Str}
  (F:FnOk P w K mg B CX k f fd ps (zfy (λ (a:Int×Int) vs=>vs=[.int a.1,.int a.2]) (λ _ o=>∃ d0 d1 d2 d3 d4 d5 d6 d7:Int,o = .lst [.int d0,.int d1,.int d2,.int d3,.int d4,.int d5,.int d6,.int d7]∧Dig d0∧Dig d1∧Dig d2∧Dig d3∧Dig d4∧Dig d5∧Dig d6∧Dig d7))) :
  FnOk P w K mg B CX k f fd ps zyk:=F.new λ a o ⟨d0,d1,d2,d3,d4,d5,d6,d7,e,_⟩=>.inl ⟨_,e⟩
theorem zd3 {ds:List Int} (h:ds.length=8) (hd:∀ d∈ds,Dig d):∃ d0 d1 d2 d3 d4 d5 d6 d7:Int,HO.lst (ds.map V.int) = .lst [.int d0,.int d1,.int d2,.int d3,.int d4,.int d5,.int d6,.int d7]∧Dig d0∧Dig d1∧Dig d2∧Dig d3∧Dig d4∧Dig d5∧Dig d6∧Dig d7:=by
 match ds,h with
 | [a,b,c,d,e,f,g,i],_=>exact ⟨a,b,c,d,e,f,g,i,rfl,hd a (by simp),hd b (by simp),hd c (by simp),hd d (by simp),hd e (by simp),hd f (by simp),hd g (by simp),hd i (by simp)⟩
noncomputable abbrev zy2:Str := "abcdefghijklmnopqrstuvwxyz"
noncomputable def SIGNS:Str:=((((" !\"#$&'()*+,-./0123456789:;<=>?@" : Str)++Txt.upper zy2)++("[\\]^_`" : Str))++zy2)++("{|}~" : Str)
theorem zdr:SIGNS.length=94:=by decide +kernel
noncomputable def ztu:Sp:=zit (λ (_:Unit) vs=>vs=[]) (λ _ v=>v = .str SIGNS)
noncomputable def zlu:Sp:=zit (λ (a:Int×Int) vs=>vs=[.int a.1,.int a.2]) (λ _ v=>∃ z:Str,v = .str z∧z.length≤6∧PyData.strOk z=true)
theorem zpu {P:Nat→Bool} {g:Str} (hg:g.cps.all P=true):∀ {ps:List Str},(∀ p∈ps,p.cps.all P=true)→(Txt.join g ps).cps.all P=true:=by
 intro ps h
 show ((ps.drop 1).foldl (λ acc p=>acc++g.cps++p.cps) (ps.headD Str.empty).cps).all P=true
 have go:∀ (qs:List Str) (a:Array Nat),a.all P=true→(∀ p∈qs,p.cps.all P=true)→(qs.foldl (λ acc p=>acc++g.cps++p.cps) a).all P=true:=by
  intro qs
  induction qs with
  | nil=>intro a ha _;exact ha
  | cons q qs ih =>
   intro a ha hq
   refine ih _ ?_ λ p hp=>hq p (List.mem_cons_of_mem _ hp)
   rw [Array.all_append,Array.all_append,ha,hg,hq q List.mem_cons_self]
   rfl
 refine go _ _ ?_ λ p hp=>h p (List.mem_of_mem_drop hp)
 cases ps with
 | nil=>show (#[]:Array Nat).all P=true;simp
 | cons p ps=>exact h p List.mem_cons_self
theorem zst (i:Nat):SIGNS.cps.toList.getD i 0<0x110000:=by
 have h:SIGNS.cps.toList.all (λ c=>decide (c<0x110000))=true:=by decide +kernel
 rw [List.getD_eq_getElem?_getD]
 cases e:SIGNS.cps.toList[i]? with
 | none=>decide
 | some c=>exact of_decide_eq_true (List.all_eq_true.mp h c (List.mem_of_getElem? e))
noncomputable def digL (l:Addr) (H:Hp):Prop:=∃ d0 d1 d2 d3 d4 d5 d6 d7:Int,H l=some (.lst [.int d0,.int d1,.int d2,.int d3,.int d4,.int d5,.int d6,.int d7])∧Dig d0∧Dig d1∧Dig d2∧Dig d3∧Dig d4∧Dig d5∧Dig d6∧Dig d7
noncomputable def zi2 (K:W.Frag):Sp:=zr3 (λ (a:Addr) vs H=>vs=[.ref a]∧digL a H) (λ _ r H=>∃ v:Ver,DV K H (ver v) r∧okV v∧v.2.2.length≤6) (λ _ _=>False)
theorem zj4 {p:Prop} [Decidable p] {A B:Prop} (h:¬ p) (b:B):if decide p=true then A else B:=by rw [decide_eq_false h];exact iteF b
theorem zh4 {p:Prop} [Decidable p] {A B:Prop} (h:p) (a:A):if decide p=true then A else B:=by rw [decide_eq_true h];exact iteT a
theorem za4 {p:Prop} [Decidable p] {A B:Prop} (h:¬ p) (a:A):if (!decide p)=true then A else B:=by rw [decide_eq_false h];exact iteT a
theorem zfu {K:W.Frag} {H:Hp} {t:Addr} (h:H t=some (.tup [])):DV K H (plc []) (.ref t):=⟨t,[],rfl,SqT.of h,rfl⟩
theorem Plain.ins {H:Hp} {l C dx:Addr} {fs:List (Str×V)} (p:Plain H):Plain (upd H l (.ins C dx fs)):=p.upd trivial
theorem Plain.ext {H:Hp} {l:Addr} {φ:Heap→Prop} (p:Plain H):Plain (upd H l (.ext φ)):=p.upd trivial
theorem zjs {K:W.Frag} {H:Hp} {p C dx:Addr} {fs fs':List (Str×V)} {a:Addr} {xs:List V} (hp:H p=some (.ins C dx fs)) (h:SqT K H a xs):SqT K (upd H p (.ins C dx fs')) a xs:=by
 rcases h with (h | ⟨o,h⟩) | h
 ·exact .inl (.inl (by rw [zga (zcp h hp (by intro z;cases z))];exact h))
 ·exact .inl (.inr ⟨o,by rw [zga (zcp h hp (by intro z;cases z))];exact h⟩)
 ·exact .inr h
mutual
theorem zlx {K:W.Frag} {H:Hp} {p C dx:Addr} {fs fs':List (Str×V)} (hp:H p=some (.ins C dx fs)):∀ (d:PyData) (v:V),noL d=true→DV K H d v→DV K (upd H p (.ins C dx fs')) d v
 | .none,v,_,h=>h
 | .bool b,v,_,h=>h
 | .int i,v,_,h=>h
 | .str x,v,_,h=>h
 | .list xs,v,n,_=>by cases n
 | .tuple xs,v,n,⟨a,vs,h1,h2,h3⟩=>⟨a,vs,h1,zjs hp h2,zos hp xs vs n h3⟩
 | .dict _,v,_,h=>h.elim
theorem zos {K:W.Frag} {H:Hp} {p C dx:Addr} {fs fs':List (Str×V)} (hp:H p=some (.ins C dx fs)):∀ (ds:List PyData) (vs:List V),noLs ds=true→DVs K H ds vs→DVs K (upd H p (.ins C dx fs')) ds vs
 | [],vs,_,h=>h
 | d::ds,vs,n,⟨v,r,h1,h2,h3⟩=>by
  have n:noL d=true∧noLs ds=true:=by rw [noLs,Bool.and_eq_true] at n;exact n
  exact ⟨v,r,h1,zlx hp d v n.1 h2,zos hp ds r n.2 h3⟩
end
structure Good (ms:Sh):Prop where
 nd:(ms.map (·.1)).Nodup
 ok:∀ m∈ms,okV m.2∧m.2.2.2.length≤6∧(0≤m.1.1∧m.1.1≤3)∧(1≤m.1.2∧m.1.2≤20)
 few:ms.length≤59
theorem zoq {K:W.Frag} {H:Hp} {m:Mark×Ver} {y:V} (h:DV K H (prD m) y):∃ t q x,y = .ref t∧SqT K H t [.ref q,x]∧SqT K H q (mkV m.1)∧DV K H (ver m.2) x:=by
 obtain ⟨t,vs,rfl,ht,x1,r1,rfl,e1,x2,r2,rfl,e2,e3⟩:=h
 cases (show r2=[] from e3)
 obtain ⟨q,rfl,hq⟩:=zed e1
 exact ⟨t,q,x2,rfl,ht,hq,e2⟩
theorem zoi {K:W.Frag} {H:Hp} {es:List Ent} {ms:Sh} (he:EnS K H es ms) (nd:(ms.map (·.1)).Nodup) {m:Mark×Ver} (h:m∈ms):∃ x,zab es m.1=some x∧DV K H (ver m.2) x:=by
 have h1:=zgg he m.1
 rw [zic nd h] at h1
 cases e:zab es m.1 with
 | none =>
  rw [e] at h1
  obtain ⟨t,pv,z,_⟩:=zot (show DV K H (ver m.2) V.non from h1)
  cases z
 | some x =>
  rw [e] at h1
  exact ⟨x,rfl,h1⟩
theorem uniq {α:Type} {r:α→α→Prop} (as:∀ a b,r a b→r b a→False):∀ {l1 l2:List α},l1.Perm l2→l1.Pairwise r→l2.Pairwise r→l1=l2
 | [],l2,p,_,_=>(List.nil_perm.mp p).symm
 | a::l1,[],p,_,_=>absurd p.symm.nil_eq (by simp)
 | a::l1,b::l2,p,h1,h2=>by
  have h1':=List.pairwise_cons.mp h1
  have h2':=List.pairwise_cons.mp h2
  by_cases e:a=b
  ·subst e
   rw [uniq as ((List.perm_cons a).mp p) h1'.2 h2'.2]
  ·have m1:a∈l2:=by
    rcases List.mem_cons.mp (p.mem_iff.mp List.mem_cons_self) with z | z
    ·exact absurd z e
    ·exact z
   have m2:b∈l1:=by
    rcases List.mem_cons.mp (p.mem_iff.mpr List.mem_cons_self) with z | z
    ·exact absurd z.symm e
    ·exact z
   exact absurd (h2'.1 a m1) (λ z=>as _ _ (h1'.1 b m2) z)
theorem zjy (a b:Mark) (h1:mLt a b=true) (h2:mLt b a=true):False:=by rw [mLt_sto.asym h1] at h2;cases h2
theorem zoo:∀ (ms:Sh),(∀ m∈ms,okV m.2)→PyData.canLayAll0 (ms.map prD)=true∧PyData.depthAll (ms.map prD)≤30
 | [],_=>⟨rfl,Nat.zero_le _⟩
 | m::ms,h=>by
  obtain ⟨h1,h2⟩:=zoo ms λ x hx=>h x (List.mem_cons_of_mem _ hx)
  have h3:=zgf (m:=m) (h m List.mem_cons_self)
  unfold SeqAt.shaped at h3
  rw [Bool.and_eq_true] at h3
  refine ⟨?_,?_⟩
  ·show (PyData.canLay0 (prD m) && PyData.canLayAll0 (ms.map prD))=true
   rw [h3.1,h1]
   rfl
  ·show max (PyData.depth (prD m)) (PyData.depthAll (ms.map prD))≤30
   have h4:PyData.depth (prD m)=max 1 (max (max 0 (max (PyData.depthAll (m.2.2.1.map stp)+1) (max 0 0))+1) 0)+1:=rfl
   have:=zlc m.2.2.1
   omega
theorem zzg {ms:Sh} (h:∀ m∈ms,okV m.2):SeqAt.shaped (.list (ms.map prD))=true:=by
 obtain ⟨h1,h2⟩:=zoo ms h
 unfold SeqAt.shaped
 rw [show PyData.canLay0 (.list (ms.map prD))=true from h1,Bool.true_and]
 refine decide_eq_true ?_
 show PyData.depthAll (ms.map prD)+1≤64
 omega
noncomputable def zd2 (K:W.Frag):Sp:=λ vs H Q _=>Plain H∧∃ (c:Addr) (xs:List V),vs=[.ref c]∧H c=some (.lst xs)∧xs.length≤59∧(∀ x∈xs,∃ n,x = .int n)∧∀ (H':Hp) (l:Addr) (ws:List V) (ms:Sh),Same H H'→Plain H'→H' l=some (.lst ws)→DVs K H' (ms.map prD) ws→Good ms→ms.length≤xs.length→Q (.ref l) H'
theorem zh0 {α β:Type} {ok G:α→β→Prop} {C:Prop} (h1:(∀ y z,ok y z→G y z)→C) (h2:∀ y z,ok y z→G y z):C:=h1 h2
noncomputable def zrz (P:Program) (w:World) (K:W.Frag) (C NS:Addr):Sp:=λ vs H Q E=>Plain H∧∃ (p dx l:Addr) (ws:List V) (ms:Sh),vs=[.ref p,.ref l]∧H p=some (.ins C dx [])∧SqL K H l ws∧DVs K H (ms.map prD) ws∧(∀ m∈ms,okV m.2)∧ms.length<64 ∧
 ((ms.map (·.1)).Nodup→∀ H',(∀ b o,b≠p→H b=some o→H' b=some o)→ShAt P w K C H' p ms→Plain H'→Q .non H')∧(¬ (ms.map (·.1)).Nodup→∀ H',(∀ b o,b≠p→H b=some o→H' b=some o)→Plain H'→E (.ref NS) none H')
noncomputable def zn0 (P:Program) (w:World) (K:W.Frag) (C:Addr):Sp:=λ vs H Q _=>Plain H∧∃ (p:Addr) (ms:Sh),vs=[.ref p]∧ShAt P w K C H p ms∧∀ (H':Hp) (l:Addr) (bs:Sh) (ws:List V),H l=none→Same H H'→Plain H'→H' l=some (.lst ws)→bs.Perm ms→bs.Pairwise (λ a b=>mLt a.1 b.1=true)→DVs K H' (bs.map prD) ws→Q (.ref l) H'
noncomputable def zc0 (P:Program) (w:World) (K:W.Frag) (C:Addr):Sp:=λ vs H Q _=>Plain H∧∃ (p q:Addr) (m:Mark) (ms:Sh),vs=[.ref p,.ref q]∧ShAt P w K C H p ms∧SqT K H q (mkV m)∧∀ x,DV K H (vdat (look ms m)) x→Q x H
noncomputable def okSh (a:Sh):Prop:=(∀ m∈a,okV m.2)∧(mks a).Nodup
noncomputable def srtd (a:Sh):Prop:=a.Pairwise λ x y=>mLt x.1 y.1=true
noncomputable def Both (P:Program) (w:World) (K:W.Frag) (C:Addr) (H:Hp) (vs:List V) (a b:Sh):Prop:=∃ (p1 p2:Addr) (U:List Mark),vs=[.ref p1,.ref p2]∧ShAt P w K C H p1 a∧ShAt P w K C H p2 b∧(∀ m,m∈mks a ∨ m∈mks b→m∈U)∧U.length<64
noncomputable def zuz (P:Program) (w:World) (K:W.Frag) (A:Adr):Sp:=λ vs H Q _=>Plain H∧∃ (a b:Sh),Both P w K A.Sheet H vs a b∧∀ (l:Addr) (ks:List Mark) (ws:List V) (H':Hp),H l=none→Same H H'→Plain H'→H' l=some (.lst ws)→IsMk a b ks→ks.length<64→DVs K H' (ks.map markD) ws→Q (.ref l) H'
noncomputable def ziz (P:Program) (w:World) (K:W.Frag) (A:Adr):Sp:=λ vs H Q _=>Plain H∧∃ (a b:Sh),Both P w K A.Sheet H vs a b∧∀ (l:Addr) (ks:List Mark) (ws:List V) (H':Hp),H l=none→Same H H'→Plain H'→H' l=some (.lst ws)→IsMk a b ks→ks.length<64→DVs K H' ((chgs a b ks).map chD) ws→Q (.ref l) H'
noncomputable def zp1 (K:W.Frag):Sp:=λ vs H Q _=>Plain H∧∃ (p:Addr) (ws:List V) (cs:List Chg),vs=[.ref p]∧SqL K H p ws∧DVs K H (cs.map chD) ws∧(∀ c∈cs,okCh c)∧cs.length<64∧∀ (l:Addr) (zs:List V) (H':Hp),H l=none→Same H H'→Plain H'→H' l=some (.lst zs)→DVs K H' ((cs.filter difB).map chD) zs→Q (.ref l) H'
theorem zdf {P:Program} {w:World} {K:W.Frag} {H:Hp} {d:Addr} {es0 es:List Ent} {o:Obj} {ns:Sh} {x:HO} (hd:H d=some (dO P w d es0 o)) (he:EnS K H es ns):EnS K (upd H d x) es ns:=he.imp (λ _ _ q=>zqb hd (zde _) q) λ v _ q=>zle hd (zde _) _ _ (zco v) q
theorem zpe {K:W.Frag} {H H':Hp} {es:List Ent} {ns:Sh} (s:Same H H') (he:EnS K H es ns):EnS K H' es ns:=he.imp (λ _ _ q=>s.seqT q) λ _ _ q=>DV.same s _ _ q
theorem zrx {K:W.Frag} {H:Hp} {es:List Ent} {ns:Sh} (he:EnS K H es ns) (nd:(mks ns).Nodup) {m:Mark} {z:V} (h:zab es m=some z):∃ v,(m,v)∈ns∧DV K H (ver v) z:=by
 have hm:m∈mks ns:=by
  unfold mks
  rw [← zwa he]
  exact Classical.byContradiction λ hn=>by rw [znc hn] at h;cases h
 obtain ⟨v,hv⟩:=zyl hm
 obtain ⟨x,h1,h2⟩:=zoi he nd hv
 rw [h] at h1
 cases h1
 exact ⟨v,hv,h2⟩
theorem zlq {a b:Mark} (e:markD a=markD b):a=b:=by
 have e:=PyData.tuple.inj e
 injection e with e1 e2
 injection e2 with e2 _
 exact Prod.ext (PyData.int.inj e1) (PyData.int.inj e2)
theorem zyw {a b as bs:Sh} (p1:as.Perm a) (p2:bs.Perm b) (d:Mark×Ver) (m:Mark):(∃ i,i<(as++bs).length∧markD ((as++bs).getD i d).1=markD m)↔m∈mks a ∨ m∈mks b:=by
 have h1:m∈mks as↔m∈mks a:=(p1.map (·.1)).mem_iff
 have h2:m∈mks bs↔m∈mks b:=(p2.map (·.1)).mem_iff
 rw [← h1,← h2]
 have h3:m∈mks (as++bs)↔m∈mks as ∨ m∈mks bs:=by unfold mks;rw [List.map_append,List.mem_append]
 rw [← h3]
 constructor
 ·rintro ⟨i,hi,e⟩
  rw [List.getD_eq_getElem?_getD,List.getElem?_eq_getElem hi] at e
  rw [← zlq e]
  exact List.mem_map_of_mem (f:=(·.1)) (List.getElem_mem hi)
 ·intro h
  obtain ⟨x,hx,rfl⟩:=List.mem_map.mp h
  obtain ⟨i,hi,e⟩:=List.getElem_of_mem hx
  refine ⟨i,hi,?_⟩
  rw [List.getD_eq_getElem?_getD,List.getElem?_eq_getElem hi,← e]
  rfl
theorem zcy {a:Sh} (h:∀ m∈a,okV m.2):PyData.eqv (.list (a.map prD)) (.list (a.map prD))=true:=SeqAt.eqvAll_refl _ (zoo a h).1
theorem zfx {ms:Sh} (nd:(mks ms).Nodup) (ok:∀ m∈ms,okV m.2) (few:ms.length<64):Srt (ms.map (·.1)) (λ m=>[L2.markD m,vdat (look ms m)]) mLt .tup:=by
 have:=znm (es:=ms.map λ m=>(m.1,0,V.non)) (val:=λ m=>vdat (look ms m)) (λ e he=>by
  obtain ⟨m,hm,rfl⟩:=List.mem_map.mp he
  show SeqAt.shaped (.tuple [L2.markD m.1,vdat (look ms m.1)])=true
  rw [zic nd hm]
  exact zgf (ok m hm)) (by rw [List.map_map];exact nd) (by rw [List.length_map];exact few)
 rw [List.map_map] at this
 exact this
theorem zwx {K:W.Frag} {H:Hp} {ms:Sh} {ws:List V} (nd:(mks ms).Nodup) (hw:DVs K H (ms.map prD) ws):DVs K H ((ms.map (·.1)).map λ a=>.tuple [L2.markD a,vdat (look ms a)]) ws:=by
 have:=zmg nd (List.Perm.refl (ms.map (·.1)))
 rw [zrg nd] at this
 show DVs K H ((ms.map (·.1)).map (zcl λ m=>vdat (look ms m))) ws
 rw [this]
 exact hw
noncomputable def okGs (gs:List Giv):Prop:=∀ g∈gs,okO g.2
noncomputable def zug (ks:List Mark):Prop:=∀ k∈ks,k∈boxM 4 21
theorem zm0:((boxM 4 21).map λ m=>zni (L2.markD m)).Nodup:=by decide +kernel
noncomputable def zq2 (K:W.Frag):Sp:=λ vs H Q _=>Plain H∧∃ (p c:Addr) (by_:Int) (ws xs:List V) (ms:Sh),vs=[.ref p,.ref c,.int by_]∧SqL K H p ws∧DVs K H (ms.map prD) ws∧okSh ms∧zug (mks ms)∧H c=some (.lst xs)∧(∀ x∈xs,∃ n,x = .int n)∧ms.length+xs.length<64∧∀ (l:Addr) (ws':List V) (ns:Sh) (Ex:List Mark) (H':Hp),H l=none→Same H H'→Plain H'→H' l=some (.lst ws')→DVs K H' (ns.map prD) ws'→okSh ns→srtd ns→zug (mks ns)→ns.length≤ms.length+xs.length→Ex.length≤xs.length→(∀ m,m∉Ex→(m∈mks ns↔m∈mks ms))→Q (.ref l) H'
theorem putS_iff {ns:Sh} {m:Mark} {v:Ver} {k:Mark}:k∈mks (putS ns m v)↔k=m ∨ k∈mks ns:=by
 rw [zje]
 by_cases h:m∈mks ns
 ·rw [if_pos h]
  exact ⟨.inr,λ z=>z.elim (λ e=>by rw [e];exact h) id⟩
 ·rw [if_neg h,List.mem_append,List.mem_singleton,Or.comm]
theorem zpv (a:Sh) (x:Mark×Ver) (k:Mark):k∈mks (a++[x])↔k∈mks a ∨ k=x.1:=by
 unfold mks
 rw [List.map_append,List.mem_append,List.map_singleton,List.mem_singleton]
noncomputable def zg0 (P:Program) (w:World) (K:W.Frag) (A:Adr):Sp:=λ vs H Q _=>Plain H∧∃ (p l:Addr) (ms:Sh) (ws:List V) (gs:List Giv) (U:List Mark),vs=[.ref p,.ref l]∧ShAt P w K A.Sheet H p ms∧SqL K H l ws∧DVs K H (gs.map givD) ws∧okGs gs∧zug (mks ms)∧zug (gmk gs)∧gs.length<64∧U.length<64∧(∀ k,zui (look ms) gs k≠none→k∈U) ∧
 ∀ (x:Addr) (ns:Sh) (H':Hp),H x=none→Same H H'→Plain H'→ShAt P w K A.Sheet H' x ns→(∀ k,look ns k=zui (look ms) gs k)→Q (.ref x) H'
noncomputable def toG (c:Chg):Giv:=(c.1,c.2.2)
noncomputable def Fits (ms:Sh) (cs:List Chg):Prop:=∀ c∈cs,look ms c.1=c.2.1
noncomputable def OkC (cs:List Chg):Prop:=(∀ c∈cs,okCh c)∧cs.Pairwise (λ x y=>mLt x.1 y.1=true)∧zug (cs.map (·.1))∧cs.length<64
theorem ztv {a b:Sh} (oa:okSh a) (ob:okSh b) {ks:List Mark} (pw:ks.Pairwise λ x y=>mLt x y=true) (bk:zug ks) (hk:ks.length<64):OkC (chgs a b ks):=by
 refine ⟨λ c h=>zzs oa.1 ob.1 ks c (List.mem_filter.mp h).1,zes pw,λ k h=>?_,?_⟩
 ·obtain ⟨c,hc,rfl⟩:=List.mem_map.mp h
  obtain ⟨m,hm,rfl⟩:=List.mem_map.mp (List.mem_filter.mp hc).1
  exact bk m hm
 ·have:=List.length_filter_le difB (ks.map (chg a b))
  rw [List.length_map] at this
  exact Nat.lt_of_le_of_lt this hk
theorem zzt {a:Sh} {k:Mark} (h:look a k≠none):k∈mks a:=Classical.byContradiction λ z=>h (zmd z)
noncomputable def zf2 (P:Program) (w:World) (K:W.Frag) (A:Adr):Sp:=λ vs H Q E=>Plain H∧∃ (p l:Addr) (ms:Sh) (ws:List V) (cs:List Chg) (U:List Mark),vs=[.ref p,.ref l]∧ShAt P w K A.Sheet H p ms∧SqL K H l ws∧DVs K H (cs.map chD) ws∧OkC cs∧zug (mks ms)∧U.length<64∧(Fits ms cs→∀ k,zui (look ms) (cs.map toG) k≠none→k∈U) ∧
 (Fits ms cs→∀ (x:Addr) (ns:Sh) (H':Hp),H x=none→Same H H'→Plain H'→ShAt P w K A.Sheet H' x ns→(∀ k,look ns k=zui (look ms) (cs.map toG) k)→Q (.ref x) H') ∧
 (¬ Fits ms cs→∀ H',Same H H'→Plain H'→E (.ref A.Unfit) none H')
noncomputable def zsb (cs:List Chg) (k:Mark):Option (Option Ver×Option Ver):=(cs.find? λ c=>decide (c.1=k)).map (·.2)
noncomputable def Meet (cs ds:List Chg):Prop:=∀ d∈ds,∀ z,zsb cs d.1=some z→z.2=d.2.1
noncomputable def zsc (cs ds:List Chg) (k:Mark):Option (Option Ver×Option Ver):=match zsb cs k,zsb ds k with
 | some x,some y=>some (x.1,y.2)
 | some x,none=>some x
 | none,o=>o
noncomputable def IsFl (cs ds fs:List Chg):Prop:=fs.Pairwise (λ x y=>mLt x.1 y.1=true)∧∀ c:Chg,c∈fs↔c.2.1≠c.2.2∧zsc cs ds c.1=some c.2
noncomputable def zl2 (K:W.Frag) (A:Adr):Sp:=λ vs H Q E=>Plain H∧∃ (p l:Addr) (ws zs:List V) (cs ds:List Chg) (U:List Mark),vs=[.ref p,.ref l]∧SqL K H p ws∧DVs K H (cs.map chD) ws∧OkC cs∧SqL K H l zs∧DVs K H (ds.map chD) zs∧OkC ds∧U.length<64∧(∀ c∈cs,c.1∈U)∧(∀ d∈ds,d.1∈U) ∧
 (Meet cs ds→∀ (x:Addr) (ys:List V) (fs:List Chg) (H':Hp),H x=none→Same H H'→Plain H'→H' x=some (.lst ys)→DVs K H' (fs.map chD) ys→OkC fs→IsFl cs ds fs→Q (.ref x) H') ∧
 (¬ Meet cs ds→∀ H',Same H H'→Plain H'→E (.ref A.Unfit) none H')
noncomputable def zj0 (K:W.Frag):Sp:=λ vs H Q _=>Plain H∧∃ (p f:Addr) (n:Int) (ws zs:List V) (ms fs:Sh),vs=[.ref p,.ref f,.int n]∧SqL K H p ws∧DVs K H (ms.map prD) ws∧okSh ms∧SqL K H f zs∧DVs K H (fs.map prD) zs∧okSh fs∧zug (mks ms)∧zug (mks fs)∧ms.length+fs.length<64 ∧
 ∀ (l:Addr) (ys:List V) (ns:Sh) (H':Hp),H l=none→Same H H'→Plain H'→H' l=some (.lst ys)→DVs K H' (ns.map prD) ys→okSh ns→srtd ns→zug (mks ns)→(∀ k∈mks ns,k∈mks ms ∨ k∈mks fs)→Q (.ref l) H'
noncomputable def OkR (rs:List Sh) (U:List Mark):Prop:=∀ ms∈rs,okSh ms∧srtd ms∧zug (mks ms)∧∀ k∈mks ms,k∈U
noncomputable def zk2 (K:W.Frag):Sp:=λ vs H Q _=>Plain H∧∃ (a:Addr) (ns:List Int),vs=[.ref a]∧SqL K H a (ns.map V.int)∧ns.length<64 ∧
 ∀ (l:Addr) (ws:List V) (rs:List Sh) (U:List Mark) (H':Hp),H l=none→Same H H'→Plain H'→H' l=some (.lst ws)→Paired (λ v (ms:Sh)=>LsR K [] H' v (ms.map prD)) ws rs→OkR rs U→U.length<64→2≤rs.length→rs.length<10→Q (.ref l) H'
noncomputable def zy1 (K:W.Frag):Sp:=λ vs H Q _=>Plain H∧∃ (p l:Addr) (ws zs:List V) (cs ds:List Chg),vs=[.ref p,.ref l]∧SqL K H p ws∧DVs K H (cs.map chD) ws∧OkC cs∧SqL K H l zs∧DVs K H (ds.map chD) zs∧OkC ds ∧
 ∀ (b:Bool) (H':Hp),Same H H'→Plain H'→(b=true↔Meet cs ds)→Q (.bl b) H'
noncomputable def za1 (K:W.Frag):Sp:=λ vs H Q _=>Plain H∧∃ (p l:Addr) (ws zs:List V) (cs ds:List Chg) (U:List Mark),vs=[.ref p,.ref l]∧SqL K H p ws∧DVs K H (cs.map chD) ws∧OkC cs∧SqL K H l zs∧DVs K H (ds.map chD) zs∧OkC ds∧U.length<64∧(∀ c∈cs,c.1∈U)∧(∀ d∈ds,d.1∈U) ∧
 ∀ H',Same H H'→Plain H'→Q (.bl true) H'
theorem znt {cs:List Chg} (nd:(cs.map (·.1)).Nodup) {c:Chg} (h:c∈cs):zsb cs c.1=some c.2:=by
 induction cs with
 | nil=>cases h
 | cons x xs ih =>
  unfold zsb
  rw [List.map_cons] at nd
  have nd':=List.nodup_cons.mp nd
  rcases List.mem_cons.mp h with rfl | h
  ·rw [List.find?_cons_of_pos (by simp)]
   rfl
  ·have ne:¬ x.1=c.1:=λ e=>nd'.1 (by rw [e];exact List.mem_map_of_mem (f:=λ x:Chg=>x.1) h)
   rw [List.find?_cons_of_neg (by simpa using ne)]
   exact ih nd'.2 h
theorem zra {cs:List Chg} {k:Mark} {z:Option Ver×Option Ver} (h:zsb cs k=some z):(k,z)∈cs:=by
 unfold zsb at h
 obtain ⟨c,hc,rfl⟩:=Option.map_eq_some_iff.mp h
 have e:c.1=k:=by simpa using List.find?_some hc
 rw [← e]
 exact List.mem_of_find?_eq_some hc
noncomputable def IsCh (a b:Sh) (cs:List Chg):Prop:=cs.Pairwise (λ x y=>mLt x.1 y.1=true)∧∀ c:Chg,c∈cs↔c.2.1≠c.2.2∧c.2=(look a c.1,look b c.1)
theorem zbs {cs:List Chg} (h:cs.Pairwise (λ x y=>mLt x.1 y.1=true)):(cs.map (·.1)).Nodup:=List.pairwise_map.mpr (h.imp fun {x y} hxy e=>by
 have e:x.1=y.1:=e
 rw [e,mLt_sto.irr] at hxy
 cases hxy)
theorem zzf {a b:Sh} {ks:List Mark} (h:IsMk a b ks):IsCh a b (chgs a b ks):=by
 refine ⟨zes h.1,λ c=>⟨λ hc=>?_,λ ⟨hn,he⟩=>?_⟩⟩
 ·obtain ⟨hm,hd⟩:=List.mem_filter.mp hc
  obtain ⟨m,_,rfl⟩:=List.mem_map.mp hm
  refine ⟨λ e=>?_,rfl⟩
  unfold difB at hd
  rw [decide_eq_true e] at hd
  cases hd
 ·obtain ⟨m,z⟩:=c
  have he:z=(look a m,look b m):=he
  subst he
  have hn:look a m≠look b m:=hn
  have hk:m∈ks:=(h.2 m).mpr (Classical.byContradiction λ z=>hn (by rw [zmd (λ y=>z (.inl y)),zmd (λ y=>z (.inr y))]))
  exact List.mem_filter.mpr ⟨List.mem_map_of_mem (f:=chg a b) hk,by show (!decide (look a m=look b m))=true;rw [decide_eq_false hn];rfl⟩
theorem zx2 {cs:List Chg} (h:cs.Pairwise (λ x y=>mLt x.1 y.1=true)):cs.Nodup:=h.imp fun {x y} hxy e=>by
 rw [e,mLt_sto.irr] at hxy
 cases hxy
theorem IsCh.one {a b:Sh} {cs ds:List Chg} (h:IsCh a b cs) (g:IsCh a b ds):cs=ds:=uniq (r:=λ (x y:Chg)=>mLt x.1 y.1=true) (λ x y=>zjy x.1 y.1) (zuh (zx2 h.1) (zx2 g.1) λ c=>(h.2 c).trans (g.2 c).symm) h.1 g.1
theorem IsCh.self (a:Sh):IsCh a a []:=⟨List.Pairwise.nil,λ c=>⟨λ h=>(by cases h),λ ⟨h1,h2⟩=>absurd (by rw [h2]) h1⟩⟩
theorem zaj {a b:Sh} {cs:List Chg} (h:IsCh a b cs) (k:Mark):zsb cs k=if look a k=look b k then none else some (look a k,look b k):=by
 by_cases e:look a k=look b k
 ·rw [if_pos e]
  cases hf:zsb cs k with
  | none=>rfl
  | some z =>
   have:=(h.2 _).mp (zra hf)
   exact absurd (by rw [show z=(look a k,look b k) from this.2];exact e) this.1
 ·rw [if_neg e]
  exact znt (zbs h.1) (c:=(k,look a k,look b k)) ((h.2 _).mpr ⟨e,rfl⟩)
theorem zqs {a b c:Sh} {cs ds:List Chg} (h:IsCh a b cs) (g:IsCh b c ds):Meet cs ds:=λ d hd z hz=>by
 have e:=((g.2 d).mp hd).2
 rw [zaj h] at hz
 split at hz
 ·cases hz
 ·cases hz
  rw [e]
theorem zf3 {a b c:Sh} {cs ds fs:List Chg} (h:IsCh a b cs) (g:IsCh b c ds) (f:IsFl cs ds fs):IsCh a c fs:=⟨f.1,λ x=>by
 rw [f.2 x]
 refine and_congr_right λ hn=>?_
 unfold zsc
 rw [zaj h,zaj g]
 by_cases e1:look a x.1=look b x.1
 ·by_cases e2:look b x.1=look c x.1
  ·rw [if_pos e1,if_pos e2]
   exact ⟨λ z=>(by cases z),λ z=>absurd (by rw [z];exact e1.trans e2) hn⟩
  ·rw [if_pos e1,if_neg e2,e1]
   exact ⟨λ z=>(Option.some.inj z).symm,λ z=>congrArg some z.symm⟩
 ·by_cases e2:look b x.1=look c x.1
  ·rw [if_neg e1,if_pos e2,← e2]
   exact ⟨λ z=>(Option.some.inj z).symm,λ z=>congrArg some z.symm⟩
  ·rw [if_neg e1,if_neg e2]
   exact ⟨λ z=>(Option.some.inj z).symm,λ z=>congrArg some z.symm⟩⟩
theorem zio {a b:Sh} {cs:List Chg} (h:IsCh a b cs) (k:Mark):zui (look a) (cs.map toG) k=look b k:=by
 by_cases hg:k∈gmk (cs.map toG)
 ·obtain ⟨g,hg2,e⟩:=List.mem_map.mp hg
  have e:g.1=k:=e
  have nd:(gmk (cs.map toG)).Nodup:=by
   unfold gmk
   rw [List.map_map]
   exact zbs h.1
  rw [← e,zgq nd hg2]
  obtain ⟨c,hc,rfl⟩:=List.mem_map.mp hg2
  exact congrArg Prod.snd ((h.2 c).mp hc).2
 ·rw [zmh _ hg]
  exact Classical.byContradiction λ ne=>hg (List.mem_map.mpr ⟨toG (k,look a k,look b k),List.mem_map_of_mem ((h.2 _).mpr ⟨ne,rfl⟩),rfl⟩)
theorem zcw {a b:Sh} {cs:List Chg} (h:IsCh a b cs):Fits a cs:=λ c hc=>(congrArg Prod.fst ((h.2 c).mp hc).2).symm
theorem zwv {a b:Sh} {cs:List Chg} (h:IsCh a b cs) {U:List Mark} (ha:∀ k∈mks a,k∈U) (hb:∀ k∈mks b,k∈U):∀ c∈cs,c.1∈U:=λ c hc=>Classical.byContradiction λ z=>by
 have:=(h.2 c).mp hc
 rw [zmd (λ y=>z (ha _ y)),zmd (λ y=>z (hb _ y))] at this
 exact this.1 (by rw [this.2])
theorem zem {l:List Chg} {c:Chg} (hn:zsb l c.1=none) (k:Mark):zsb (l++[c]) k=if c.1=k then some c.2 else zsb l k:=by
 by_cases e:c.1=k
 ·rw [if_pos e]
  subst e
  unfold zsb at hn ⊢
  rw [List.find?_append,Option.map_eq_none_iff.mp hn]
  show ([c].find? λ x=>decide (x.1=c.1)).map (·.2)=_
  rw [List.find?_cons_of_pos (by simp)]
  rfl
 ·rw [if_neg e]
  unfold zsb
  rw [List.find?_append,List.find?_cons_of_neg (by simpa using e)]
  cases l.find? λ x=>decide (x.1=k) <;> rfl
theorem zwk {cs:List Chg} (pw:cs.Pairwise (λ x y=>mLt x.1 y.1=true)) {i:Nat} (hi:i<cs.length):zsb (cs.take i) cs[i].1=none:=by
 cases hf:zsb (cs.take i) cs[i].1 with
 | none=>rfl
 | some z =>
  obtain ⟨j,hj,ej⟩:=List.getElem_of_mem (zra hf)
  rw [List.length_take] at hj
  rw [List.getElem_take] at ej
  have:=List.pairwise_iff_getElem.mp pw j i (by omega) hi (by omega)
  rw [ej,mLt_sto.irr] at this
  cases this
theorem zff {cs:List Chg} (pw:cs.Pairwise (λ x y=>mLt x.1 y.1=true)) {i:Nat} (hi:i<cs.length) (k:Mark):zsb (cs.take (i+1)) k=if cs[i].1=k then some cs[i].2 else zsb (cs.take i) k:=by
 rw [List.take_succ_eq_append_getElem hi,zem (zwk pw hi)]
noncomputable def clB (cs:List Chg) (d:Chg):Bool:=match zsb cs d.1 with
 | none=>true
 | some z=>decide (z.2=d.2.1)
theorem zgr (cs ds:List Chg):(((List.range ds.length).map λ i=>clB cs (ds.getD i default)).all id)=true↔Meet cs ds:=by
 rw [List.all_eq_true]
 have one:∀ d:Chg,clB cs d=true ↔ ∀ z,zsb cs d.1=some z→z.2=d.2.1:=λ d=>by
  unfold clB
  cases zsb cs d.1 with
  | none=>exact ⟨λ _ z e=>(by cases e),λ _=>rfl⟩
  | some y=>exact ⟨λ h z e=>by cases e;exact of_decide_eq_true h,λ h=>decide_eq_true (h y rfl)⟩
 constructor
 ·intro h d hd
  obtain ⟨j,hj,rfl⟩:=List.getElem_of_mem hd
  have:=h _ (List.mem_map.mpr ⟨j,List.mem_range.mpr hj,rfl⟩)
  rw [List.getD_eq_getElem?_getD,List.getElem?_eq_getElem hj] at this
  exact (one _).mp this
 ·intro h b hb
  obtain ⟨j,hj,rfl⟩:=List.mem_map.mp hb
  have hj:=List.mem_range.mp hj
  rw [List.getD_eq_getElem?_getD,List.getElem?_eq_getElem hj]
  exact (one _).mpr (h _ (List.getElem_mem hj))
theorem zqy {α:Type} {ys:List α} {n:Nat} {f:Nat→α} (hl:ys.length=n) (h:∀ (i:Nat) y,ys[i]? = some y→y=f i):ys=(List.range n).map f:=by
 refine List.ext_getElem (by rw [hl,List.length_map,List.length_range]) λ i h1 h2=>?_
 rw [List.getElem_map,List.getElem_range]
 exact h i _ (List.getElem?_eq_getElem h1)
noncomputable def prC (z:Option Ver×Option Ver):PyData := .tuple [vdat z.1,vdat z.2]
theorem zpo (z:Option Ver×Option Ver):noL (prC z)=true:=by
 show noLs [vdat z.1,vdat z.2]=true
 unfold noLs noLs noLs
 rw [zgc,zgc]
 rfl
theorem zur {i:Nat} {J:Int} (h:i<numZ 5 12 J):12+(i:Int) * 5<J:=by
 unfold numZ Builtin.Range.rangeSize at h
 rw [if_pos (by decide)] at h
 split at h <;> omega
theorem zy3 (xs:List V) (k:Nat):(cutV xs (some (k:Int)) (some ((k:Int)+5))).length≤5:=by
 unfold cutV
 rw [List.length_take,List.length_drop,show HT.sIx xs.length 0 (some (k:Int))=min k xs.length from HT.sIx_nat ..,show ((k:Int)+5)=((k+5:Nat):Int) by omega,show HT.sIx xs.length xs.length (some ((k+5:Nat):Int))=min (k+5) xs.length from HT.sIx_nat ..]
 omega
theorem zzp {nsc:List Int} {k:Nat} (h:k<nsc.length):∃ n,(cutV (nsc.map V.int) (some (k:Int)) (some ((k:Int)+5)))[0]? = some (V.int n):=by
 refine ⟨nsc[k],?_⟩
 have hl:(nsc.map V.int).length=nsc.length:=List.length_map _
 unfold cutV
 rw [show HT.sIx (nsc.map V.int).length 0 (some (k:Int))=min k (nsc.map V.int).length from HT.sIx_nat ..,show ((k:Int)+5)=((k+5:Nat):Int) by omega,show HT.sIx (nsc.map V.int).length (nsc.map V.int).length (some ((k+5:Nat):Int))=min (k+5) (nsc.map V.int).length from HT.sIx_nat ..]
 rw [List.getElem?_take,if_pos (by omega),List.getElem?_drop,Nat.add_zero,Nat.min_eq_left (by omega),List.getElem?_map,List.getElem?_eq_getElem h]
 rfl
theorem zex (xs:List V) (n:Nat):(cutV xs none (some (n:Int))).length≤n:=by
 unfold cutV
 rw [List.length_take,show HT.sIx xs.length xs.length (some (n:Int))=min n xs.length from HT.sIx_nat ..]
 omega
theorem zwi {xs:List V} {v:V} (h:xs[xs.length - 1]? = some v):atI xs (-1)=some v:=by
 have hl:=(List.getElem?_eq_some_iff.mp h).1
 have e:ixN xs.length (-1)=some (xs.length - 1):=by
  unfold ixN
  rw [if_neg (by decide),if_pos (by omega)]
  congr 1
  omega
 unfold atI
 rw [e]
 exact h
theorem zwo {H:Hp} {D:Addr} {o:HO}:∀ c o',c≠D→H c=some o'→(upd H D o) c=some o':=λ c o' n e=>by rw [zga n];exact e
theorem zmn {rs:List Sh} {U W:List Mark} {ms:Sh} (h:OkR rs U) (ok:okSh ms) (sr:srtd ms) (bx:zug (mks ms)) (hin:∀ k∈mks ms,k∈U++W):OkR (rs++[ms]) (U++W):=λ x hx=>by
 rcases List.mem_append.mp hx with hx | hx
 ·obtain ⟨h1,h2,h3,h4⟩:=h x hx
  exact ⟨h1,h2,h3,λ k hk=>List.mem_append_left _ (h4 k hk)⟩
 ·rw [List.mem_singleton.mp hx]
  exact ⟨ok,sr,bx,hin⟩
theorem zus {rs:List Sh} {U:List Mark} (h:OkR rs U) {ms:Sh} (hm:ms∈rs):ms.length≤U.length:=by
 obtain ⟨h1,h2,h3,h4⟩:=h ms hm
 have:=zse h1.2 h4
 unfold mks at this
 rw [List.length_map] at this
 exact this
theorem zds {ms ns:Sh} {Ex U:List Mark} (h:∀ m,m∉Ex→(m∈mks ns↔m∈mks ms)) (hU:∀ k∈mks ms,k∈U):∀ k∈mks ns,k∈U++Ex:=λ k hk=>by
 by_cases z:k∈Ex
 ·exact List.mem_append_right _ z
 ·exact List.mem_append_left _ (hU k ((h k z).mp hk))
noncomputable def StpAt (K:W.Frag) (H:Hp) (ws:List V) (G:Nat→Sh):Prop:=∀ (i:Nat) v,ws[i]? = some v→∃ cs,LsR K [] H v (cs.map chD)∧IsCh (G i) (G (i+1)) cs∧OkC cs
theorem StpAt.same {K:W.Frag} {H H':Hp} {ws:List V} {G:Nat→Sh} (h:StpAt K H ws G) (s:Same H H'):StpAt K H' ws G:=λ i v e=>by
 obtain ⟨cs,h1,h2⟩:=h i v e
 exact ⟨cs,h1.same s,h2⟩
theorem zbh {cs ds:List Chg} (h:∀ c∈cs,okCh c) (g:∀ c∈ds,okCh c):SeqAt.shaped (.tuple [.list (cs.map chD),.list (ds.map chD)])=true:=by
 obtain ⟨h1,h2⟩:=zjh h
 obtain ⟨g1,g2⟩:=zjh g
 unfold SeqAt.shaped
 rw [show PyData.canLay0 (.tuple [.list (cs.map chD),.list (ds.map chD)])=(PyData.canLayAll0 (cs.map chD) && (PyData.canLayAll0 (ds.map chD) && true)) from rfl,h1,g1]
 refine decide_eq_true ?_
 show max (PyData.depthAll (cs.map chD)+1) (max (PyData.depthAll (ds.map chD)+1) 0)+1≤_
 omega
theorem zsw {cs ds:List Chg} (h:∀ c∈cs,okCh c) (g:∀ c∈ds,okCh c):PyData.eqv (.tuple [.list (cs.map chD),.list (ds.map chD)]) (.tuple [.list (cs.map chD),.list (ds.map chD)])=true:=by
 show (PyData.eqv (.list (cs.map chD)) (.list (cs.map chD)) && (PyData.eqv (.list (ds.map chD)) (.list (ds.map chD)) && true))=true
 rw [zbk h,zbk g]
 rfl
noncomputable def prP (k:Mark) (z:Option Ver×Option Ver):PyData := .tuple [L2.markD k,prC z]
theorem zxl {k:Mark} {z:Option Ver×Option Ver} (h:okO z.1∧okO z.2):SeqAt.shaped (prP k z)=true:=by
 unfold SeqAt.shaped
 rw [show PyData.canLay0 (prP k z)=(PyData.canLay0 (L2.markD k) && ((PyData.canLay0 (vdat z.1) && (PyData.canLay0 (vdat z.2) && true)) && true)) from rfl,zhg h.1,zhg h.2]
 refine decide_eq_true ?_
 have h2:PyData.depth (prP k z)=max (PyData.depth (L2.markD k)) (max ((max (PyData.depth (vdat z.1)) (max (PyData.depth (vdat z.2)) 0))+1) 0)+1:=rfl
 have h3:PyData.depth (L2.markD k)≤1:=Nat.le_refl _
 have h4:=zld z.1
 have h5:=zld z.2
 rw [h2]
 omega
theorem zkp (cs:List Chg) (k:Mark):zsc cs [] k=zsb cs k:=by
 unfold zsc
 rw [show zsb [] k=none from rfl]
 cases zsb cs k <;> rfl
noncomputable def flwV (cs:List Chg) (d:Chg):Option Ver×Option Ver:=match zsb cs d.1 with
 | some x=>(x.1,d.2.2)
 | none=>d.2
theorem zwu {cs ds:List Chg} (pw:ds.Pairwise (λ x y=>mLt x.1 y.1=true)) {i:Nat} (hi:i<ds.length) (k:Mark):zsc cs (ds.take (i+1)) k=if ds[i].1=k then some (flwV cs ds[i]) else zsc cs (ds.take i) k:=by
 unfold zsc flwV
 rw [zff pw hi]
 by_cases e:ds[i].1=k
 ·subst e
  rw [if_pos rfl,if_pos rfl]
  cases zsb cs ds[i].1 <;> rfl
 ·rw [if_neg e,if_neg e]
theorem ziw {cs ds:List Chg} (oc:OkC cs) (od:OkC ds) {k:Mark} {z:Option Ver×Option Ver} (h:zsc cs ds k=some z):okO z.1∧okO z.2:=by
 unfold zsc at h
 cases e1:zsb cs k with
 | none =>
  rw [e1] at h
  exact od.1 _ (zra h)
 | some x =>
  have hx:=oc.1 _ (zra e1)
  cases e2:zsb ds k with
  | none =>
   rw [e1,e2] at h
   cases h
   exact hx
  | some y =>
   rw [e1,e2] at h
   cases h
   exact ⟨hx.1,(od.1 _ (zra e2)).2⟩
theorem zm2 {cs ds:List Chg} {U:List Mark} (uc:∀ c∈cs,c.1∈U) (ud:∀ d∈ds,d.1∈U) {k:Mark} (h:zsc cs ds k≠none):k∈U:=by
 unfold zsc at h
 cases e1:zsb cs k with
 | some x=>exact uc _ (zra e1)
 | none =>
  rw [e1] at h
  cases e2:zsb ds k with
  | some y=>exact ud _ (zra e2)
  | none =>
   rw [e2] at h
   exact absurd rfl h
noncomputable def flwC (cs ds:List Chg) (k:Mark):Chg:=(k,(zsc cs ds k).getD (none,none))
theorem zvr {cs ds:List Chg} {bs:List Mark} (pw:bs.Pairwise λ x y=>mLt x y=true) (h:∀ k,k∈bs↔zsc cs ds k≠none):IsFl cs ds ((bs.map (flwC cs ds)).filter difB):=by
 refine ⟨List.Pairwise.filter _ (List.pairwise_map.mpr pw),λ c=>⟨λ hc=>?_,λ ⟨hn,he⟩=>?_⟩⟩
 ·obtain ⟨hm,hd⟩:=List.mem_filter.mp hc
  obtain ⟨m,hmb,rfl⟩:=List.mem_map.mp hm
  refine ⟨λ e=>?_,?_⟩
  ·unfold difB at hd
   rw [decide_eq_true e] at hd
   cases hd
  ·show zsc cs ds m=some ((zsc cs ds m).getD (none,none))
   cases e:zsc cs ds m with
   | none=>exact absurd e ((h m).mp hmb)
   | some z=>rfl
 ·refine List.mem_filter.mpr ⟨List.mem_map.mpr ⟨c.1,(h _).mpr (by rw [he];exact λ z=>by cases z),?_⟩,?_⟩
  ·unfold flwC
   rw [he]
   rfl
  ·unfold difB
   rw [decide_eq_false hn]
   rfl
section
variable (P:Program) (w:World) (K:W.Frag) (mg:Str→Option Value) (B:Heap) (A:Adr)
noncomputable abbrev zg1:Prop:=FnOk P w K mg B (CX1 P w B) 1 A.f_q0 A.d_q0 ["self", "pairs"] (zrz P w K A.Sheet A.NoSheet)
noncomputable abbrev ze0:Prop:=FnOk P w K mg B (CX1 P w B) 1 A.f_q4 A.d_q4 ["self"] (zn0 P w K A.Sheet)
noncomputable abbrev zmz:Prop:=FnOk P w K mg B (CX1 P w B) 1 A.f_q1 A.d_q1 ["self", "mark"] (zc0 P w K A.Sheet)
noncomputable abbrev zv2:Prop:=FnOk P w K mg B (CX1 P w B) 3 A.f_q5 A.d_q5 ["self", "pairs"] (zg0 P w K A)
noncomputable abbrev zdx:Prop:=FnOk P w K mg B (CX1 P w B) 2 A.f_q16 A.d_q16 ["one", "other"] (zuz P w K A)
noncomputable abbrev zr1:Prop:=FnOk P w K mg B (CX1 P w B) 1 A.f_q2 A.d_q2 ["some"] (zp1 K)
noncomputable abbrev zxy:Prop:=FnOk P w K mg B (CX1 P w B) 3 A.f_q17 A.d_q17 ["one", "other"] (ziz P w K A)
noncomputable abbrev zrw:Prop:=FnOk P w K mg B (CX1 P w B) 4 A.f_q18 A.d_q18 ["sheet", "some"] (zf2 P w K A)
noncomputable abbrev zkt:Prop:=FnOk P w K mg B (CX1 P w B) 2 A.f_q15 A.d_q15 ["some", "more"] (zl2 K A)
noncomputable abbrev zdz:Prop:=FnOk P w K mg B (CX1 P w B) 1 A.f_q6 A.d_q6 ["_law_cell", "_law_place"] zyk
noncomputable abbrev zg3:Prop:=FnOk P w K mg B (CX1 P w B) 1 A.f_q9 A.d_q9 [] ztu
noncomputable abbrev zsx:Prop:=FnOk P w K mg B (CX1 P w B) 2 A.f_q10 A.d_q10 ["_law_one", "_law_other"] zlu
noncomputable abbrev zz1:Prop:=FnOk P w K mg B (CX1 P w B) 3 A.f_q3 A.d_q3 ["_law_some"] (zi2 K)
noncomputable abbrev zw2:Prop:=FnOk P w K mg B (CX1 P w B) 4 A.f_q8 A.d_q8 ["_law_cells"] (zd2 K)
noncomputable abbrev zhw:Prop:=FnOk P w K mg B (CX1 P w B) 4 A.f_q13 A.d_q13 ["_law_pairs_here", "_law_cells", "_law_by"] (zq2 K)
noncomputable abbrev zhx:Prop:=FnOk P w K mg B (CX1 P w B) 1 A.f_q12 A.d_q12 ["_law_pairs_here", "_law_first", "_law_cell"] (zj0 K)
noncomputable abbrev zsy:Prop:=FnOk P w K mg B (CX1 P w B) 5 A.f_q14 A.d_q14 ["_law_script"] (zk2 K)
noncomputable abbrev zhy:Prop:=FnOk P w K mg B (CX1 P w B) 1 A.f_q11 A.d_q11 ["_law_some", "_law_more"] (zy1 K)
noncomputable abbrev zc3:Prop:=FnOk P w K mg B (CX1 P w B) 3 A.f_q7 A.d_q7 ["_law_some", "_law_more"] (za1 K)
noncomputable abbrev zc1:Prop:=FnOk P w K mg B (CX1 P w B) 6 A.f_law A.d_law ["_law_script"] (sp_law K)
end
set_option maxHeartbeats 4000000
section
variable {P:Program} {w:World} {K:W.Frag} {mg:Str→Option Value} {B:Heap} {A:Adr}
theorem zj3:FnScope ["self", "pairs"] ["self", "pairs"] (zka s_q0):=by walk_at "sc"
theorem zi3 (T:Txt K mg A)  : zg1 P w K mg B A:=by
 refine T.F_q0.okX zj3 (λ vs H Q E h=>?_) (λ _ _ _ _ H vs Q E hr h=>?_)
 ·obtain ⟨_,p,dx,l,ws,ms,rfl,_⟩:=h
  rfl
 ·obtain ⟨hP,p,dx,l,ws,ms,rfl,hp,hl,hd,hok,few,q,qe⟩:=h
  refine ⟨_,(zda (zz0 (pv 0) (zmc (zul rfl hr.u100) rfl T.n_dict (by decide +kernel) (zaa (pv 1) zfa)) rfl)
   (zha (zkg (zbb zm4 (zma zuk rfl T.n_len (by decide +kernel) (zaa (zhp (pv 0) rfl) zfa)) (zma zqa rfl T.n_len (by decide +kernel) (zaa (pv 1) zfa)) (zyb _)) (zha (zvi T.x_NoSheet zze rfl rfl T.g_NoSheet (zaa zfg zfa))) zdb))),?_⟩
  obtain ⟨ps,h1,h2⟩:=zrn hd
  have hpl:ps.length=ws.length:=Paired.length h1
  have hpm:ps.length=ms.length:=Paired.length h2
  have emk:=zwa h2
  refine ⟨_,rfl,l,ws,ps,rfl,hl,h1,by omega,λ d o hd0=>?_⟩
  have npd:p≠d:=zba hp hd0
  refine ⟨_,rfl,p,A.Sheet,dx,[],rfl,(by rw [zga npd];exact hp),T.cl_Sheet,T.na_Sheet_versions,(by show 0<1000;decide),?_⟩
  have keep:∀ b o',b≠p→H b=some o'→(upd (upd H d (dO P w d (zvb [] ps) o)) p (.ins A.Sheet dx (putF "versions" (.ref d) []))) b=some o':=λ b o' hb e=>by
   rw [zga hb,zga (zba e hd0)];exact e
  have P2:Plain (upd (upd H d (dO P w d (zvb [] ps) o)) p (.ins A.Sheet dx (putF "versions" (.ref d) []))):=Plain.ins (Plain.ext hP)
  have hp2:(upd (upd H d (dO P w d (zvb [] ps) o)) p (.ins A.Sheet dx (putF "versions" (.ref d) []))) p=some (.ins A.Sheet dx [("versions",.ref d)]):=upd_same
  have hd2:(upd (upd H d (dO P w d (zvb [] ps) o)) p (.ins A.Sheet dx (putF "versions" (.ref d) []))) d=some (dO P w d (zvb [] ps) o):=by rw [zga npd.symm];exact upd_same
  have hl2:SqL K (upd (upd H d (dO P w d (zvb [] ps) o)) p (.ins A.Sheet dx (putF "versions" (.ref d) []))) l ws:=by
   rcases hl with (z | ⟨o',z⟩) | z
   ·exact .inl (.inl (keep _ _ (zcp z hp (by intro z;cases z)) z))
   ·exact .inl (.inr ⟨o',keep _ _ (zcp z hp (by intro z;cases z)) z⟩)
   ·exact .inr z
  have he2:EnS K (upd (upd H d (dO P w d (zvb [] ps) o)) p (.ins A.Sheet dx (putF "versions" (.ref d) []))) ps ms:=by
   have sd:Same H (upd H d (dO P w d (zvb [] ps) o)):=zca hd0
   have hpd:(upd H d (dO P w d (zvb [] ps) o)) p=some (.ins A.Sheet dx []):=sd _ _ hp
   refine (h2.imp (H':=upd H d (dO P w d (zvb [] ps) o)) (λ _ _ q=>sd.seqT q) λ _ _ q=>DV.same sd _ _ q).imp (λ a m q=>zjs hpd q) λ v x q=>zlx hpd _ _ (zco v) q
  refine ⟨_,rfl,p,A.Sheet,dx,_,_,rfl,hp2,T.cl_Sheet,T.na_Sheet_versions,rfl,d,_,o,rfl,hd2,_,rfl,l,ws,rfl,.inl hl2,rfl,_,rfl,?_⟩
  by_cases nd:(ms.map (·.1)).Nodup
  ·have e:zvb [] ps=ps:=zxg ps [] (by rw [List.nil_append,emk];exact nd)
   refine zk4 (by rw [e,hpl]) ?_
   exact q nd _ keep ⟨⟨dx,d,ps,o,hp2,hd2.trans (by rw [e]),he2⟩,nd,hok,few⟩ P2
  ·have e:=zvf ps [] List.nodup_nil (by rw [List.nil_append,emk];exact nd)
   rw [List.length_nil] at e
   refine za4 (λ z=>by have:=V.int.inj z;omega) ?_
   exact ⟨sz_1,qe nd _ keep P2⟩
theorem zv4:FnScope ["self"] ["self"] (zka s_q4):=by walk_at "sc"
theorem zd4 (T:Txt K mg A)  : ze0 P w K mg B A:=by
 refine T.F_q4.okN zv4 (λ vs H Q E h=>?_) (λ _ _ _ _ H vs Q E hr h=>?_)
 ·obtain ⟨_,p,ms,rfl,_⟩:=h
  rfl
 ·obtain ⟨hP,p,ms,rfl,S,q⟩:=h
  refine ⟨_,(zha (zeb (zma (zcf rfl hr.u100) rfl T.n_sorted (by decide +kernel) (zaa (zzi (zhp (pv 0) rfl)) zfa)))),?_⟩
  obtain ⟨dx,d,es,o,hp,hd,he⟩:=S.ex
  refine ⟨_,rfl,p,A.Sheet,dx,_,_,rfl,hp,T.cl_Sheet,T.na_Sheet_versions,rfl,d,es,o,rfl,hd,λ v hv=>?_⟩
  have sv:Same H (upd H v (zmv v d)):=zca hv
  have emk:=zwa he
  have hpm:es.length=ms.length:=Paired.length he
  refine ⟨v,d,es,o,λ m=>vdat (look ms m),rfl,upd_same,sv _ _ hd,λ e h=>sv.seqT (zza he e h).1,λ e h=>?_,λ e h=>?_,by rw [emk];exact S.nd,by have:=S.few;omega,λ H' l bs ws s' p' hl pm pw hw=>?_⟩
  ·obtain ⟨_,x,h1,h2⟩:=zza he e h
   dsimp only
   rw [zic S.nd h1]
   exact DV.same sv _ _ h2
  ·obtain ⟨_,x,h1,h2⟩:=zza he e h
   show SeqAt.shaped (.tuple [markD e.1,vdat (look ms e.1)])=true
   rw [zic S.nd h1]
   exact zgf (m:=(e.1,x)) (S.ok _ h1)
  ·rw [emk] at pm
   rw [zmg S.nd pm] at hw
   exact q _ l _ ws ((sv.trans s').free hl) ((sv.trans s').trans (zca hl)) (p' (Plain.ext hP)).lst upd_same (zge S.nd pm) (zzk pw) (DVs.same (zca hl) _ _ hw)
theorem zn4:FnScope ["self", "mark"] ["self", "mark"] (zka s_q1):=by walk_at "sc"
theorem zt4 (T:Txt K mg A)  : zmz P w K mg B A:=by
 refine T.F_q1.okN zn4 (λ vs H Q E h=>?_) (λ _ _ _ _ H vs Q E hr h=>?_)
 ·obtain ⟨_,p,q0,m,ms,rfl,_⟩:=h
  rfl
 ·obtain ⟨hP,p,q0,m,ms,rfl,S,hm,q⟩:=h
  refine ⟨_,(zha (zeb (ziy (zif hr) (zhp (pv 0) rfl) (pv 1)))),?_⟩
  obtain ⟨dx,d,es,o,hp,hd,he⟩:=S.ex
  have D:DM P w K H d es:=⟨⟨o,hd⟩,λ e h=>(zza he e h).1⟩
  exact ⟨_,rfl,p,A.Sheet,dx,_,_,rfl,hp,T.cl_Sheet,T.na_Sheet_versions,rfl,d,es,rfl,D,_,rfl,q0,m,rfl,D,hm,q _ (zgg he m)⟩
theorem sc_q5:FnScope ["self", "pairs", "versions", "mark", "version"] ["self", "pairs"] (zka s_q5):=by walk_at "sc"
theorem zh3 (T:Txt K mg A) (G_q0:zg1 P w K mg B A):zv2 P w K mg B A:=by
 have B_q0:=T.b_q0
 refine T.F_q5.okX sc_q5 (λ vs H Q E h=>?_) (λ _ _ _ _ H vs Q E hr h=>?_)
 ·obtain ⟨_,p,l,ms,ws,gs,U,rfl,_⟩:=h
  rfl
 ·obtain ⟨hP,p,l,ms,ws,gs,U,rfl,S,hl,hw,okg,bm,bg,few,fu,hU,q⟩:=h
  refine ⟨_,(zda (zpa (i:=2) sc_q5.nd rfl (Or.inl rfl) (zmc zao rfl T.n_dict (by decide +kernel) (zaa (zhp (pv 0) rfl) zfa)))
   (zda (zoc PassesOwn.leaving rfl (zib (pv 1)) (zkc rfl (zia (zja (i:=3) sc_q5.nd rfl (Or.inl rfl)) (zia (zja (i:=4) sc_q5.nd rfl (Or.inl rfl)) zhb))) (zha (zkg (zbb zkx (pv 4) zmm (zyb _)) (zha (zzd (toE (zdu (zif hr) (pv 2) (pv 3)) (show _=zbz P w K _ _ _ from rfl)))) (zha (toS (zyd (zif hr) (pv 2) (pv 3) (pv 4) rfl) (show _=zgp P w K _ _ _ from rfl))))))
   (zha (zeb (zce T.mk_Sheet G_q0 (hr.mono (by decide)) rfl T.g_Sheet B_q0 .nil (Wants.passes zze) (zaa (zmc (ztn rfl) rfl T.n_list (by decide +kernel) (zaa (zzi (pv 2)) zfa)) zfa)))))),?_⟩
  obtain ⟨dx,d,es,o,hp,hd,he⟩:=S.ex
  have fm:=S.few
  have hpm:es.length=ms.length:=Paired.length he
  have emk:=zwa he
  have hwl:ws.length=gs.length:=by rw [hw.length,List.length_map]
  have hnd:(es.map λ e=>zni (L2.markD e.1)).Nodup:=by
   have:=zxx zm0 S.nd bm
   rw [← emk,List.map_map] at this
   exact this
  refine ⟨_,rfl,p,A.Sheet,dx,_,_,rfl,hp,T.cl_Sheet,T.na_Sheet_versions,rfl,d,es,o,rfl,hd,(λ e h=>(zza he e h).1),by omega,hnd,λ d2 o2 hd2=>?_⟩
  have s1:Same H (upd H d2 (dO P w d2 es o2)):=zca hd2
  have P1:Plain (upd H d2 (dO P w d2 es o2)):=Plain.ext hP
  have h1:(upd H d2 (dO P w d2 es o2)) d2=some (dO P w d2 es o2):=upd_same
  refine ⟨_,rfl,l,rfl,⟨_,s1.seq hl⟩,zjc (K:=K) (a:=l) (xs:=ws) (λ i σ H2=>∃ (o3 o4:Option V) (es:List Ent) (ob:Obj) (ns:Sh),σ=[some (.ref p),some (.ref l),some (.ref d2),o3,o4]∧Plain H2∧Same H H2∧H2 d2=some (dO P w d2 es ob)∧EnS K H2 es ns∧okSh ns∧zug (mks ns)∧ns.length≤ms.length+i∧∀ k,look ns k=zui (look ms) (gs.take i) k)
   ⟨_,_,es,o2,ms,rfl,P1,s1,h1,zpe s1 he,⟨S.ok,S.nd⟩,bm,Nat.le_refl _,λ k=>rfl⟩ (λ i σ H2 _ ⟨_,_,_,_,_,_,_,s,_⟩=>s.seq hl) ?_ ?_⟩
  ·rintro i y σ H2 hy ⟨o3,o4,es2,ob,ns,rfl,P2,S2,hd3,he2,okn,bn,hnl,hlk⟩
   have hi:i<gs.length:=by have:=(List.getElem?_eq_some_iff.mp hy).1;omega
   obtain ⟨y',hy',hyd⟩:=(DVs.same S2 _ _ hw).get (i:=i) (d:=givD gs[i]) (by rw [List.getElem?_map,List.getElem?_eq_getElem hi];rfl)
   rw [hy] at hy'
   cases hy'
   obtain ⟨t,q1,x,rfl,ht,hq1,hx⟩:=zv0 hyd
   have ky:∀ e∈es2,SqT K H2 e.2.1 (mkV e.1):=λ e h=>(zza he2 e h).1
   have hel:es2.length=ns.length:=Paired.length he2
   have em2:=zwa he2
   have hok:=okg _ (List.getElem_mem hi)
   have hbx:gs[i].1∈boxM 4 21:=bg _ (List.mem_map_of_mem (f:=λ g:Giv=>g.1) (List.getElem_mem hi))
   have htk:zui (look ms) (gs.take (i+1))=λ k=>if gs[i].1=k then gs[i].2 else zui (look ms) (gs.take i) k:=by rw [List.take_succ_eq_append_getElem hi,zum]
   refine ⟨t,_,rfl,ht,rfl,_,_,rfl,_,_,rfl,rfl,?_⟩
   refine ⟨_,rfl,rfl,_,rfl,?_⟩
   cases eg:gs[i].2 with
   | none =>
    rw [eg] at hx htk
    refine zh4 (show x = .non from hx) ?_
    refine ⟨_,rfl,d2,es2,rfl,⟨⟨ob,hd3⟩,ky⟩,_,rfl,q1,gs[i].1,rfl,⟨⟨ob,hd3⟩,ky⟩,hq1,by omega,λ v hv o'=>?_,λ hn=>⟨rfl,?_⟩⟩
    ·refine ⟨_,_,zer es2 gs[i].1,o',ns.filter λ n => !decide (n.1=gs[i].1),rfl,Plain.ext P2,λ b z e=>by rw [zga (zba e hd2)];exact S2 _ _ e,upd_same,zdf hd3 (zoj gs[i].1 he2),⟨λ y hy=>okn.1 y (List.mem_filter.mp hy).1,List.Nodup.sublist ((List.filter_sublist (l:=ns)).map (λ x:Mark×Ver=>x.1)) okn.2⟩,λ k hk=>?_,?_,λ k=>?_⟩
     ·obtain ⟨z,hz,rfl⟩:=List.mem_map.mp hk
      exact bn _ (List.mem_map_of_mem (f:=λ x:Mark×Ver=>x.1) (List.mem_filter.mp hz).1)
     ·have:=List.length_filter_le (λ n:Mark×Ver => !decide (n.1=gs[i].1)) ns
      omega
     ·rw [zxf,htk,hlk]
    ·refine ⟨_,_,es2,ob,ns,rfl,P2,S2,hd3,he2,okn,bn,by omega,λ k=>?_⟩
     rw [htk,hlk]
     show _=if gs[i].1=k then none else _
     by_cases e:gs[i].1=k
     ·rw [if_pos e,← hlk,← e]
      refine zmd λ z=>?_
      have:=zrb (es:=es2) (m:=gs[i].1) (by rw [em2];exact z)
      rw [hn] at this
      cases this
     ·rw [if_neg e]
   | some v =>
    rw [eg] at hx htk
    have okv:okV v:=hok v eg
    obtain ⟨tv,pvv,rfl,_⟩:=zot (show DV K H2 (ver v) x from hx)
    refine zj4 (λ z=>by cases z) ?_
    refine ⟨_,rfl,_,rfl,_,rfl,d2,es2,q1,gs[i].1,rfl,⟨⟨ob,hd3⟩,ky⟩,rfl,hq1,zoa (by omega),λ o'=>?_⟩
    refine ⟨_,_,putM es2 gs[i].1 q1 (.ref tv),o',putS ns gs[i].1 v,rfl,Plain.ext P2,λ b z e=>by rw [zga (zba e hd2)];exact S2 _ _ e,upd_same,zdf hd3 (zme he2 hq1 hx),⟨zhh okn.1 _ okv,zwg okn.2 _ _⟩,λ k hk=>?_,?_,λ k=>?_⟩
    ·rcases zlg hk with rfl | hk
     ·exact hbx
     ·exact bn _ hk
    ·have:=zbf ns gs[i].1 v
     omega
    ·rw [zzq,htk,hlk]
  rintro σ H2 ⟨o3,o4,es2,ob,ns,rfl,P2,S2,hd3,he2,okn,bn,hnl,hlk⟩
  rw [hwl,List.take_length] at hlk
  have hel:es2.length=ns.length:=Paired.length he2
  have nfw:ns.length<64:=by
   have:=zse (U:=U) okn.2 λ k hk=>hU k (by rw [← hlk];exact λ z=>zcs z hk)
   unfold mks at this
   rw [List.length_map] at this
   omega
  have em2:=zwa he2
  refine ⟨_,rfl,d2,es2,ob,rfl,hd3,λ v hv=>?_⟩
  have sv:Same H2 (upd H2 v (zmv v d2)):=zca hv
  refine ⟨v,d2,es2,ob,λ m=>vdat (look ns m),rfl,upd_same,sv _ _ hd3,λ e h=>sv.seqT (zza he2 e h).1,λ e h=>?_,by omega,?_⟩
  ·obtain ⟨_,x,h1,h2⟩:=zza he2 e h
   dsimp only
   rw [zic okn.2 h1]
   exact DV.same sv _ _ h2
  intro H3 l3 ws3 s3 p3 hl3 hw3
  have P3:Plain H3:=p3 (Plain.ext P2)
  rw [em2,zmg okn.2 (List.Perm.refl _),zrg okn.2] at hw3
  have S3:Same H (upd H3 l3 (.lst ws3)):=((S2.trans sv).trans s3).trans (zca hl3)
  have P4:Plain (upd H3 l3 (.lst ws3)):=P3.lst
  have h4:(upd H3 l3 (.lst ws3)) l3=some (.lst ws3):=upd_same
  have hw4:DVs K (upd H3 l3 (.lst ws3)) (ns.map prD) ws3:=DVs.same (zca hl3) _ _ hw3
  generalize upd H3 l3 (.lst ws3)=H4 at S3 P4 h4 hw4 ⊢
  intro x dx4 nx ndx nex
  have sx:Same H4 (upd (upd H4 dx4 (.own x)) x (.ins A.Sheet dx4 [])):=λ b o e=>by
   rw [zga (zba e nx),zga (zba e ndx)]
   exact e
  refine ⟨Plain.ins (P4.upd trivial),x,dx4,l3,ws3,ns,rfl,upd_same,SqL.of (sx _ _ h4),DVs.same sx _ _ hw4,okn.1,by omega,λ _ H5 k5 Sh5 P5=>⟨rfl,?_⟩,λ h=>absurd okn.2 h⟩
  have s5:Same H4 H5:=λ b o e=>k5 b o (zba e nx) (sx b o e)
  exact q x ns H5 (S3.free nx) (S3.trans s5) P5 Sh5 hlk
theorem zj2:FnScope ["one", "other"] ["one", "other"] (zka zk1):=by walk_at "sc"
theorem zq1 (T:Txt K mg A) (G_q4:ze0 P w K mg B A):zdx P w K mg B A:=by
 have B_q4:=T.b_q4
 refine T.F_q16.okN zj2 (λ vs H Q E h=>?_) (λ _ _ _ _ H vs Q E hr h=>?_)
 ·obtain ⟨_,a,b,⟨p1,p2,U,rfl,_⟩,_⟩:=h
  rfl
 ·obtain ⟨hP,a,b,⟨p1,p2,U,rfl,Sa,Sb,hU,few⟩,q⟩:=h
  refine ⟨_,(zha (zeb (zma (zej rfl hr.u100) rfl T.n_sorted (by decide +kernel) (zaa (zdn ["mark", "version"] 2 [] rfl hr.u100 (zib (zna zcz (zbj (pv 0) T.cl_Sheet T.m_q4 G_q4 (hr.mono (by decide)) B_q4 .nil zec) (zbj (pv 1) T.cl_Sheet T.m_q4 G_q4 (hr.mono (by decide)) B_q4 .nil zec))) gk2 (λ _ _ _ _ _=>zkc rfl (zia (zja (i:=0) (show List.Nodup (["mark", "version"]:List Str) by decide +kernel) rfl (Or.inl rfl)) (zia (zja (i:=1) (show List.Nodup (["mark", "version"]:List Str) by decide +kernel) rfl (Or.inl rfl)) zhb))) (λ _ _ _ _ _=>zrc) (λ _ _ _ _ _=>(pv 0))) zfa)))),?_⟩
  obtain ⟨dx1,_,_,_,hx1,_⟩:=id Sa.ex
  refine ⟨_,rfl,p1,dx1,_,rfl,hx1,rfl,hP,p1,a,rfl,Sa,λ H1 l1 as ws1 n1 s1 P1 hl1 pm1 pw1 hw1=>?_⟩
  obtain ⟨dx2,_,_,_,hx2,_⟩:=id (Sb.same s1).ex
  refine ⟨_,rfl,p2,dx2,_,rfl,hx2,rfl,P1,p2,b,rfl,Sb.same s1,λ H2 l2 bs ws2 n2 s2 P2 hl2 pm2 pw2 hw2=>?_⟩
  have fa:=Sa.few
  have fb:=Sb.few
  have hz1:ws1.length=as.length:=by rw [hw1.length,List.length_map]
  have hz2:ws2.length=bs.length:=by rw [hw2.length,List.length_map]
  have hy1:=pm1.length_eq
  have hy2:=pm2.length_eq
  refine ⟨l1,l2,ws1,ws2,rfl,rfl,s2 _ _ hl1,hl2,sm1 ((by omega)),λ pc hp3=>?_⟩
  have s3:Same H2 (upd H2 pc (.lst (ws1++ws2))):=zca hp3
  have P3:Plain (upd H2 pc (.lst (ws1++ws2))):=P2.lst
  have h3:(upd H2 pc (.lst (ws1++ws2))) pc=some (.lst (ws1++ws2)):=upd_same
  generalize upd H2 pc (.lst (ws1++ws2))=H3 at s3 P3 h3 ⊢
  have S3:=(s1.trans s2).trans s3
  have hw12:DVs K H3 ((as++bs).map prD) (ws1++ws2):=by
   rw [List.map_append]
   exact (DVs.same (s2.trans s3) _ _ hw1).append (DVs.same s3 _ _ hw2)
  have hzl:(ws1++ws2).length=(as++bs).length:=by rw [List.length_append,List.length_append,hz1,hz2]
  refine ⟨pc,rfl,⟨_,SqL.of h3⟩,λ D hD=>zor (λ i=>(ws1++ws2).getD i .non) (λ i=>L2.markD ((as++bs).getD i ((0,0),(0,[], ""))).1) hD P3 (n:=(ws1++ws2).length) (by rw [List.length_append];omega) (λ i _=>zut _) (zng (SqL.of h3)) ?_ ?_⟩
  ·intro i H4 Tt hi P4 S4 ht
   have hic:i<(as++bs).length:=by omega
   obtain ⟨y,hy,hyd⟩:=hw12.get (i:=i) (d:=prD (as++bs)[i]) (by rw [List.getElem?_map,List.getElem?_eq_getElem hic];rfl)
   have ec:(as++bs).getD i ((0,0),(0,[], ""))=(as++bs)[i]:=by rw [List.getD_eq_getElem?_getD,List.getElem?_eq_getElem hic];rfl
   rw [ec] at ht
   obtain ⟨t,q0,vx,ey,hq,hm,_⟩:=zoq hyd
   have eg:(ws1++ws2).getD i .non = .ref t:=by rw [List.getD_eq_getElem?_getD,hy,ey];rfl
   rw [eg]
   exact ⟨t,_,rfl,S4.seqT hq,rfl,_,_,rfl,_,_,rfl,rfl,_,rfl,ht q0 H4 (zsg (S4.seqT hm)) (Same.refl _) P4⟩
  ·intro qs H4 SW hin hle S4 P4
   have hmk:∀ q∈qs,∃ m,q.2=L2.markD m:=λ q hq=>by
    obtain ⟨i,_,e⟩:=(hin q.2).mp ⟨q,hq,rfl⟩
    exact ⟨_,e.symm⟩
   have hiff:∀ m,(∃ q∈qs,q.2=L2.markD m)↔m∈mks a ∨ m∈mks b:=λ m=>by
    rw [hin (L2.markD m),hzl]
    exact zyw pm1 pm2 _ m
   have hql:qs.length<64:=by
    have:(qs.map (·.2)).length≤(U.map L2.markD).length:=by
     classical
     refine zse SW.nd λ d hd=>?_
     obtain ⟨q,hq,rfl⟩:=List.mem_map.mp hd
     obtain ⟨m,e⟩:=hmk q hq
     rw [e]
     exact List.mem_map_of_mem (hU m ((hiff m).mp ⟨q,hq,e⟩))
    rw [List.length_map,List.length_map] at this
    omega
   refine ⟨D,qs,rfl,SW,hmk,hql,λ l ks ws hl pw hk hkl hds=>?_⟩
   exact q l ks ws _ ((S3.trans S4).free hl) ((S3.trans S4).trans (zca hl)) P4.lst upd_same ⟨pw,λ m=>(hk m).trans (hiff m)⟩ (by omega) (DVs.same (zca hl) _ _ hds)
theorem zl3:FnScope ["some"] ["some"] (zka s_q2):=by walk_at "sc"
theorem zf4 (T:Txt K mg A)  : zr1 P w K mg B A:=by
 refine T.F_q2.okN zl3 (λ vs H Q E h=>?_) (λ _ _ _ _ H vs Q E hr h=>?_)
 ·obtain ⟨_,p,ws,cs,rfl,_⟩:=h
  rfl
 ·obtain ⟨hP,p,ws,cs,rfl,hp,hw,ok,few,q⟩:=h
  refine ⟨_,(zha (zeb (zwd ["mark", "was", "now"] 3 [] rfl (zib (pv 0)) gk3 (λ _ _ _ _ _=>zkc rfl (zia (zja (i:=0) (show List.Nodup (["mark", "was", "now"]:List Str) by decide +kernel) rfl (Or.inl rfl)) (zia (zja (i:=1) (show List.Nodup (["mark", "was", "now"]:List Str) by decide +kernel) rfl (Or.inl rfl)) (zia (zja (i:=2) (show List.Nodup (["mark", "was", "now"]:List Str) by decide +kernel) rfl (Or.inl rfl)) zhb)))) (λ _ _ _ _ _=>zqw (zbb (zox (K:=K) rfl hr.units) (pv 1) (pv 2) (zyb _))) (λ _ _ _ _ _=>(zub (zaa (pv 0) (zaa (pv 1) (zaa (pv 2) zfa)))))))),?_⟩
  have hwl:ws.length=cs.length:=by rw [hw.length,List.length_map]
  refine ⟨_,rfl,p,rfl,⟨_,hp⟩,λ D hD=>zlr (λ i=>ws.getD i .non) (λ i=>difB (cs.getD i default)) (λ i y H=>DV K H (chD (cs.getD i default)) y) hD hP (n:=ws.length) (sm1 ((by omega))) (zng hp) ?_ ?_ ?_⟩
  ·exact λ i y Ha Hb h k hz=>DV.mono k hz _ _ (zbq _) h
  ·intro i H2 Tt Tf hi P2 S2 ht hf
   have hic:i<cs.length:=by omega
   obtain ⟨y,hy,hyd⟩:=hw.get (i:=i) (d:=chD cs[i]) (by rw [List.getElem?_map,List.getElem?_eq_getElem hic];rfl)
   have ec:cs.getD i default=cs[i]:=by rw [List.getD_eq_getElem?_getD,List.getElem?_eq_getElem hic];rfl
   rw [ec] at ht hf
   obtain ⟨t,q0,va,vb,ey,hq,hm,h1,h2⟩:=zdv hyd
   have eg:ws.getD i .non = .ref t:=by rw [List.getD_eq_getElem?_getD,hy,ey];rfl
   rw [eg]
   have okc:=ok _ (List.getElem_mem hic)
   refine ⟨t,_,rfl,S2.seqT hq,rfl,_,_,rfl,_,_,rfl,_,_,rfl,rfl,?_⟩
   refine ⟨_,rfl,_,rfl,vdat cs[i].2.1,vdat cs[i].2.2,DV.same S2 _ _ h1,DV.same S2 _ _ h2,zya okc.1,zya okc.2,_,rfl,?_⟩
   rw [zqg]
   by_cases e:cs[i].2.1=cs[i].2.2
   ·rw [decide_eq_true e]
    exact iteF (hf (by unfold difB;rw [decide_eq_true e];rfl) _ (Same.refl _) P2)
   ·rw [decide_eq_false e]
    refine iteT ?_
    refine ⟨_,rfl,_,rfl,_,rfl,sz_3,λ t2 hp3=>?_⟩
    have s3:Same H2 (upd H2 t2 (.tup [.ref q0,va,vb])):=zca hp3
    exact ht (by unfold difB;rw [decide_eq_false e];rfl) _ _ (zc2 (c:=cs[i]) (SqT.of upd_same) ((S2.trans s3).seqT hm) (DV.same (S2.trans s3) _ _ h1) (DV.same (S2.trans s3) _ _ h2)) s3 P2.tup
  ·intro ys H2 hr hD2 S2 P2
   have:=zsh (f:=λ i=>chD (cs.getD i default)) hr
   rw [hwl,zov cs default difB chD] at this
   exact q D ys H2 hD S2 P2 hD2 this
theorem zp0:FnScope ["one", "other"] ["one", "other"] (zka zs1):=by walk_at "sc"
theorem zm1 (T:Txt K mg A) (G_q1:zmz P w K mg B A) (G_q16:zdx P w K mg B A) (G_q2:zr1 P w K mg B A):zxy P w K mg B A:=by
 have B_q1:=T.b_q1
 have B_q16:=T.b_q16
 have B_q2:=T.b_q2
 refine T.F_q17.okN zp0 (λ vs H Q E h=>?_) (λ _ _ _ _ H vs Q E hr h=>?_)
 ·obtain ⟨_,a,b,⟨p1,p2,U,rfl,_⟩,_⟩:=h
  rfl
 ·obtain ⟨hP,a,b,⟨p1,p2,U,rfl,Sa,Sb,hU,few⟩,q⟩:=h
  refine ⟨_,(zha (zeb (zva G_q2 (hr.mono (by decide)) rfl T.g_q2 T.k_q2 B_q2 .nil zec (zaa (zwd ["mark", "one", "other"] 1 [0,1] rfl (zib (zva G_q16 (hr.mono (by decide)) rfl T.g_q16 T.k_q16 B_q16 .nil zec (zaa (pv 0) (zaa (pv 1) zfa)))) gk1 (λ _ _ _ _ _=>zja (i:=0) (show List.Nodup (["mark", "one", "other"]:List Str) by decide +kernel) rfl (Or.inl rfl)) (λ _ _ _ _ _=>zrc) (λ _ _ _ _ _=>(zub (zaa (pv 0) (zaa (zal (pv 1) T.cl_Sheet T.m_q1 G_q1 (hr.mono (by decide)) B_q1 .nil zec (zaa (pv 0) zfa)) (zaa (zal (pv 2) T.cl_Sheet T.m_q1 G_q1 (hr.mono (by decide)) B_q1 .nil zec (zaa (pv 0) zfa)) zfa)))))) zfa)))),?_⟩
  refine ⟨_,rfl,_,rfl,hP,a,b,⟨p1,p2,U,rfl,Sa,Sb,hU,few⟩,λ l1 ks ws1 H1 n1 s1 P1 hl1 hmk hkl hw1=>?_⟩
  have hwl:ws1.length=ks.length:=by rw [hw1.length,List.length_map]
  refine ⟨l1,rfl,⟨_,SqL.of hl1⟩,λ D hD=>zpd (λ i=>ws1.getD i .non) (λ i y H=>DV K H (chD (chg a b (ks.getD i (0,0)))) y) hD P1 (n:=ws1.length) (sm1 ((by omega))) (zng (SqL.of hl1)) ?_ ?_ ?_⟩
  ·exact λ i y Ha Hb h k hz=>DV.mono k hz _ _ (zbq _) h
  ·intro i H2 R hi P2 S2 hR
   have hic:i<ks.length:=by omega
   obtain ⟨y,hy,hyd⟩:=hw1.get (i:=i) (d:=markD ks[i]) (by rw [List.getElem?_map,List.getElem?_eq_getElem hic];rfl)
   have ec:ks.getD i (0,0)=ks[i]:=by rw [List.getD_eq_getElem?_getD,List.getElem?_eq_getElem hic];rfl
   rw [ec] at hR
   obtain ⟨q0,ey,hm⟩:=zed hyd
   have eg:ws1.getD i .non = .ref q0:=by rw [List.getD_eq_getElem?_getD,hy,ey];rfl
   rw [eg]
   have S12:=s1.trans S2
   obtain ⟨dx1,_,_,_,hx1,_⟩:=id (Sa.same S12).ex
   obtain ⟨dx2,_,_,_,hx2,_⟩:=id (Sb.same S12).ex
   have hm2:=S2.seqT hm
   refine ⟨_,rfl,_,rfl,p1,dx1,_,rfl,hx1,rfl,_,rfl,P2,p1,q0,ks[i],a,rfl,Sa.same S12,hm2,λ x hx=>?_⟩
   refine ⟨_,rfl,p2,dx2,_,rfl,hx2,rfl,_,rfl,P2,p2,q0,ks[i],b,rfl,Sb.same S12,hm2,λ y2 hy2=>?_⟩
   refine ⟨sz_3,λ t2 hp3=>?_⟩
   have s3:Same H2 (upd H2 t2 (.tup [.ref q0,x,y2])):=zca hp3
   exact hR _ _ (zc2 (c:=chg a b ks[i]) (SqT.of upd_same) (s3.seqT hm2) (DV.same s3 _ _ hx) (DV.same s3 _ _ hy2)) s3 P2.tup
  ·intro zs H2 hzl hzs hD2 S2 P2
   refine ⟨P2,D,zs,ks.map (chg a b),rfl,SqL.of hD2,?_,zzs Sa.ok Sb.ok ks,by rw [List.length_map];exact hkl,λ l2 zs2 H3 n3 s3 P3 hl3 hw3=>q l2 ks zs2 H3 ((s1.trans S2).free n3) ((s1.trans S2).trans s3) P3 hl3 hmk hkl hw3⟩
   refine DVs.of (f:=chD) (by rw [hzl,hwl,List.length_map]) λ i v c hv hc=>?_
   have h1:=hzs i v hv
   rw [List.getElem?_map] at hc
   have hic:i<ks.length:=by
    have:=(List.getElem?_eq_some_iff.mp hv).1
    omega
   rw [List.getElem?_eq_getElem hic] at hc
   cases hc
   rw [List.getD_eq_getElem?_getD,List.getElem?_eq_getElem hic] at h1
   exact h1
theorem sc_q18:FnScope ["sheet", "some", "mark", "was", "now"] ["sheet", "some"] (zka zu0):=by walk_at "sc"
theorem zf1 (T:Txt K mg A) (G_q1:zmz P w K mg B A) (G_q5:zv2 P w K mg B A):zrw P w K mg B A:=by
 have B_q1:=T.b_q1
 have B_q5:=T.b_q5
 refine T.F_q18.okX sc_q18 (λ vs H Q E h=>?_) (λ _ _ _ _ H vs Q E hr h=>?_)
 ·obtain ⟨_,p,l,ms,ws,cs,U,rfl,_⟩:=h
  rfl
 ·obtain ⟨hP,p,l,ms,ws,cs,U,rfl,S,hl,hw,okc,bm,fu,hU,q,qe⟩:=h
  refine ⟨_,(zda (zoc PassesOwn.leaving rfl (zib (pv 1)) (zkc rfl (zia (zja (i:=2) sc_q18.nd rfl (Or.inl rfl)) (zia (zja (i:=3) sc_q18.nd rfl (Or.inl rfl)) (zia (zja (i:=4) sc_q18.nd rfl (Or.inl rfl)) zhb)))) (zha (zkg (zbb (zqj hr.units) (zal (pv 0) T.cl_Sheet T.m_q1 G_q1 (hr.mono (by decide)) B_q1 .nil zec (zaa (pv 2) zfa)) (pv 3) (zyb _)) (zha (zvi T.x_Unfit zze rfl rfl T.g_Unfit (zaa zfg zfa))) zdb)))
   (zha (zeb (zal (pv 0) T.cl_Sheet T.m_q5 G_q5 (hr.mono (by decide)) B_q5 .nil (Wants.passes zze) (zaa (zwd ["mark", "was", "now"] 3 [] rfl (zib (pv 1)) gk3 (λ _ _ _ _ _=>zkc rfl (zia (zja (i:=0) (show List.Nodup (["mark", "was", "now"]:List Str) by decide +kernel) rfl (Or.inl rfl)) (zia (zja (i:=1) (show List.Nodup (["mark", "was", "now"]:List Str) by decide +kernel) rfl (Or.inl rfl)) (zia (zja (i:=2) (show List.Nodup (["mark", "was", "now"]:List Str) by decide +kernel) rfl (Or.inl rfl)) zhb)))) (λ _ _ _ _ _=>zrc) (λ _ _ _ _ _=>(zub (zaa (pv 0) (zaa (pv 2) zfa))))) zfa))))),?_⟩
  obtain ⟨dx,d,es,o,hp,_⟩:=id S.ex
  have hwl:ws.length=cs.length:=by rw [hw.length,List.length_map]
  have fc:=okc.2.2.2
  refine ⟨_,rfl,l,rfl,⟨_,hl⟩,zjc (K:=K) (a:=l) (xs:=ws) (λ i σ H2=>∃ (o2 o3 o4:Option V),σ=[some (.ref p),some (.ref l),o2,o3,o4]∧H2=H∧∀ c∈cs.take i,look ms c.1=c.2.1)
   ⟨_,_,_,rfl,rfl,λ c hc=>by cases hc⟩ (λ i σ H2 _ ⟨_,_,_,_,e,_⟩=>by rw [e];exact hl) ?_ ?_⟩
  ·rintro i y σ H2 hy ⟨o2,o3,o4,rfl,rfl,hfit⟩
   have hi:i<cs.length:=by have:=(List.getElem?_eq_some_iff.mp hy).1;omega
   obtain ⟨y',hy',hyd⟩:=hw.get (i:=i) (d:=chD cs[i]) (by rw [List.getElem?_map,List.getElem?_eq_getElem hi];rfl)
   rw [hy] at hy'
   cases hy'
   obtain ⟨t,q0,va,vb,rfl,ht,hm,h1,h2⟩:=zdv hyd
   have okk:=okc.1 _ (List.getElem_mem hi)
   refine ⟨t,_,rfl,ht,rfl,_,_,rfl,_,_,rfl,_,_,rfl,rfl,?_⟩
   refine ⟨_,rfl,p,dx,_,rfl,hp,rfl,_,rfl,hP,p,q0,cs[i].1,ms,rfl,S,hm,λ x hx=>?_⟩
   refine ⟨_,rfl,vdat (look ms cs[i].1),vdat cs[i].2.1,hx,h1,zya (λ v e=>S.ok _ (zzb e)),zya okk.1,_,rfl,?_⟩
   rw [zqg]
   by_cases e:look ms cs[i].1=cs[i].2.1
   ·rw [decide_eq_true e]
    refine iteF ?_
    refine ⟨_,_,_,rfl,rfl,λ c hc=>?_⟩
    rw [List.take_succ_eq_append_getElem hi] at hc
    rcases List.mem_append.mp hc with hc | hc
    ·exact hfit c hc
    ·rw [List.mem_singleton.mp hc];exact e
   ·rw [decide_eq_false e]
    refine iteT ?_
    exact ⟨sz_1,qe (λ f=>e (f _ (List.getElem_mem hi))) _ (Same.refl _) hP⟩
  rintro σ H2 ⟨o2,o3,o4,rfl,rfl,hfit⟩
  rw [hwl,List.take_length] at hfit
  have hfit:Fits ms cs:=hfit
  refine ⟨_,rfl,p,dx,_,rfl,hp,rfl,?_⟩
  refine ⟨_,rfl,l,rfl,⟨_,hl⟩,λ D hD=>zpd (λ i=>ws.getD i .non) (λ i y H=>DV K H (givD (toG (cs.getD i default))) y) hD hP (n:=ws.length) (sm1 ((by omega))) (zng hl) ?_ ?_ ?_⟩
  ·exact λ i y Ha Hb h k hz=>DV.mono k hz _ _ (zzx _) h
  ·intro i H3 R hi P3 S3 hR
   have hic:i<cs.length:=by omega
   obtain ⟨y,hy,hyd⟩:=hw.get (i:=i) (d:=chD cs[i]) (by rw [List.getElem?_map,List.getElem?_eq_getElem hic];rfl)
   have ec:cs.getD i default=cs[i]:=by rw [List.getD_eq_getElem?_getD,List.getElem?_eq_getElem hic];rfl
   rw [ec] at hR
   obtain ⟨t,q0,va,vb,ey,hq,hm,h1,h2⟩:=zdv hyd
   have eg:ws.getD i .non = .ref t:=by rw [List.getD_eq_getElem?_getD,hy,ey];rfl
   rw [eg]
   refine ⟨t,_,rfl,S3.seqT hq,rfl,_,_,rfl,_,_,rfl,_,_,rfl,rfl,?_⟩
   refine ⟨_,rfl,_,rfl,sz_2,λ t2 hp3=>?_⟩
   have s4:Same H3 (upd H3 t2 (.tup [.ref q0,vb])):=zca hp3
   exact hR _ _ (zq0 (g:=toG cs[i]) (SqT.of upd_same) ((S3.trans s4).seqT hm) (DV.same (S3.trans s4) _ _ h2)) s4 P3.tup
  ·intro zs H3 hzl hzs hD3 S3 P3
   have hzd:DVs K H3 ((cs.map toG).map givD) zs:=by
    refine DVs.of (f:=givD) (by rw [hzl,hwl,List.length_map]) λ i v c hv hc=>?_
    have h1:=hzs i v hv
    rw [List.getElem?_map] at hc
    have hic:i<cs.length:=by
     have:=(List.getElem?_eq_some_iff.mp hv).1
     omega
    rw [List.getElem?_eq_getElem hic] at hc
    cases hc
    rw [List.getD_eq_getElem?_getD,List.getElem?_eq_getElem hic] at h1
    exact h1
   have eg:gmk (cs.map toG)=cs.map (·.1):=by unfold gmk;rw [List.map_map];rfl
   refine ⟨P3,p,D,ms,zs,cs.map toG,U,rfl,S.same S3,SqL.of hD3,hzd,(λ g hg=>?_),bm,by rw [eg];exact okc.2.2.1,by rw [List.length_map];exact fc,fu,hU hfit,λ x ns H4 n4 s4 P4 Sh4 lk4=>q hfit x ns H4 (S3.free n4) (S3.trans s4) P4 Sh4 lk4⟩
   obtain ⟨c,hc,rfl⟩:=List.mem_map.mp hg
   exact (okc.1 c hc).2
theorem sc_q15:FnScope ["some", "more", "whole", "mark", "was", "now", "first", "met"] ["some", "more"] (zka zlz):=by walk_at "sc"
theorem zn2 (T:Txt K mg A) (G_q2:zr1 P w K mg B A):zkt P w K mg B A:=by
 have B_q2:=T.b_q2
 refine T.F_q15.okX sc_q15 (λ vs H Q E h=>?_) (λ _ _ _ _ H vs Q E hr h=>?_)
 ·obtain ⟨_,p,l,ws,zs,cs,ds,U,rfl,_⟩:=h
  rfl
 ·obtain ⟨hP,p,l,ws,zs,cs,ds,U,rfl,hp,hw,okc,hl,hz,okd,fu,uc,ud,q,qe⟩:=h
  refine ⟨_,(zda (zjx ["mark", "was", "now"] 3 [] (i:=2) sc_q15.nd rfl (Or.inl rfl) rfl hr.u100 (zib (pv 0)) gk3 (λ _ _ _ _ _=>zkc rfl (zia (zja (i:=0) (show List.Nodup (["mark", "was", "now"]:List Str) by decide +kernel) rfl (Or.inl rfl)) (zia (zja (i:=1) (show List.Nodup (["mark", "was", "now"]:List Str) by decide +kernel) rfl (Or.inl rfl)) (zia (zja (i:=2) (show List.Nodup (["mark", "was", "now"]:List Str) by decide +kernel) rfl (Or.inl rfl)) zhb)))) (λ _ _ _ _ _=>zrc) (λ _ _ _ _ _=>(pv 0)) (λ _ _ _ _ _=>(zub (zaa (pv 1) (zaa (pv 2) zfa)))))
   (zda (zoc PassesOwn.leaving rfl (zib (pv 1)) (zkc rfl (zia (zja (i:=3) sc_q15.nd rfl (Or.inl rfl)) (zia (zja (i:=4) sc_q15.nd rfl (Or.inl rfl)) (zia (zja (i:=5) sc_q15.nd rfl (Or.inl rfl)) zhb)))) (zda (zxw (zdt (zif hr) (pv 2) (pv 3) (zub (zaa (pv 4) (zaa (pv 4) zfa)))) (zkc rfl (zia (zja (i:=6) sc_q15.nd rfl (Or.inl rfl)) (zia (zja (i:=7) sc_q15.nd rfl (Or.inl rfl)) zhb))))
   (zda (zkg (zbb (zqj hr.units) (pv 7) (pv 4) (zyb _)) (zha (zvi T.x_Unfit zze rfl rfl T.g_Unfit (zaa zfg zfa))) zdb)
   (zha (toS (zyd (zif hr) (pv 2) (pv 3) (zub (zaa (pv 6) (zaa (pv 5) zfa))) rfl) (show _=zgp P w K _ _ _ from rfl))))))
   (zha (zeb (zva G_q2 (hr.mono (by decide)) rfl T.g_q2 T.k_q2 B_q2 .nil zec (zaa (zwd ["mark", "was", "now"] 3 [] rfl (zib (zma (zcf rfl hr.u100) rfl T.n_sorted (by decide +kernel) (zaa (zzi (pv 2)) zfa))) gk12 (λ _ _ _ _ _=>zkc rfl (zia (zja (i:=0) (show List.Nodup (["mark", "was", "now"]:List Str) by decide +kernel) rfl (Or.inl rfl)) (zia (zkc rfl (zia (zja (i:=1) (show List.Nodup (["mark", "was", "now"]:List Str) by decide +kernel) rfl (Or.inl rfl)) (zia (zja (i:=2) (show List.Nodup (["mark", "was", "now"]:List Str) by decide +kernel) rfl (Or.inl rfl)) zhb))) zhb))) (λ _ _ _ _ _=>zrc) (λ _ _ _ _ _=>(zub (zaa (pv 0) (zaa (pv 1) (zaa (pv 2) zfa)))))) zfa)))))),?_⟩
  have hwl:ws.length=cs.length:=by rw [hw.length,List.length_map]
  have hzl:zs.length=ds.length:=by rw [hz.length,List.length_map]
  have fc:=okc.2.2.2
  have fd:=okd.2.2.2
  have nlm:∀ (o:Option (Option Ver×Option Ver)) (d:PyData),o.map prC=some d→noL d=true:=λ o d e=>by
   obtain ⟨z,_,rfl⟩:=Option.map_eq_some_iff.mp e
   exact zpo _
  refine ⟨_,rfl,p,rfl,⟨_,hp⟩,λ d o1 hd1=>zbm (n:=ws.length) (λ i=>ws.getD i .non) (λ i es H2=>Plain H2∧Same H H2∧es.length≤i∧(∃ ob,H2 d=some (dO P w d es ob))∧Tb K H2 es (λ k=>(zsb (cs.take i) k).map prC)) (sm1 ((by omega))) ⟨Plain.ext hP,zca hd1,Nat.le_refl _,⟨o1,upd_same⟩,Tb.nil⟩ (λ i es H2 _ ⟨_,s,l,⟨ob,hd⟩,t⟩=>⟨t.dm hd,l,s⟩) (zng hp) ?_ ?_⟩
  ·intro i es H2 Tt hi ⟨P2,S2,hel,⟨ob,hd2⟩,T2⟩ ht
   have hic:i<cs.length:=by omega
   obtain ⟨y,hy,hyd⟩:=hw.get (i:=i) (d:=chD cs[i]) (by rw [List.getElem?_map,List.getElem?_eq_getElem hic];rfl)
   obtain ⟨t,q0,va,vb,ey,hq,hm,h1,h2⟩:=zdv (DV.same S2 _ _ hyd)
   have eg:ws.getD i .non = .ref t:=by rw [List.getD_eq_getElem?_getD,hy,ey];rfl
   rw [eg]
   refine ⟨t,_,rfl,hq,rfl,_,_,rfl,_,_,rfl,_,_,rfl,rfl,?_⟩
   refine ⟨_,rfl,_,rfl,_,rfl,sz_2,λ tp hp3=>?_⟩
   have s3:Same H2 (upd H2 tp (.tup [va,vb])):=zca hp3
   have hpd:DV K (upd H2 tp (.tup [va,vb])) (prC cs[i].2) (.ref tp):=⟨tp,_,rfl,SqT.of upd_same,_,_,rfl,DV.same s3 _ _ h1,_,_,rfl,DV.same s3 _ _ h2,rfl⟩
   refine ht q0 cs[i].1 (.ref tp) _ (s3.seqT hm) ((T2.same s3).dm (s3 _ _ hd2)) λ o'=>?_
   have:=zqd es cs[i].1 q0 (.ref tp)
   refine ⟨Plain.ext P2.tup,λ b z e=>by rw [zga (zba e hd1)];exact s3 _ _ (S2 _ _ e),by omega,⟨o',upd_same⟩,?_⟩
   rw [show (λ k=>(zsb (cs.take (i+1)) k).map prC)=λ k=>if cs[i].1=k then some (prC cs[i].2) else (zsb (cs.take i) k).map prC from funext λ k=>by rw [zff okc.2.1 hic];split <;> rfl]
   exact ((T2.same s3).put (s3.seqT hm) hpd).upd (s3 _ _ hd2) λ k d e=>by
    split at e
    ·cases e;exact zpo _
    ·exact nlm _ _ e
  intro es H2 ⟨P2,S2,hel,⟨ob,hd2⟩,T2⟩
  rw [hwl,List.take_length] at T2
  refine ⟨_,rfl,l,rfl,⟨_,S2.seq hl⟩,zjc (K:=K) (a:=l) (xs:=zs) (λ i σ H3=>∃ (o3 o4 o5 o6 o7:Option V) (es:List Ent) (ob:Obj),σ=[some (.ref p),some (.ref l),some (.ref d),o3,o4,o5,o6,o7]∧Plain H3∧Same H H3∧H3 d=some (dO P w d es ob)∧es.length≤cs.length+i∧Tb K H3 es (λ k=>(zsc cs (ds.take i) k).map prC)∧Meet cs (ds.take i))
   ⟨_,_,_,_,_,es,ob,rfl,P2,S2,hd2,by omega,by rw [List.take_zero,funext λ k=>congrArg (Option.map prC) (zkp cs k)];exact T2,λ c hc=>by cases hc⟩ (λ i σ H2 _ ⟨_,_,_,_,_,_,_,_,_,s,_⟩=>s.seq hl) ?_ ?_⟩
  ·rintro i y σ H3 hy ⟨o3,o4,o5,o6,o7,es,ob,rfl,P3,S3,hd3,hel,T3,mt⟩
   have hi:i<ds.length:=by have:=(List.getElem?_eq_some_iff.mp hy).1;omega
   obtain ⟨y',hy',hyd⟩:=(DVs.same S3 _ _ hz).get (i:=i) (d:=chD ds[i]) (by rw [List.getElem?_map,List.getElem?_eq_getElem hi];rfl)
   rw [hy] at hy'
   cases hy'
   obtain ⟨t,q0,va,vb,rfl,ht,hm,h1,h2⟩:=zdv hyd
   have okk:=okd.1 _ (List.getElem_mem hi)
   refine ⟨t,_,rfl,ht,rfl,_,_,rfl,_,_,rfl,_,_,rfl,rfl,?_⟩
   refine ⟨_,rfl,d,es,rfl,T3.dm hd3,_,rfl,_,rfl,_,rfl,sz_2,λ tp hp4=>?_⟩
   generalize hH4:upd H3 tp (HO.tup _)=H4
   have s4:Same H3 H4:=hH4 ▸ zca hp4
   have P4:Plain H4:=hH4 ▸ P3.tup
   have h4:=(congrFun hH4 tp).symm.trans upd_same
   have T4:=T3.same s4
   have hm4:=s4.seqT hm
   refine ⟨q0,ds[i].1,rfl,T4.dm (s4 _ _ hd3),hm4,?_⟩
   have ef:zsc cs (ds.take i) ds[i].1=zsb cs ds[i].1:=by
    unfold zsc
    rw [zwk okd.2.1 hi]
    cases zsb cs ds[i].1 <;> rfl
   obtain ⟨x,z,a,b,ex,hx,ha,hb,ok1,ok2,ev,em⟩:∃ (x:Addr) (z:Option Ver×Option Ver) (a b:V),(zab es ds[i].1).getD (.ref tp) = .ref x∧SqT K H4 x [a,b]∧DV K H4 (vdat z.1) a∧DV K H4 (vdat z.2) b∧okO z.1∧okO z.2∧flwV cs ds[i]=(z.1,ds[i].2.2)∧(z.2=ds[i].2.1 ↔ ∀ y,zsb cs ds[i].1=some y→y.2=ds[i].2.1):=by
    unfold flwV
    cases hf:zsb cs ds[i].1 with
    | none =>
     rw [T4.miss (show (zsc cs (ds.take i) ds[i].1).map prC=none by rw [ef,hf];rfl)]
     exact ⟨tp,(ds[i].2.1,ds[i].2.1),va,va,rfl,SqT.of h4,DV.same s4 _ _ h1,DV.same s4 _ _ h1,okk.1,okk.1,rfl,⟨λ _ y e=>(by cases e),λ _=>rfl⟩⟩
    | some z =>
     obtain ⟨x,ex,hx⟩:=T4.hit (k:=ds[i].1) (d:=prC z) (by rw [ef,hf];rfl)
     rw [ex]
     obtain ⟨u,vs,rfl,hu,v1,r1,rfl,e1,v2,r2,rfl,e2,e3⟩:=hx
     cases (show r2=[] from e3)
     have okz:=okc.1 _ (zra hf)
     exact ⟨u,z,v1,v2,rfl,hu,e1,e2,okz.1,okz.2,rfl,⟨λ e y ey=>(by cases ey;exact e),λ h=>h z rfl⟩⟩
   rw [ex]
   refine ⟨x,_,rfl,hx,rfl,_,_,rfl,_,_,rfl,rfl,?_⟩
   refine ⟨_,rfl,_,rfl,vdat z.2,vdat ds[i].2.1,hb,DV.same s4 _ _ h1,zya ok2,zya okk.1,_,rfl,?_⟩
   rw [zqg]
   by_cases e:z.2=ds[i].2.1
   ·rw [decide_eq_true e]
    refine iteF ?_
    refine ⟨_,rfl,_,rfl,sz_2,λ tq hp5=>?_⟩
    generalize hH5:upd H4 tq (HO.tup _)=H5
    have s5:Same H4 H5:=hH5 ▸ zca hp5
    have P5:Plain H5:=hH5 ▸ P4.tup
    have h5:=(congrFun hH5 tq).symm.trans upd_same
    have T5:=T4.same s5
    have hd5:=s5 _ _ (s4 _ _ hd3)
    refine ⟨_,rfl,_,rfl,d,es,q0,ds[i].1,rfl,T5.dm hd5,rfl,s5.seqT hm4,zoa (by omega),λ o'=>?_⟩
    have:=zqd es ds[i].1 q0 (.ref tq)
    have hpd:DV K H5 (prC (flwV cs ds[i])) (.ref tq):=by
     rw [ev]
     exact ⟨tq,_,rfl,SqT.of h5,_,_,rfl,DV.same s5 _ _ ha,_,_,rfl,DV.same (s4.trans s5) _ _ h2,rfl⟩
    refine ⟨_,_,_,_,_,putM es ds[i].1 q0 (.ref tq),o',rfl,Plain.ext P5,λ b z e=>by rw [zga (zba e hd1)];exact ((S3.trans s4).trans s5) _ _ e,upd_same,by omega,?_,λ c hc=>?_⟩
    ·rw [show (λ k=>(zsc cs (ds.take (i+1)) k).map prC)=λ k=>if ds[i].1=k then some (prC (flwV cs ds[i])) else (zsc cs (ds.take i) k).map prC from funext λ k=>by rw [zwu okd.2.1 hi];split <;> rfl]
     exact (T5.put (s5.seqT hm4) hpd).upd hd5 λ k d e=>by
      split at e
      ·cases e;exact zpo _
      ·exact nlm _ _ e
    ·rw [List.take_succ_eq_append_getElem hi] at hc
     rcases List.mem_append.mp hc with hc | hc
     ·exact mt c hc
     ·rw [List.mem_singleton.mp hc];exact em.mp e
   ·rw [decide_eq_false e]
    refine iteT ?_
    exact ⟨sz_1,qe (λ f=>e (em.mpr (f _ (List.getElem_mem hi)))) _ (S3.trans s4) P4⟩
  rintro σ H3 ⟨o3,o4,o5,o6,o7,es,ob,rfl,P3,S3,hd3,hel,T3,mt⟩
  rw [hzl,List.take_length] at T3 mt
  refine ⟨_,rfl,d,es,ob,rfl,hd3,λ v hv=>?_⟩
  have sv:Same H3 (upd H3 v (zmv v d)):=zca hv
  have Tv:=T3.same sv
  have mem:∀ k,k∈es.map (·.1)↔zsc cs ds k≠none:=λ k=>(T3.mem k).trans (not_congr Option.map_eq_none_iff)
  have els:es.length<64:=Nat.lt_of_le_of_lt (T3.len (U:=U) λ k hk=>zm2 uc ud ((mem k).mp ((T3.mem k).mpr hk))) fu
  refine ⟨v,d,es,ob,λ m=>((zsc cs ds m).map prC).getD .none,rfl,upd_same,sv _ _ hd3,Tv.ky,λ e h=>?_,λ e h=>?_,T3.nd,els,λ H' sl bs ws2 s' p' hsl pm pw hw2=>?_⟩
  ·obtain ⟨x,e1,e2⟩:=Tv.ent h
   have e1:(zsc cs ds e.1).map prC=some x:=e1
   show DV K _ (((zsc cs ds e.1).map prC).getD .none) _
   rw [e1]
   exact e2
  ·obtain ⟨x,e1,e2⟩:=Tv.ent h
   obtain ⟨z,e3,rfl⟩:=Option.map_eq_some_iff.mp (show (zsc cs ds e.1).map prC=some x from e1)
   show SeqAt.shaped (.tuple [L2.markD e.1,((zsc cs ds e.1).map prC).getD .none])=true
   rw [e3]
   exact zxl (ziw okc okd e3)
  have S5:=sv.trans (s'.trans (zca (o := .lst ws2) hsl))
  have P5:Plain (upd H' sl (.lst ws2)):=(p' (Plain.ext P3)).lst
  have h5:(upd H' sl (.lst ws2)) sl=some (.lst ws2):=upd_same
  have hw5:=DVs.same (zca (o := .lst ws2) hsl) _ _ hw2
  generalize upd H' sl (.lst ws2)=H5 at S5 P5 h5 hw5 ⊢
  have hbl:bs.length=es.length:=by rw [pm.length_eq,List.length_map]
  have hwl2:ws2.length=bs.length:=by rw [hw5.length,List.length_map]
  have memb:∀ k,k∈bs↔zsc cs ds k≠none:=λ k=>pm.mem_iff.trans (mem k)
  refine ⟨sl,rfl,⟨_,SqL.of h5⟩,λ D hD=>zpd (λ i=>ws2.getD i .non) (λ i y H=>DV K H (chD (flwC cs ds (bs.getD i (0,0)))) y) hD P5 (n:=ws2.length) (sm1 ((by omega))) (zng (SqL.of h5)) ?_ ?_ ?_⟩
  ·exact λ i y Ha Hb h k hz=>DV.mono k hz _ _ (zbq _) h
  ·intro i H6 R hi P6 S6 hR
   have hic:i<bs.length:=by omega
   obtain ⟨y,hy,hyd⟩:=hw5.get (i:=i) (d:=zcl (λ m=>((zsc cs ds m).map prC).getD .none) bs[i]) (by rw [List.getElem?_map,List.getElem?_eq_getElem hic];rfl)
   have ec:bs.getD i (0,0)=bs[i]:=by rw [List.getD_eq_getElem?_getD,List.getElem?_eq_getElem hic];rfl
   rw [ec] at hR
   obtain ⟨z,ez⟩:=Option.ne_none_iff_exists'.mp ((memb _).mp (List.getElem_mem hic))
   unfold flwC at hR
   rw [ez] at hR
   obtain ⟨t,q0,x,rfl,ht,hm,hx⟩:∃ t q0 x,y = .ref t∧SqT K H6 t [.ref q0,x]∧SqT K H6 q0 (mkV bs[i])∧DV K H6 (prC z) x:=by
    obtain ⟨t,vs,rfl,hq,v1,r1,rfl,e1,v2,r2,rfl,e2,e3⟩:=DV.same S6 _ _ hyd
    cases (show r2=[] from e3)
    obtain ⟨q0,rfl,hm⟩:=zed e1
    have e2:DV K H6 (((zsc cs ds bs[i]).map prC).getD .none) v2:=e2
    rw [ez] at e2
    exact ⟨t,q0,v2,rfl,hq,hm,e2⟩
   obtain ⟨u,vs,rfl,hu,v1,r1,rfl,e1,v2,r2,rfl,e2,e3⟩:=hx
   cases (show r2=[] from e3)
   have eg:ws2.getD i .non = .ref t:=by rw [List.getD_eq_getElem?_getD,hy];rfl
   rw [eg]
   refine ⟨t,_,rfl,ht,rfl,_,_,rfl,_,_,rfl,u,_,rfl,hu,rfl,_,_,rfl,_,_,rfl,rfl,rfl,?_⟩
   refine ⟨_,rfl,_,rfl,_,rfl,sz_3,λ t2 hp7=>?_⟩
   have s7:Same H6 (upd H6 t2 (.tup [.ref q0,v1,v2])):=zca hp7
   exact hR _ _ (zc2 (c:=(bs[i],z)) (SqT.of upd_same) (s7.seqT hm) (DV.same s7 _ _ e1) (DV.same s7 _ _ e2)) s7 P6.tup
  ·intro zs2 H6 hzl2 hzs hD6 S6 P6
   have S36:=S3.trans (S5.trans S6)
   have okl:∀ c∈bs.map (flwC cs ds),okCh c:=λ c hc=>by
    obtain ⟨k,hk,rfl⟩:=List.mem_map.mp hc
    obtain ⟨z,ez⟩:=Option.ne_none_iff_exists'.mp ((memb k).mp hk)
    unfold flwC
    rw [ez]
    exact ziw okc okd ez
   refine ⟨P6,D,zs2,bs.map (flwC cs ds),rfl,SqL.of hD6,DVs.of (f:=chD) (by rw [hzl2,hwl2,List.length_map]) (λ i v c hv hc=>?_),okl,by rw [List.length_map];omega,λ l2 zs3 H7 n7 s7 P7 hl7 hw7=>q mt l2 zs3 _ H7 (S36.free n7) (S36.trans s7) P7 hl7 hw7 ⟨λ c hc=>okl c (List.mem_filter.mp hc).1,(zvr pw memb).1,λ k hk=>?_,?_⟩ (zvr pw memb)⟩
   ·have h1:=hzs i v hv
    rw [List.getElem?_map] at hc
    have hic:i<bs.length:=by
     have:=(List.getElem?_eq_some_iff.mp hv).1
     omega
    rw [List.getElem?_eq_getElem hic] at hc
    cases hc
    rw [List.getD_eq_getElem?_getD,List.getElem?_eq_getElem hic] at h1
    exact h1
   ·obtain ⟨c,hc,rfl⟩:=List.mem_map.mp hk
    obtain ⟨m,hm,rfl⟩:=List.mem_map.mp (List.mem_filter.mp hc).1
    refine Classical.byContradiction λ nb=>(memb m).mp hm ?_
    unfold zsc
    rw [show zsb cs m=none from Option.eq_none_iff_forall_ne_some.mpr λ z e=>nb (okc.2.2.1 m (List.mem_map.mpr ⟨(m,z),zra e,rfl⟩)),show zsb ds m=none from Option.eq_none_iff_forall_ne_some.mpr λ z e=>nb (okd.2.2.1 m (List.mem_map.mpr ⟨(m,z),zra e,rfl⟩))]
   ·have:=List.length_filter_le difB (bs.map (flwC cs ds))
    rw [List.length_map] at this
    omega
theorem sc_q6:FnScope ["_law_cell", "_law_place", "_law_found", "_law_seed", "_law_k"] ["_law_cell", "_law_place"] (zka s_q6):=by walk_at "sc"
theorem zu4 (T:Txt K mg A)  : zdz P w K mg B A:=by
 refine zko (T.F_q6.okN sc_q6 (λ vs H Q E h=>?_) (λ _ _ _ _ H vs Q E hr h=>?_))
 ·obtain ⟨_,a,rfl,_⟩:=h
  rfl
 ·obtain ⟨hp,⟨c,p⟩,rfl,q⟩:=h
  refine ⟨_,(zda (zpa (i:=2) sc_q6.nd rfl (Or.inl rfl) (zgl zfa))
   (zda (zkg (zgu zb3 zb3 (zna zhi zea zea) (pv 0) zea) (zda (zpa (i:=3) sc_q6.nd rfl (Or.inl rfl) (zna zmb (zna zol (zna zmb (zna zcb (pv 0) zea) zea) zea) (zna zol (zna zmb (zna zcb (pv 1) zea) zea) zea)))
   (zda (zoc PassesOwn.never rfl (zcc rfl T.n_range (zaa zea zfa)) (zja (i:=4) sc_q6.nd rfl (Or.inl rfl)) (zda (zpa (i:=3) sc_q6.nd rfl (Or.inl rfl) (zna zcb (zna zol (pv 3) zea) zea))
   (zha (zzd (zku PySem.F.plainAttrs_list PySem.F.slot_list_append PySem.F.type_list_append zob (pv 2) (zaa (zna zcb (zna zpc (pv 3) zea) zea) zfa))))))
   (zha (zeb (pv 2))))) zdb)
   (zda (zpa (i:=3) sc_q6.nd rfl (Or.inl rfl) (zna zcb (pv 0) (zna znu zea zea)))
   (zda (zoc PassesOwn.never rfl (zcc rfl T.n_range (zaa zea zfa)) (zja (i:=4) sc_q6.nd rfl (Or.inl rfl)) (zda (zzd (zku PySem.F.plainAttrs_list PySem.F.slot_list_append PySem.F.type_list_append zob (pv 2) (zaa (zna zcb (pv 3) zea) zfa)))
   (zha (zpa (i:=3) sc_q6.nd rfl (Or.inl rfl) (zna zpc (pv 3) zea)))))
   (zha (zeb (pv 2))))))),?_⟩
  refine ⟨Nat.zero_le _,λ l hl=>?_⟩
  refine ⟨_,_,rfl,rfl,_,rfl,_,_,rfl,rfl,_,rfl,?_⟩
  refine zpq (λ h1=>⟨_,_,rfl,rfl,_,rfl,zpq (λ h2 => ?a) (λ h2 => ?b1)⟩) (λ h1=>⟨_,rfl,iteF ?b2⟩)
  case a =>
   walk_at "rd"
   refine ⟨by decide,by decide,zzc (n:=8) (λ i σ H2=>∃ (seed:Int) (ds:List Int) (k:Option V),σ=[some (.int c),some (.int p),some (.ref l),some (.int seed),k]∧H2=upd H l (.lst (ds.map V.int))∧ds.length=i∧∀ d∈ds,Dig d)
    ⟨_,[],_,rfl,rfl,rfl,λ _ z=>nomatch z⟩ ?_ ?_⟩
   ·rintro i σ H2 hi ⟨seed,ds,k,rfl,rfl,hlen,hd⟩
    walk_at "rd"
    refine ⟨.inl ⟨rfl,_,SqL.of upd_same⟩,?_⟩
    walk_at "rd"
    refine ⟨l,_,_,rfl,rfl,upd_same,zoa (by rw [List.length_map];omega),?_⟩
    refine ⟨_,ds++[_],_,rfl,by rw [zcn,List.map_append];rfl,by simp [hlen],λ d hd'=>?_⟩
    rcases List.mem_append.mp hd' with z | z
    ·exact hd d z
    ·rw [List.mem_singleton.mp z];exact zbt _
   ·rintro σ H2 ⟨seed,ds,k,rfl,rfl,hlen,hd⟩
    refine ⟨_,rfl,?_⟩
    exact q l _ _ hl upd_same (zd3 hlen hd) (zca hl)
  case b1 | b2 =>
   walk_at "rd"
   refine ⟨by decide,by decide,zzc (n:=8) (λ i σ H2=>∃ (seed:Int) (ds:List Int) (k:Option V),σ=[some (.int c),some (.int p),some (.ref l),some (.int seed),k]∧H2=upd H l (.lst (ds.map V.int))∧ds.length=i∧∀ d∈ds,Dig d)
    ⟨_,[],_,rfl,rfl,rfl,λ _ z=>nomatch z⟩ ?_ ?_⟩
   ·rintro i σ H2 hi ⟨seed,ds,k,rfl,rfl,hlen,hd⟩
    walk_at "rd"
    refine ⟨.inl ⟨rfl,_,SqL.of upd_same⟩,?_⟩
    walk_at "rd"
    refine ⟨l,_,_,rfl,rfl,upd_same,zoa (by rw [List.length_map];omega),?_⟩
    walk_at "rd"
    refine ⟨_,ds++[_],_,rfl,by rw [zcn,List.map_append];rfl,by simp [hlen],λ d hd'=>?_⟩
    rcases List.mem_append.mp hd' with z | z
    ·exact hd d z
    ·rw [List.mem_singleton.mp z];exact zbt _
   ·rintro σ H2 ⟨seed,ds,k,rfl,rfl,hlen,hd⟩
    refine ⟨_,rfl,?_⟩
    exact q l _ _ hl upd_same (zd3 hlen hd) (zca hl)
theorem sc_q9:FnScope ["_law_small"] [] (zka s_q9):=by walk_at "sc"
theorem zo4 (T:Txt K mg A)  : zg3 P w K mg B A:=by
 refine FnOk.pure (T.F_q9.okN sc_q9 (λ vs H Q E h=>?_) (λ _ _ _ _ H vs Q E hr h=>?_))
 ·obtain ⟨_,a,rfl,_⟩:=h
  rfl
 ·obtain ⟨hp,_,rfl,q⟩:=h
  refine ⟨_,(zda (zpa (i:=0) sc_q9.nd rfl (Or.inl rfl) zfg)
   (zha (zeb (zna zyc (zna zyc (zna zyc (zna zyc zfg (zb2 PySem.F.plainAttrs_str PySem.F.slot_str_upper PySem.F.type_str_upper ziv (pv 0))) zfg) (pv 0)) zfg)))),?_⟩
  refine ⟨_,rfl,rfl,⟨_,rfl,rfl,by decide +kernel,?_⟩⟩
  refine ⟨_,_,rfl,rfl,by decide +kernel,_,_,rfl,rfl,by decide +kernel,?_⟩
  refine ⟨_,rfl,_,_,rfl,rfl,by decide +kernel,_,_,rfl,rfl,by decide +kernel,?_⟩
  exact q _ _ rfl (Same.refl _)
theorem sc_q10:FnScope ["_law_one", "_law_other", "_law_signs_here"] ["_law_one", "_law_other"] (zka zhz):=by walk_at "sc"
theorem zzz (T:Txt K mg A) (G_q9:zg3 P w K mg B A):zsx P w K mg B A:=by
 have B_q9:=T.b_q9
 refine FnOk.pure (T.F_q10.okN sc_q10 (λ vs H Q E h=>?_) (λ _ _ _ _ H vs Q E hr h=>?_))
 ·obtain ⟨_,a,rfl,_⟩:=h
  rfl
 ·obtain ⟨hp,⟨one,other⟩,rfl,q⟩:=h
  refine ⟨_,(zda (zpa (i:=2) sc_q10.nd rfl (Or.inr rfl) (zbv G_q9 (hr.mono (by decide)) rfl T.g_q9 T.k_q9 B_q9 .nil zec))
   (zha (zeb (zku PySem.F.plainAttrs_str PySem.F.slot_str_join PySem.F.type_str_join zlw zfg (zaa (zwd ["_law_k", "_law_one", "_law_other", "_law_signs_here"] 1 [0,1,2] rfl (zcc rfl T.n_range (zaa (zna zcb (pv 1) zea) zfa)) gk1 (λ _ _ _ _ _=>zja (i:=0) (show List.Nodup (["_law_k", "_law_one", "_law_other", "_law_signs_here"]:List Str) by decide +kernel) rfl (Or.inl rfl)) (λ _ _ _ _ _=>zrc) (λ _ _ _ _ _=>(zkb zu1 (pv 3) (zna zcb (zna zmb (pv 1) (zna zol (pv 0) (zna zmb (zna zpc (pv 2) zea) zea))) zea) (λ _ _=>rfl)))) zfa))))),?_⟩
  refine ⟨hp,(),rfl,λ v hv=>?_⟩
  subst hv
  refine ⟨rfl,?_⟩
  walk_at "rd"
  have h7:=Int.emod_nonneg other (show (7:Int)≠0 by decide)
  have h8:=Int.emod_lt_of_pos other (show (0:Int)<7 by decide)
  have hk:(other % 7).toNat≤1000:=by omega
  refine ⟨by omega,by omega,λ D hD=>zyo (λ k=>.str ⟨#[SIGNS.cps.toList.getD ((one+(0+(k:Int)) * (other / 7+1)) % 94).toNat 0]⟩) (sm1 (hk)) ?_ ?_⟩
  ·intro i H2 R hi hR
   walk_at "rd"
   refine ⟨Or.inl ⟨by omega,by omega⟩,?_⟩
   walk_at "rd"
   refine ⟨_,_,_,rfl,rfl,by decide +kernel,zh1 (Int.emod_nonneg _ (by decide)) ?_,hR _ rfl⟩
   have e:SIGNS.cps.toList.length=94:=by have:=zdr;simpa [Str.length] using this
   rw [e]
   exact Int.emod_lt_of_pos _ (by decide)
  ·refine ⟨_,D,(List.range (other % 7).toNat).map λ (k:Nat)=>⟨#[SIGNS.cps.toList.getD ((one+(0+(k:Int)) * (other / 7+1)) % 94).toNat 0]⟩,rfl,rfl,SqL.of (by rw [upd_same,List.map_map];rfl),?_,?_⟩
   ·rw [zdm λ _=>rfl]
    show (other % 7).toNat+_ * 0≤16777216
    omega
   ·refine q _ _ ⟨_,rfl,?_,?_⟩ (zca hD)
    ·have:=zqq ((List.range (other % 7).toNat).map λ (k:Nat)=>(⟨#[SIGNS.cps.toList.getD ((one+(0+(k:Int)) * (other / 7+1)) % 94).toNat 0]⟩:Str))
     rw [zdm λ _=>rfl] at this
     have e:(⟨#[]⟩:Str) = "" := rfl
     rw [e] at this
     omega
    ·refine zpu (by decide +kernel) λ p hp=>?_
     obtain ⟨k,_,rfl⟩:=List.mem_map.mp hp
     have:=zst ((one+(0+(k:Int)) * (other / 7+1)) % 94).toNat
     simpa using this
theorem sc_q3:FnScope ["_law_some", "_law_beat", "_law_steps", "_law_k"] ["_law_some"] (zka s_q3):=by walk_at "sc"
theorem zb4 (T:Txt K mg A) (G_q10:zsx P w K mg B A):zz1 P w K mg B A:=by
 have B_q10:=T.b_q10
 refine T.F_q3.okN sc_q3 (λ vs H Q E h=>?_) (λ _ _ _ _ H vs Q E hr h=>?_)
 ·obtain ⟨_,a,⟨rfl,_⟩,_⟩:=h
  rfl
 ·obtain ⟨hp,l,⟨rfl,hd⟩,q,_⟩:=h
  obtain ⟨d0,d1,d2,d3,d4,d5,d6,d7,hl,e0,e1,e2,e3,e4,e5,e6,e7⟩:=hd
  refine ⟨_,(zda (zpa (i:=1) sc_q3.nd rfl (Or.inl rfl) (zna zmb (zna zmb zea (zna zcb (zkb zla (pv 0) zea (λ _ _=>rfl)) zea)) (zna zol (zna zcb (zna zpc (zkb zla (pv 0) zea (λ _ _=>rfl)) zea) zea) (zna znu zea zea))))
   (zda (zkg (zbb zwt (zna zcb (zkb zla (pv 0) zea (λ _ _=>rfl)) zea) zea (zyb _)) (zha (zeb (zub (zaa (pv 1) (zaa (zub zfa) (zaa zfg zfa)))))) zdb)
   (zda (zpa (i:=2) sc_q3.nd rfl (Or.inl rfl) (zgl (zaa (zub (zaa (zna zhi (zna zcb (zkb zla (pv 0) zea (λ _ _=>rfl)) zea) zea) (zaa (zna zcb (zkb zla (pv 0) zea (λ _ _=>rfl)) zea) (zaa (zna zmb zea (zna zcb (zna zpc (zkb zla (pv 0) zea (λ _ _=>rfl)) zea) zea)) zfa)))) zfa)))
   (zda (zoc PassesOwn.never rfl (zcc rfl T.n_range (zaa (zna zcb (zna zpc (zkb zla (pv 0) zea (λ _ _=>rfl)) zea) zea) zfa)) (zja (i:=3) sc_q3.nd rfl (Or.inl rfl)) (zha (zzd (zku PySem.F.plainAttrs_list PySem.F.slot_list_append PySem.F.type_list_append zob (pv 2) (zaa (zub (zaa (zna zhi (zna zcb (zna zpc (zkb zla (pv 0) zea (λ _ _=>rfl)) (zna zmb (pv 3) zea)) zea) zea) (zaa (zna zmb zea (zna zcb (zna zpc (zkb zla (pv 0) zea (λ _ _=>rfl)) (zna zmb (pv 3) zea)) zea)) (zaa (zna zmb zea (zna zcb (zna zpc (zkb zla (pv 0) zea (λ _ _=>rfl)) (zna zmb (pv 3) zea)) zea)) zfa)))) zfa)))))
   (zha (zeb (zub (zaa (pv 1) (zaa (zmc zzh rfl T.n_tuple (by decide +kernel) (zaa (pv 2) zfa)) (zaa (zva G_q10 (hr.mono (by decide)) rfl T.g_q10 T.k_q10 B_q10 .nil zec (zaa (zkb zla (pv 0) zea (λ _ _=>rfl)) (zaa (zkb zla (pv 0) zea (λ _ _=>rfl)) zfa))) zfa)))))))))),?_⟩
  unfold Dig at *
  walk_at "rd"
  refine ⟨rfl,_,rfl,zpq (λ _ => ?a) (λ _ => ?b)⟩
  case a =>
   dsimp only
   generalize 1+d2 % 50+d2 / 50 % 2 * 10 ^ Int.toNat 15=b
   refine ⟨_,rfl,sz_0,λ te hp2=>?_⟩
   generalize hH2:upd H te (HO.tup _)=H2
   have s2:Same H H2:=hH2 ▸ zca hp2
   have P2:Plain H2:=hH2 ▸ hp.tup
   have h2:=(congrFun hH2 te).symm.trans upd_same
   refine ⟨sz_3,λ t hp3=>?_⟩
   generalize hH3:upd H2 t (HO.tup _)=H3
   have s3:Same H2 H3:=hH3 ▸ zca hp3
   have P3:Plain H3:=hH3 ▸ P2.tup
   have h3:=(congrFun hH3 t).symm.trans upd_same
   exact q _ _ ⟨(b,[], ""),zqt (v:=(b,[], "")) (SqT.of h3) (DV.same s3 _ _ (zfu h2)),zd0 "",by show 0≤6;decide⟩ (s2.trans s3) P3
  case b =>
   dsimp only
   generalize 1+d2 % 50+d2 / 50 % 2 * 10 ^ Int.toNat 15=b
   walk_at "rd"
   refine ⟨sz_3,λ t1 hp1=>?_⟩
   dsimp only
   generalize d4 % 3 - 1=r1
   generalize d5 % 3=r2
   generalize 1+d5 / 3 % 3=r3
   generalize hH1:upd H t1 (HO.tup _)=H1
   have s1:Same H H1:=hH1 ▸ zca hp1
   have P1:Plain H1:=hH1 ▸ hp.tup
   have h1:=(congrFun hH1 t1).symm.trans upd_same
   refine ⟨sz_1,λ st hp4=>?_⟩
   have S4:Same H1 (upd H1 st (.lst [.ref t1])):=zca hp4
   have hl1:=s1 _ _ hl
   have hl4:=S4 _ _ hl1
   have z1:=Int.emod_nonneg (d4 / 3) (show (3:Int)≠0 by decide)
   have z2:=Int.emod_lt_of_pos (d4 / 3) (show (0:Int)<3 by decide)
   refine ⟨_,rfl,_,_,_,_,rfl,rfl,SqL.of hl4,rfl,_,_,rfl,rfl,⟨by decide,by decide⟩,_,_,rfl,rfl,ip_3,_,rfl,by omega,by omega,zzc (lo:=0) (n:=(d4 / 3 % 3).toNat) (λ i σ H2=>∃ (k:Option V) (xs:List V) (ss:List Stp),σ=[some (.ref l),some (.int b),some (.ref st),k]∧Plain H2∧Same H1 H2∧H2 st=some (.lst xs)∧DVs K H2 (ss.map stp) xs∧ss.length=i+1)
    ⟨_,[.ref t1],[(r1,r2,r3)],rfl,P1.lst,S4,upd_same,⟨_,_,rfl,zzw (SqT.of (S4 _ _ h1)),rfl⟩,rfl⟩ ?_ ?_⟩
   ·rintro i σ H2 hi ⟨k,xs,ss,rfl,hP2,hs2,hst,hds,hi2⟩
    have hl2:=hs2 _ _ hl1
    have hxl:xs.length=i+1:=by rw [hds.length,List.length_map];exact hi2
    have hi3:i≤2:=by omega
    refine ⟨_,rfl,.inl ⟨rfl,_,SqL.of hst⟩,?_⟩
    refine ⟨_,rfl,_,_,_,_,rfl,rfl,SqL.of hl2,rfl,_,rfl,_,_,rfl,rfl,_,_,rfl,rfl,⟨by show (0:Int)<0+(i:Int)+2;omega,by show 0+(i:Int)+2<1073741824;omega⟩,_,_,rfl,rfl,ip_3,_,_,rfl,rfl,?_⟩
    refine ⟨_,rfl,_,_,_,_,rfl,rfl,SqL.of hl2,rfl,_,rfl,_,_,rfl,rfl,_,_,rfl,rfl,⟨by show (0:Int)<0+(i:Int)+3;omega,by show 0+(i:Int)+3<1073741824;omega⟩,_,_,rfl,rfl,ip_2,_,_,rfl,rfl,?_⟩
    refine ⟨_,rfl,_,_,_,_,rfl,rfl,SqL.of hl2,rfl,_,rfl,_,_,rfl,rfl,_,_,rfl,rfl,⟨by show (0:Int)<0+(i:Int)+5;omega,by show 0+(i:Int)+5<1073741824;omega⟩,_,_,rfl,rfl,ip_3,_,_,rfl,rfl,sz_3,λ t hp5=>?_⟩
    dsimp only
    generalize d6 / (0+(i:Int)+2) % 3 - 1=q1
    generalize 1+d6 / (0+(i:Int)+3) % 2=q2
    generalize 1+d6 / (0+(i:Int)+5) % 3=q3
    generalize hH5:upd H2 t (HO.tup _)=H5
    have s5:Same H2 H5:=hH5 ▸ zca hp5
    have P5:Plain H5:=hH5 ▸ hP2.tup
    have h5:=(congrFun hH5 t).symm.trans upd_same
    have hst5:=s5 _ _ hst
    refine ⟨st,_,_,rfl,rfl,hst5,zoa (by omega),?_⟩
    refine ⟨_,xs++[.ref t],ss++[(q1,q2,q3)],rfl,P5.lst,?_,upd_same,?_,by simp [hi2]⟩
    ·exact λ b' o' e=>by rw [zga (zba e hp4)];exact s5 _ _ (hs2 b' o' e)
    ·rw [List.map_append]
     refine DVs.mono (D:=st) (λ b' o' hb' e=>by rw [zga hb'];exact e) ⟨_,hst5⟩ _ _ (by rw [← List.map_singleton,← List.map_append];exact zkj _) ?_
     exact (DVs.same s5 _ _ hds).append ⟨_,_,rfl,zzw (SqT.of h5),rfl⟩
   ·rintro σ H2 ⟨k,xs,ss,rfl,hP2,hs2,hst,hds,hi2⟩
    have hl2:=hs2 _ _ hl1
    refine ⟨_,rfl,_,rfl,st,xs,rfl,.inl ⟨SqL.of hst,λ pt hp6=>?_⟩⟩
    generalize hH6:upd H2 pt (HO.tup _)=H6
    have s6:Same H2 H6:=hH6 ▸ zca hp6
    have P6:Plain H6:=hH6 ▸ hP2.tup
    have h6:=(congrFun hH6 pt).symm.trans upd_same
    have hl6:=s6 _ _ hl2
    refine ⟨_,rfl,_,_,_,_,rfl,rfl,SqL.of hl6,rfl,_,rfl,_,_,_,_,rfl,rfl,SqL.of hl6,rfl,P6,(d6,d7),rfl,λ v hv=>?_⟩
    obtain ⟨z,rfl,hz,hok⟩:=hv
    refine ⟨sz_3,λ t hp7=>?_⟩
    generalize hH7:upd H6 t (HO.tup _)=H7
    have s7:Same H6 H7:=hH7 ▸ zca hp7
    have P7:Plain H7:=hH7 ▸ P6.tup
    have h7:=(congrFun hH7 t).symm.trans upd_same
    refine q _ _ ⟨(b,ss,z),zqt (v:=(b,ss,z)) (SqT.of h7) ⟨pt,xs,rfl,SqT.of (s7 _ _ h6),DVs.same (s6.trans s7) _ _ hds⟩,hok,hz⟩ (((s1.trans hs2).trans s6).trans s7) P7
theorem sc_q8:FnScope ["_law_cells", "_law_found", "_law_marks", "_law_j", "_law_cell", "_law_some", "_law_mark"] ["_law_cells"] (zka s_q8):=by walk_at "sc"
theorem zq3 (T:Txt K mg A) (G_q6:zdz P w K mg B A) (G_q3:zz1 P w K mg B A):zw2 P w K mg B A:=by
 have B_q6:=T.b_q6
 have B_q3:=T.b_q3
 refine T.F_q8.okN sc_q8 (λ vs H Q E h=>?_) (λ _ _ _ _ H vs Q E hr h=>?_)
 ·obtain ⟨_,c,xs,rfl,_⟩:=h
  rfl
 ·obtain ⟨hP,c,xs,rfl,hc,hxl,hxi,q⟩:=h
  refine ⟨_,(zda (zpa (i:=1) sc_q8.nd rfl (Or.inl rfl) (zgl zfa))
   (zda (zpa (i:=2) sc_q8.nd rfl (Or.inl rfl) (toE zrh (show _=zxv P w from rfl)))
   (zda (zoc PassesOwn.never rfl (zas rfl T.n_enumerate (by decide +kernel) (zaa (pv 0) zfa)) (zkc rfl (zia (zja (i:=3) sc_q8.nd rfl (Or.inl rfl)) (zia (zja (i:=4) sc_q8.nd rfl (Or.inl rfl)) zhb))) (zda (zpa (i:=5) sc_q8.nd rfl (Or.inl rfl) (zva G_q6 (hr.mono (by decide)) rfl T.g_q6 T.k_q6 B_q6 .nil zec (zaa (pv 4) (zaa (pv 3) zfa))))
   (zda (zpa (i:=6) sc_q8.nd rfl (Or.inl rfl) (zub (zaa (zna zcb (zkb zla (pv 5) zea (λ _ _=>rfl)) zea) (zaa (zna zmb zea (zna zcb (zkb zla (pv 5) zea (λ _ _=>rfl)) zea)) zfa))))
   (zha (zkg (zbb (zwj (zif hr)) (pv 6) (pv 2) (by rfl)) (zda (toS (zyd (zif hr) (pv 2) (pv 6) zcv rfl) (show _=zgp P w K _ _ _ from rfl))
   (zha (zzd (zku PySem.F.plainAttrs_list PySem.F.slot_list_append PySem.F.type_list_append zob (pv 1) (zaa (zub (zaa (pv 6) (zaa (zva G_q3 (hr.mono (by decide)) rfl T.g_q3 T.k_q3 B_q3 .nil zec (zaa (pv 5) zfa)) zfa))) zfa))))) zdb)))))
   (zha (zeb (pv 1)))))),?_⟩
  refine ⟨Nat.zero_le _,λ fl hfl=>?_⟩
  intro mk o hmk
  have s1:Same H (upd (upd H fl (.lst [])) mk (dO P w mk [] o)):=(zca hfl).trans (zca hmk)
  have hmk0:H mk=none:=(zca hfl).free hmk
  have nfm:fl≠mk:=zba upd_same hmk
  refine ⟨_,rfl,c,rfl,⟨_,SqL.of (s1 _ _ hc)⟩,?_⟩
  refine zvo (K:=K) (a:=c) (xs:=xs) (λ i σ H2=>∃ o1 o2 o3 o4 es ob ws ms,σ=[some (.ref c),some (.ref fl),some (.ref mk),o1,o2,o3,o4]∧Plain H2∧Same H H2∧H2 fl=some (.lst ws)∧H2 mk=some (dO P w mk es ob)∧(∀ e∈es,SqT K H2 e.2.1 (mkV e.1))∧es.map (·.1)=List.map (·.1) ms∧DVs K H2 (ms.map prD) ws∧(List.map (·.1) ms).Nodup∧(∀ m∈ms,okV m.2∧m.2.2.2.length≤6∧(0≤m.1.1∧m.1.1≤3)∧(1≤m.1.2∧m.1.2≤20))∧ms.length≤i)
   ⟨_,_,_,_,[],o,[],[],rfl,Plain.ext hP.lst,s1,by rw [zga nfm];exact upd_same,upd_same,(λ e h=>by cases h),rfl,rfl,List.nodup_nil,(λ m h=>by cases h),Nat.le_refl _⟩ (λ i σ H2 _ ⟨_,_,_,_,_,_,_,_,_,_,s,_⟩=>SqL.of (s _ _ hc)) ?_ ?_
  ·rintro i x T' σ H2 hx ⟨o1,o2,o3,o4,es,ob,ws,ms,rfl,hP2,hs2,hf2,hm2,hk2,hem,hw2,nd,ok,hi⟩ hT
   obtain ⟨cell,rfl⟩:=hxi x (List.mem_of_getElem? hx)
   have hix:i<xs.length:=(List.getElem?_eq_some_iff.mp hx).1
   have hesl:es.length=ms.length:=by rw [← List.length_map (·.1),hem,List.length_map]
   refine ⟨T',_,rfl,SqT.of upd_same,rfl,_,_,rfl,_,_,rfl,rfl,?_⟩
   refine ⟨_,rfl,_,rfl,hP2.tup,(cell,i),rfl,λ l o hl ho=>?_⟩
   obtain ⟨d0,d1,d2,d3,d4,d5,d6,d7,rfl,e0,e1,e2,e3,e4,e5,e6,e7⟩:=ho
   have hP3:Plain (upd (upd H2 T' (.tup [.int i,.int cell])) l (.lst [.int d0,.int d1,.int d2,.int d3,.int d4,.int d5,.int d6,.int d7])):=hP2.tup.lst
   have hs3:Same H2 (upd (upd H2 T' (.tup [.int i,.int cell])) l (.lst [.int d0,.int d1,.int d2,.int d3,.int d4,.int d5,.int d6,.int d7])):=(zca hT).trans (zca hl)
   have hl3:(upd (upd H2 T' (.tup [.int i,.int cell])) l (.lst [.int d0,.int d1,.int d2,.int d3,.int d4,.int d5,.int d6,.int d7])) l=some (.lst [.int d0,.int d1,.int d2,.int d3,.int d4,.int d5,.int d6,.int d7]):=upd_same
   generalize upd (upd H2 T' (.tup [.int i,.int cell])) l (.lst [.int d0,.int d1,.int d2,.int d3,.int d4,.int d5,.int d6,.int d7])=H3 at hP3 hs3 hl3 ⊢
   have dig:∀ H',H' l=some (.lst [.int d0,.int d1,.int d2,.int d3,.int d4,.int d5,.int d6,.int d7])→digL l H':=λ H' s=>⟨d0,d1,d2,d3,d4,d5,d6,d7,s,e0,e1,e2,e3,e4,e5,e6,e7⟩
   have a0:=Int.emod_nonneg d0 (show (4:Int)≠0 by decide)
   have a1:=Int.emod_lt_of_pos d0 (show (0:Int)<4 by decide)
   have b0:=Int.emod_nonneg d1 (show (20:Int)≠0 by decide)
   have b1:=Int.emod_lt_of_pos d1 (show (0:Int)<20 by decide)
   walk_at "rd"
   refine ⟨sz_2,λ t hp4=>?_⟩
   dsimp only
   obtain ⟨m,hm⟩:∃ m:Mark,m=(d0 % 4,1+d1 % 20):=⟨_,rfl⟩
   have mb:(0≤m.1∧m.1≤3)∧(1≤m.2∧m.2≤20):=by rw [hm];exact ⟨⟨by omega,by omega⟩,⟨by omega,by omega⟩⟩
   have hmv:[V.int (d0 % 4),V.int (1+d1 % 20)]=mkV m:=by rw [hm];rfl
   rw [hmv]
   generalize hH4:upd H3 t (HO.tup _)=H4
   have s4:Same H3 H4:=hH4 ▸ zca hp4
   have P4:Plain H4:=hH4 ▸ hP3.tup
   have h4:=(congrFun hH4 t).symm.trans upd_same
   have hf4:=s4 _ _ (hs3 _ _ hf2)
   have hm4:=s4 _ _ (hs3 _ _ hm2)
   have hk4:∀ e∈es,SqT K H4 e.2.1 (mkV e.1):=λ e h=>(hs3.trans s4).seqT (hk2 e h)
   have hw4:=DVs.same (hs3.trans s4) _ _ hw2
   have hl4:=s4 _ _ hl3
   have nlm:l≠mk:=zcp hl4 hm4 (by intro z;cases z)
   refine ⟨_,rfl,_,rfl,t,m,mk,es,rfl,SqT.of h4,rfl,⟨⟨ob,hm4⟩,hk4⟩,_,rfl,?_⟩
   cases hfm:zab es m with
   | some v =>
    refine iteF ?_
    exact ⟨_,_,_,_,es,ob,ws,ms,rfl,P4,(hs2.trans hs3).trans s4,hf4,hm4,hk4,hem,hw4,nd,ok,by omega⟩
   | none =>
    refine iteT ?_
    refine ⟨_,rfl,_,rfl,mk,es,t,m,rfl,⟨⟨ob,hm4⟩,hk4⟩,rfl,SqT.of h4,zoa (by omega),λ o5=>?_⟩
    have epm:putM es m t (.bl true)=es++[(m,t,.bl true)]:=by unfold putM;rw [hfm];rfl
    rw [epm]
    have P5:Plain (upd H4 mk (dO P w mk (es++[(m,t,.bl true)]) o5)):=Plain.ext P4
    have hf5:(upd H4 mk (dO P w mk (es++[(m,t,.bl true)]) o5)) fl=some (.lst ws):=by rw [zga nfm];exact hf4
    have hm5:(upd H4 mk (dO P w mk (es++[(m,t,.bl true)]) o5)) mk=some (dO P w mk (es++[(m,t,.bl true)]) o5):=upd_same
    have hk5:∀ e∈es++[(m,t,V.bl true)],SqT K (upd H4 mk (dO P w mk (es++[(m,t,.bl true)]) o5)) e.2.1 (mkV e.1):=λ e h=>by
     rcases List.mem_append.mp h with h | h
     ·exact zqb hm4 (zde _) (hk4 e h)
     ·rw [List.mem_singleton.mp h];exact zqb hm4 (zde _) (SqT.of h4)
    have hw5:DVs K (upd H4 mk (dO P w mk (es++[(m,t,.bl true)]) o5)) (ms.map prD) ws:=zhe hm4 (zde _) _ _ (zud ms) hw4
    have hl5:(upd H4 mk (dO P w mk (es++[(m,t,.bl true)]) o5)) l=some (.lst [.int d0,.int d1,.int d2,.int d3,.int d4,.int d5,.int d6,.int d7]):=by rw [zga nlm];exact hl4
    have s5:Same H (upd H4 mk (dO P w mk (es++[(m,t,.bl true)]) o5)):=λ b z e=>by rw [zga (zba e hmk0)];exact s4 _ _ (hs3 _ _ (hs2 _ _ e))
    have ht5:SqT K (upd H4 mk (dO P w mk (es++[(m,t,.bl true)]) o5)) t (mkV m):=zqb hm4 (zde _) (SqT.of h4)
    refine ⟨_,rfl,.inl ⟨rfl,_,SqL.of hf5⟩,_,rfl,_,rfl,P5,l,⟨rfl,dig _ hl5⟩,λ x H6 hx6 s6 P6=>?_,λ _ _ h=>h.elim⟩
    obtain ⟨v,hv6,okv,hvl⟩:=hx6
    refine ⟨sz_2,λ t2 hp7=>?_⟩
    generalize hH7:upd H6 t2 (HO.tup _)=H7
    have s7:Same H6 H7:=hH7 ▸ zca hp7
    have P7:Plain H7:=hH7 ▸ P6.tup
    have h7:=(congrFun hH7 t2).symm.trans upd_same
    have hf7:=s7 _ _ (s6 _ _ hf5)
    have hm7:=s7 _ _ (s6 _ _ hm5)
    have hwl:ws.length=ms.length:=by rw [hw4.length,List.length_map]
    refine ⟨fl,ws,_,rfl,rfl,hf7,zoa (by omega),?_⟩
    have hnm:m∉es.map (·.1):=λ z=>by have:=zrb z;rw [hfm] at this;cases this
    refine ⟨_,_,_,_,es++[(m,t,.bl true)],o5,ws++[.ref t2],ms++[(m,v)],rfl,P7.lst,λ b z e=>?_,upd_same,by rw [zga nfm.symm];exact hm7,λ e h=>?_,?_,?_,?_,?_,by simp;omega⟩
    ·rw [zga (zba e hfl)];exact s7 _ _ (s6 _ _ (s5 _ _ e))
    ·exact zqb hf7 (zyr _) ((s6.trans s7).seqT (hk5 e h))
    ·rw [List.map_append,List.map_append,hem];rfl
    ·refine zhe hf7 (zyr _) _ _ (zud _) ?_
     rw [List.map_append]
     refine (DVs.same (s6.trans s7) _ _ hw5).append ⟨_,_,rfl,⟨t2,_,rfl,SqT.of h7,_,_,rfl,zsg ((s6.trans s7).seqT ht5),_,_,rfl,DV.same s7 _ _ hv6,rfl⟩,rfl⟩
    ·rw [List.map_append]
     refine List.nodup_append.mpr ⟨nd,List.nodup_cons.mpr ⟨by simp,List.nodup_nil⟩,λ x hx y hy z=>?_⟩
     rw [← hem] at hx
     exact hnm ((show x=m from z.trans (List.mem_singleton.mp hy)) ▸ hx)
    ·intro y hy
     rcases List.mem_append.mp hy with hy | hy
     ·exact ok y hy
     ·rw [List.mem_singleton.mp hy];exact ⟨okv,hvl,mb⟩
  ·rintro σ H2 ⟨o1,o2,o3,o4,es,ob,ws,ms,rfl,hP2,hs2,hf2,hm2,hk2,hem,hw2,nd,ok,hi⟩
   exact ⟨_,rfl,q H2 fl ws ms hs2 hP2 hf2 hw2 ⟨nd,ok,by omega⟩ hi⟩
theorem sc_q13:FnScope ["_law_pairs_here", "_law_cells", "_law_by", "_law_versions", "_law_mark", "_law_version_here", "_law_j", "_law_cell", "_law_some"] ["_law_pairs_here", "_law_cells", "_law_by"] (zka zyz):=by walk_at "sc"
theorem zi1 (T:Txt K mg A) (G_q6:zdz P w K mg B A) (G_q3:zz1 P w K mg B A):zhw P w K mg B A:=by
 have B_q6:=T.b_q6
 have B_q3:=T.b_q3
 refine T.F_q13.okN sc_q13 (λ vs H Q E h=>?_) (λ _ _ _ _ H vs Q E hr h=>?_)
 ·obtain ⟨_,p,c,by_,ws,xs,ms,rfl,_⟩:=h
  rfl
 ·obtain ⟨hP,p,c,by_,ws,xs,ms,rfl,hp,hw,okm,bm,hc,hxi,few,q⟩:=h
  refine ⟨_,(zda (zpa (i:=3) sc_q13.nd rfl (Or.inr rfl) (toE zrh (show _=zxv P w from rfl)))
   (zda (zoc PassesOwn.never rfl (zib (pv 0)) (zkc rfl (zia (zja (i:=4) sc_q13.nd rfl (Or.inl rfl)) (zia (zja (i:=5) sc_q13.nd rfl (Or.inl rfl)) zhb))) (zha (toS (zyd (zif hr) (pv 3) (pv 4) (pv 5) rfl) (show _=zgp P w K _ _ _ from rfl))))
   (zda (zoc PassesOwn.never rfl (zas rfl T.n_enumerate (by decide +kernel) (zaa (pv 1) zfa)) (zkc rfl (zia (zja (i:=6) sc_q13.nd rfl (Or.inl rfl)) (zia (zja (i:=7) sc_q13.nd rfl (Or.inl rfl)) zhb))) (zda (zpa (i:=8) sc_q13.nd rfl (Or.inl rfl) (zva G_q6 (hr.mono (by decide)) rfl T.g_q6 T.k_q6 B_q6 .nil zec (zaa (pv 7) (zaa (zna zmb (pv 6) (pv 2)) zfa))))
   (zda (zpa (i:=4) sc_q13.nd rfl (Or.inl rfl) (zub (zaa (zna zcb (zkb zla (pv 8) zea (λ _ _=>rfl)) zea) (zaa (zna zmb zea (zna zcb (zkb zla (pv 8) zea (λ _ _=>rfl)) zea)) zfa))))
   (zda (zkg (PW.pt (zgw (zbb (zoz hr.u100) (pv 3) (toE zrh (show _=zxv P w from rfl)) (zyb _)) (zhs (zbb zwt (zna zcb (zkb zla (pv 8) zea (λ _ _=>rfl)) zea) zea (zyb _))))) (zha (zpa (i:=4) sc_q13.nd rfl (Or.inl rfl) (zkb zla (zma (zuc rfl hr.u100) rfl T.n_sorted (by decide +kernel) (zaa (pv 3) zfa)) (zna zcb (zkb zla (pv 8) zea (λ _ _=>rfl)) (zma zuk rfl T.n_len (by decide +kernel) (zaa (pv 3) zfa))) (λ _ _=>rfl)))) zdb)
   (zda (zpa (i:=5) sc_q13.nd rfl (Or.inl rfl) (zva G_q3 (hr.mono (by decide)) rfl T.g_q3 T.k_q3 B_q3 .nil zec (zaa (pv 8) zfa)))
   (zda (zkg (PW.pt (zgw (zbb zwt (zna zcb (zkb zla (pv 8) zea (λ _ _=>rfl)) zea) zea (zyb _)) (zhs (zbb (zg2 (zif hr)) (pv 4) (pv 3) (by rfl))))) (zha (zpa (i:=5) sc_q13.nd rfl (Or.inl rfl) (zub (zaa (zna zmb (zna zmb (zkb zmu (zkb (ix_M (zif hr)) (pv 3) (pv 4) (λ _ _=>rfl)) zea (λ _ _=>rfl)) zea) (zna zcb (zkb zla (pv 8) zea (λ _ _=>rfl)) zea)) (zaa (zkb zmu (zkb (ix_M (zif hr)) (pv 3) (pv 4) (λ _ _=>rfl)) zea (λ _ _=>rfl)) (zaa (zkb zmu (zkb (ix_M (zif hr)) (pv 3) (pv 4) (λ _ _=>rfl)) zea (λ _ _=>rfl)) zfa)))))) zdb)
   (zda (toS (zyd (zif hr) (pv 3) (pv 4) (pv 5) rfl) (show _=zgp P w K _ _ _ from rfl))
   (zha (zkg (zbb zwt (zna zcb (zkb zla (pv 8) zea (λ _ _=>rfl)) zea) zea (zyb _)) (zha (zzd (toE (zsu (zif hr) (pv 3) (pv 4)) (show _=zbz P w K _ _ _ from rfl)))) zdb)))))))))
   (zha (zeb (zwd ["_law_mark", "_law_versions"] 1 [3] rfl (zib (zma (zuc rfl hr.u100) rfl T.n_sorted (by decide +kernel) (zaa (pv 3) zfa))) gk1 (λ _ _ _ _ _=>zja (i:=0) (show List.Nodup (["_law_mark", "_law_versions"]:List Str) by decide +kernel) rfl (Or.inl rfl)) (λ _ _ _ _ _=>zrc) (λ _ _ _ _ _=>(zub (zaa (pv 0) (zaa (zkb (zr2 (P:=P) (w:=w) (K:=K) rfl rfl rfl (zif hr)) (pv 1) (pv 0) (λ _ _=>rfl)) zfa)))))))))),?_⟩
  refine λ d o hd0=>?_
  have s1:Same H (upd H d (dO P w d [] o)):=zca hd0
  have P1:Plain (upd H d (dO P w d [] o)):=Plain.ext hP
  have h1:(upd H d (dO P w d [] o)) d=some (dO P w d [] o):=upd_same
  generalize upd H d (dO P w d [] o)=H1 at s1 P1 h1 ⊢
  have hwl:ws.length=ms.length:=by rw [hw.length,List.length_map]
  refine ⟨_,rfl,p,rfl,⟨_,s1.seq hp⟩,zjc (K:=K) (a:=p) (xs:=ws) (λ i σ H2=>∃ (o4 o5 o6 o7 o8:Option V) (es:List Ent) (ob:Obj) (ns:Sh),σ=[some (.ref p),some (.ref c),some (.int by_),some (.ref d),o4,o5,o6,o7,o8]∧Plain H2∧Same H H2∧H2 d=some (dO P w d es ob)∧EnS K H2 es ns∧okSh ns∧ns.length≤i∧∀ m,m∈mks ns↔m∈mks (ms.take i))
   ⟨_,_,_,_,_,[],o,[],rfl,P1,s1,h1,.nil,⟨(λ m h=>by cases h),List.nodup_nil⟩,Nat.le_refl _,λ m=>Iff.rfl⟩ (λ i σ H2 _ ⟨_,_,_,_,_,_,_,_,_,_,s,_⟩=>s.seq hp) ?_ ?_⟩
  ·rintro i y σ H2 hy ⟨o4,o5,o6,o7,o8,es,ob,ns,rfl,P2,S2,hd2,he2,okn,hnl,hmem⟩
   have hi:i<ms.length:=by have:=(List.getElem?_eq_some_iff.mp hy).1;omega
   obtain ⟨y',hy',hyd⟩:=(DVs.same S2 _ _ hw).get (i:=i) (d:=prD ms[i]) (by rw [List.getElem?_map,List.getElem?_eq_getElem hi];rfl)
   rw [hy] at hy'
   cases hy'
   obtain ⟨t,q1,vx,rfl,ht,hq1,hvx⟩:=zoq hyd
   refine ⟨t,_,rfl,ht,rfl,_,_,rfl,_,_,rfl,rfl,?_⟩
   have ky:∀ e∈es,SqT K H2 e.2.1 (mkV e.1):=λ e h=>(zza he2 e h).1
   have hel:es.length=ns.length:=Paired.length he2
   refine ⟨_,rfl,_,rfl,_,rfl,d,es,q1,ms[i].1,rfl,⟨⟨ob,hd2⟩,ky⟩,rfl,hq1,zoa (by omega),λ o'=>?_⟩
   have hl':=zbf ns ms[i].1 ms[i].2
   exact ⟨_,_,_,_,_,putM es ms[i].1 q1 vx,o',putS ns ms[i].1 ms[i].2,rfl,Plain.ext P2,λ b z e=>by rw [zga (zba e hd0)];exact S2 _ _ e,upd_same,zdf hd2 (zme he2 hq1 hvx),⟨zhh okn.1 _ (okm.1 _ (List.getElem_mem hi)),zwg okn.2 _ _⟩,by omega,λ m=>by
    rw [List.take_succ_eq_append_getElem hi]
    exact putS_iff.trans ((or_congr Iff.rfl (hmem m)).trans (Or.comm.trans (zpv _ _ _).symm))⟩
  rintro σ H2 ⟨o4,o5,o6,o7,o8,es2,ob2,ns2,rfl,P2,S2,hd2,he2,okn2,hnl2,hmem2⟩
  rw [hwl,List.take_length] at hmem2
  refine ⟨_,rfl,c,rfl,⟨_,SqL.of (S2 _ _ hc)⟩,zvo (K:=K) (a:=c) (xs:=xs) (λ i σ H3=>∃ (o4 o5 o6 o7 o8:Option V) (es:List Ent) (ob:Obj) (ns:Sh),σ=[some (.ref p),some (.ref c),some (.int by_),some (.ref d),o4,o5,o6,o7,o8]∧Plain H3∧Same H H3∧H3 d=some (dO P w d es ob)∧EnS K H3 es ns∧okSh ns∧ns.length≤ms.length+i∧zug (mks ns)∧∃ Ex:List Mark,Ex.length≤i∧∀ m,m∉Ex→(m∈mks ns↔m∈mks ms))
   ⟨_,_,_,_,_,es2,ob2,ns2,rfl,P2,S2,hd2,he2,okn2,by omega,λ k hk=>bm k ((hmem2 k).mp hk),[],Nat.zero_le _,λ m _=>hmem2 m⟩ (λ i σ H3 _ ⟨_,_,_,_,_,_,_,_,_,_,s,_⟩=>SqL.of (s _ _ hc)) ?_ ?_⟩
  ·rintro i x T' σ H3 hx ⟨o4,o5,o6,o7,o8,es,ob,ns,rfl,P3,S3,hd3,he3,okn,hnl,bn,Ex,hEx,hMx⟩ hT
   obtain ⟨cell,rfl⟩:=hxi x (List.mem_of_getElem? hx)
   have hix:i<xs.length:=(List.getElem?_eq_some_iff.mp hx).1
   have hel:es.length=ns.length:=Paired.length he3
   refine ⟨T',_,rfl,SqT.of upd_same,rfl,_,_,rfl,_,_,rfl,rfl,?_⟩
   refine ⟨_,rfl,_,rfl,_,rfl,_,_,rfl,rfl,P3.tup,(cell,(i:Int)+by_),rfl,λ l ol hl ho=>?_⟩
   obtain ⟨d0,d1,d2,d3,d4,d5,d6,d7,rfl,e0,e1,e2,e3,e4,e5,e6,e7⟩:=ho
   have P4:Plain (upd (upd H3 T' (.tup [.int i,.int cell])) l (.lst [.int d0,.int d1,.int d2,.int d3,.int d4,.int d5,.int d6,.int d7])):=P3.tup.lst
   have s4:Same H3 (upd (upd H3 T' (.tup [.int i,.int cell])) l (.lst [.int d0,.int d1,.int d2,.int d3,.int d4,.int d5,.int d6,.int d7])):=(zca hT).trans (zca hl)
   have hl4:(upd (upd H3 T' (.tup [.int i,.int cell])) l (.lst [.int d0,.int d1,.int d2,.int d3,.int d4,.int d5,.int d6,.int d7])) l=some (.lst [.int d0,.int d1,.int d2,.int d3,.int d4,.int d5,.int d6,.int d7]):=upd_same
   generalize upd (upd H3 T' (.tup [.int i,.int cell])) l (.lst [.int d0,.int d1,.int d2,.int d3,.int d4,.int d5,.int d6,.int d7])=H4 at P4 s4 hl4 ⊢
   have dig:∀ H',H' l=some (.lst [.int d0,.int d1,.int d2,.int d3,.int d4,.int d5,.int d6,.int d7])→digL l H':=λ H' s=>⟨d0,d1,d2,d3,d4,d5,d6,d7,s,e0,e1,e2,e3,e4,e5,e6,e7⟩
   walk_at "rd"
   refine ⟨sz_2,λ t hp5=>?_⟩
   dsimp only
   obtain ⟨m,hm⟩:∃ m:Mark,m=(d0 % 4,1+d1 % 20):=⟨_,rfl⟩
   have a0:=Int.emod_nonneg d0 (show (4:Int)≠0 by decide)
   have a1:=Int.emod_lt_of_pos d0 (show (0:Int)<4 by decide)
   have b0:=Int.emod_nonneg d1 (show (20:Int)≠0 by decide)
   have b1:=Int.emod_lt_of_pos d1 (show (0:Int)<20 by decide)
   have hmb:m∈boxM 4 21:=by
    rw [hm]
    exact zis (by show (0:Int)≤d0 % 4;omega) (by show d0 % 4<4;omega) (by show (0:Int)≤1+d1 % 20;omega) (by show 1+d1 % 20<21;omega)
   have hmv:[V.int (d0 % 4),V.int (1+d1 % 20)]=mkV m:=by rw [hm];rfl
   rw [hmv]
   generalize hH5:upd H4 t (HO.tup _)=H5
   have s5:Same H4 H5:=hH5 ▸ zca hp5
   have P5:Plain H5:=hH5 ▸ P4.tup
   have h5:=(congrFun hH5 t).symm.trans upd_same
   have S35:Same H3 H5:=s4.trans s5
   apply zh0 (α:=Addr) (β:=Hp) (ok:=λ q' H'=>Plain H'∧Same H5 H'∧∃ m',SqT K H' q' (mkV m')∧m'∈boxM 4 21)
   ·intro go
    refine ⟨_,rfl,λ nd no hnd=>?_⟩
    have s6:Same H5 (upd H5 nd (dO P w nd [] no)):=zca hnd
    have P6:Plain (upd H5 nd (dO P w nd [] no)):=Plain.ext P5
    have h6:(upd H5 nd (dO P w nd [] no)) nd=some (dO P w nd [] no):=upd_same
    generalize upd H5 nd (dO P w nd [] no)=H6 at s6 P6 h6 ⊢
    have hd6:=s6 _ _ (S35 _ _ hd3)
    have S36:=S35.trans s6
    refine ⟨d,nd,es,ob,no,rfl,rfl,hd6,h6,_,rfl,?_⟩
    by_cases hes:es=[]
    ·rw [decide_eq_true hes]
     refine iteF (iteF ?_)
     obtain ⟨z,hz⟩:∃ z,z=t:=⟨_,rfl⟩
     rw [← hz]
     exact go z H6 ⟨P6,s6,m,by rw [hz];exact SqT.of (s6 _ _ h5),hmb⟩
    ·rw [decide_eq_false hes]
     refine iteT ?_
     have hl6:=s6 _ _ (s5 _ _ hl4)
     refine ⟨_,rfl,_,_,_,_,rfl,rfl,SqL.of hl6,rfl,_,_,rfl,rfl,ip_2,rfl,_,rfl,zpq (λ _=>?_) (λ _=>?_)⟩
     ·have hep:0<es.length:=List.length_pos_iff.mpr hes
      refine ⟨_,rfl,d,es,ob,rfl,hd6,(λ e h=>S36.seqT (zza he3 e h).1),(by rw [zwa he3];exact okn.2),by omega,λ sl ks ws2 hsl pmk pwk hwk=>?_⟩
      have s7:Same H6 (upd H6 sl (.lst ws2)):=zca hsl
      have P7:Plain (upd H6 sl (.lst ws2)):=P6.lst
      have h7:(upd H6 sl (.lst ws2)) sl=some (.lst ws2):=upd_same
      generalize upd H6 sl (.lst ws2)=H7 at s7 P7 h7 ⊢
      have y1:=Int.emod_nonneg d1 (show (es.length:Int)≠0 by omega)
      have y2:=Int.emod_lt_of_pos d1 (show (0:Int)<(es.length:Int) by omega)
      obtain ⟨jn,hjn⟩:∃ jn:Nat,d1 % (es.length:Int)=jn:=⟨(d1 % (es.length:Int)).toNat,by omega⟩
      have hkl:ks.length=es.length:=by rw [pmk.length_eq,List.length_map]
      have hjl:jn<ks.length:=by omega
      obtain ⟨z,hz,hzd⟩:=(DVs.same s7 _ _ hwk).get (i:=jn) (d:=L2.markD ks[jn]) (by rw [List.getElem?_map,List.getElem?_eq_getElem hjl];rfl)
      obtain ⟨q1,rfl,hq1⟩:=zed hzd
      refine ⟨_,rfl,_,_,_,_,rfl,rfl,SqL.of (s7 _ _ hl6),rfl,_,rfl,d,es,ob,rfl,s7 _ _ hd6,_,_,rfl,rfl,(by show (0:Int)<(es.length:Int);omega),sl,ws2,_,_,rfl,rfl,SqL.of h7,(by show atI ws2 (d1 % (es.length:Int))=_;rw [hjn];exact znb hz),?_⟩
      exact go q1 H7 ⟨P7,s6.trans s7,ks[jn],hq1,bn _ (show ks[jn]∈List.map (·.1) ns by rw [← zwa he3];exact pmk.mem_iff.mp (List.getElem_mem hjl))⟩
     ·exact go t H6 ⟨P6,s6,m,SqT.of (s6 _ _ h5),hmb⟩
   rintro q1 H6 ⟨P6,s6,m1,hm1,hm1b⟩
   have S36:=S35.trans s6
   have hl6:=s6 _ _ (s5 _ _ hl4)
   refine ⟨_,rfl,P6,l,⟨rfl,dig _ hl6⟩,λ x H7 hx7 s7 P7=>?_,λ _ _ h=>h.elim⟩
   obtain ⟨v,hv7,okv,hvl⟩:=hx7
   have S37:=S36.trans s7
   have hl7:=s7 _ _ hl6
   have hd7:=S37 _ _ hd3
   have he7:=zpe S37 he3
   have hm7:=s7.seqT hm1
   have ky7:∀ e∈es,SqT K H7 e.2.1 (mkV e.1):=λ e h=>(zza he7 e h).1
   apply zh0 (α:=V) (β:=Hp) (ok:=λ y H'=>Plain H'∧Same H7 H'∧∃ v',DV K H' (ver v') y∧okV v')
   ·intro go
    refine ⟨_,rfl,_,_,_,_,rfl,rfl,SqL.of hl7,rfl,_,_,rfl,rfl,ip_5,rfl,_,rfl,zpq (λ _ => ?a) (λ _ => ?b)⟩
    case b =>
     refine iteF ?_
     obtain ⟨z,hz⟩:∃ z,z=x:=⟨_,rfl⟩
     obtain ⟨Hz,hHz⟩:∃ Hz,Hz=H7:=⟨_,rfl⟩
     rw [← hz,← hHz]
     exact go z Hz ⟨by rw [hHz];exact P7,by rw [hHz];exact Same.refl _,v,by rw [hHz,hz];exact hv7,okv⟩
    refine ⟨_,rfl,_,rfl,q1,m1,d,es,rfl,hm7,rfl,⟨⟨ob,hd7⟩,ky7⟩,_,rfl,?_⟩
    cases hfm:zab es m1 with
    | none=>exact iteF (go x H7 ⟨P7,Same.refl _,v,hv7,okv⟩)
    | some z =>
     refine iteT ?_
     obtain ⟨v0,hv0,hz0⟩:=zrx he7 okn.2 hfm
     obtain ⟨tv,pvv,rfl,hqv,hplc⟩:=zot hz0
     refine ⟨_,rfl,_,rfl,d,es,q1,m1,_,rfl,⟨⟨ob,hd7⟩,ky7⟩,rfl,hm7,hfm,tv,_,_,_,rfl,rfl,hqv,rfl,_,_,rfl,rfl,?_⟩
     refine ⟨_,rfl,_,_,_,_,rfl,rfl,SqL.of hl7,rfl,_,_,rfl,rfl,ip_3,_,_,rfl,rfl,?_⟩
     refine ⟨_,rfl,_,rfl,d,es,q1,m1,_,rfl,⟨⟨ob,hd7⟩,ky7⟩,rfl,hm7,hfm,tv,_,_,_,rfl,rfl,hqv,rfl,?_⟩
     refine ⟨_,rfl,_,rfl,d,es,q1,m1,_,rfl,⟨⟨ob,hd7⟩,ky7⟩,rfl,hm7,hfm,tv,_,_,_,rfl,rfl,hqv,rfl,?_⟩
     refine ⟨sz_3,λ t9 hp9=>?_⟩
     dsimp only
     generalize hH9:upd H7 t9 (HO.tup _)=H9
     have s9:Same H7 H9:=hH9 ▸ zca hp9
     have P9:Plain H9:=hH9 ▸ P7.tup
     have h9:=(congrFun hH9 t9).symm.trans upd_same
     obtain ⟨y,hy⟩:∃ y,y=V.ref t9:=⟨_,rfl⟩
     rw [← hy]
     exact go y H9 ⟨P9,s9,(v0.1+1+d4 % 3,v0.2),by rw [hy];exact zqt (v:=(v0.1+1+d4 % 3,v0.2)) (SqT.of h9) (DV.same s9 _ _ hplc),okn.1 _ hv0⟩
   rintro x8 H8 ⟨P8,s8,v8,hv8,okv8⟩
   have S38:=S37.trans s8
   have hl8:=s8 _ _ hl7
   have hd8:=S38 _ _ hd3
   have he8:=zpe S38 he3
   have hm8:=s8.seqT hm7
   have ky8:∀ e∈es,SqT K H8 e.2.1 (mkV e.1):=λ e h=>(zza he8 e h).1
   refine ⟨_,rfl,_,rfl,_,rfl,d,es,q1,m1,rfl,⟨⟨ob,hd8⟩,ky8⟩,rfl,hm8,zoa (by omega),λ o9=>?_⟩
   obtain ⟨ns',hns'⟩:∃ ns',ns'=putS ns m1 v8:=⟨_,rfl⟩
   have he':EnS K H8 (putM es m1 q1 x8) ns':=by rw [hns'];exact zme he8 hm8 hv8
   have nd':(mks ns').Nodup:=by rw [hns'];exact zwg okn.2 _ _
   have ok':∀ n∈ns',okV n.2:=by rw [hns'];exact zhh okn.1 _ okv8
   have hl':ns'.length≤ns.length+1:=by rw [hns'];exact zbf _ _ _
   have bn':zug (mks ns'):=λ k hk=>by
    rw [hns'] at hk
    rcases zlg hk with rfl | hk
    ·exact hm1b
    ·exact bn _ hk
   have hEx':(Ex++[m1]).length≤i+1:=by rw [List.length_append,List.length_singleton];omega
   have hMx':∀ m,m∉Ex++[m1]→(m∈mks ns'↔m∈mks ms):=λ m hm=>by
    have h1:m∉Ex:=λ z=>hm (List.mem_append_left _ z)
    have h2:m≠m1:=λ z=>hm (List.mem_append_right _ (List.mem_singleton.mpr z))
    rw [hns',putS_iff,← hMx m h1]
    exact ⟨λ z=>z.resolve_left h2,.inr⟩
   have nld:l≠d:=zcp hl8 hd8 (by intro z;cases z)
   have P9:Plain (upd H8 d (dO P w d (putM es m1 q1 x8) o9)):=Plain.ext P8
   have hd9:(upd H8 d (dO P w d (putM es m1 q1 x8) o9)) d=some (dO P w d (putM es m1 q1 x8) o9):=upd_same
   have he9:=zdf (x:=dO P w d (putM es m1 q1 x8) o9) hd8 he'
   have hm9:SqT K (upd H8 d (dO P w d (putM es m1 q1 x8) o9)) q1 (mkV m1):=zqb hd8 (zde _) hm8
   have hl9:(upd H8 d (dO P w d (putM es m1 q1 x8) o9)) l=some (.lst [.int d0,.int d1,.int d2,.int d3,.int d4,.int d5,.int d6,.int d7]):=by rw [zga nld];exact hl8
   have S9:Same H (upd H8 d (dO P w d (putM es m1 q1 x8) o9)):=λ b z e=>by rw [zga (zba e hd0)];exact S38 _ _ (S3 _ _ e)
   generalize upd H8 d (dO P w d (putM es m1 q1 x8) o9)=H9 at P9 hd9 he9 hm9 hl9 S9 ⊢
   have ky9:∀ e∈putM es m1 q1 x8,SqT K H9 e.2.1 (mkV e.1):=λ e h=>(zza he9 e h).1
   have hel9:(putM es m1 q1 x8).length=ns'.length:=Paired.length he9
   refine ⟨_,rfl,_,_,_,_,rfl,rfl,SqL.of hl9,rfl,_,_,rfl,rfl,ip_7,rfl,_,rfl,zpq (λ _=>?_) (λ _=>?_)⟩
   ·refine ⟨_,rfl,d,putM es m1 q1 x8,rfl,⟨⟨o9,hd9⟩,ky9⟩,_,rfl,q1,m1,rfl,⟨⟨o9,hd9⟩,ky9⟩,hm9,by omega,λ v hv o2=>?_,λ z=>by obtain ⟨u,hu⟩:=zrv (es:=es) (m:=m1) (q:=q1) (v:=x8);rw [hu] at z;cases z⟩
    refine ⟨_,_,_,_,_,zer (putM es m1 q1 x8) m1,o2,ns'.filter λ n => !decide (n.1=m1),rfl,Plain.ext P9,λ b z e=>by rw [zga (zba e hd0)];exact S9 _ _ e,upd_same,zdf hd9 (zoj m1 he9),⟨λ y hy=>ok' y (List.mem_filter.mp hy).1,(show (List.map (λ x:Mark×Ver=>x.1) (ns'.filter λ n => !decide (n.1=m1))).Nodup from List.Nodup.sublist ((List.filter_sublist (l:=ns')).map (λ x:Mark×Ver=>x.1)) nd')⟩,?_⟩
    have:=List.length_filter_le (λ n:Mark×Ver => !decide (n.1=m1)) ns'
    refine ⟨by omega,λ k hk=>?_,Ex++[m1],hEx',λ m hm=>?_⟩
    ·obtain ⟨z,hz,rfl⟩:=List.mem_map.mp hk
     exact bn' _ (List.mem_map_of_mem (f:=λ x:Mark×Ver=>x.1) (List.mem_filter.mp hz).1)
    ·rw [← hMx' m hm]
     have h2:m≠m1:=λ z=>hm (List.mem_append_right _ (List.mem_singleton.mpr z))
     constructor
     ·intro hk
      obtain ⟨z,hz,rfl⟩:=List.mem_map.mp hk
      exact List.mem_map_of_mem (f:=λ x:Mark×Ver=>x.1) (List.mem_filter.mp hz).1
     ·intro hk
      obtain ⟨z,hz,rfl⟩:=List.mem_map.mp hk
      exact List.mem_map_of_mem (f:=λ x:Mark×Ver=>x.1) (List.mem_filter.mpr ⟨hz,by simpa using h2⟩)
   ·exact ⟨_,_,_,_,_,putM es m1 q1 x8,o9,ns',rfl,P9,S9,hd9,he9,⟨ok',nd'⟩,by omega,bn',Ex++[m1],hEx',hMx'⟩
  rintro σ H3 ⟨o4,o5,o6,o7,o8,es,ob,ns,rfl,P3,S3,hd3,he3,okn,hnl,bn,Ex,hEx,hMx⟩
  have hel:es.length=ns.length:=Paired.length he3
  have emk:=zwa he3
  refine ⟨_,rfl,d,es,ob,rfl,hd3,(λ e h=>(zza he3 e h).1),(by rw [emk];exact okn.2),by omega,λ sl ks ws2 hsl pmk pwk hwk=>?_⟩
  have s4:Same H3 (upd H3 sl (.lst ws2)):=zca hsl
  have P4:Plain (upd H3 sl (.lst ws2)):=P3.lst
  have h4:(upd H3 sl (.lst ws2)) sl=some (.lst ws2):=upd_same
  generalize upd H3 sl (.lst ws2)=H4 at s4 P4 h4 ⊢
  have S4:=S3.trans s4
  have hw4:=DVs.same s4 _ _ hwk
  have hkl:ks.length=ns.length:=by rw [pmk.length_eq,List.length_map,hel]
  have hwl2:ws2.length=ks.length:=by rw [hw4.length,List.length_map]
  have pmn:ks.Perm (List.map (·.1) ns):=by rw [← emk];exact pmk
  have hin:∀ (i:Nat) (h:i<ks.length),∃ v,(ks[i],v)∈ns:=λ i h=>zyl (pmn.mem_iff.mp (List.getElem_mem h))
  refine ⟨sl,rfl,⟨_,SqL.of h4⟩,λ D hD=>zpd (λ i=>ws2.getD i .non) (λ i y H=>∀ m,(toSh ns ks)[i]? = some m→DV K H (prD m) y) hD P4 (n:=ws2.length) (sm1 ((by omega))) (zng (SqL.of h4)) ?_ ?_ ?_⟩
  ·exact λ i y Ha Hb h k hz m e=>DV.mono k hz _ _ (by have:=zud [m];rw [List.map_cons,noLs,Bool.and_eq_true] at this;exact this.1) (h m e)
  ·intro i H5 R hi P5 S5 hR
   have hic:i<ks.length:=by omega
   obtain ⟨y,hy,hyd⟩:=hw4.get (i:=i) (d:=L2.markD ks[i]) (by rw [List.getElem?_map,List.getElem?_eq_getElem hic];rfl)
   obtain ⟨q1,ey,hm⟩:=zed hyd
   have eg:ws2.getD i .non = .ref q1:=by rw [List.getD_eq_getElem?_getD,hy,ey];rfl
   rw [eg]
   obtain ⟨v,hv⟩:=hin i hic
   have he5:=zpe (s4.trans S5) he3
   obtain ⟨z,hf,hz⟩:=zoi he5 okn.2 hv
   have hm5:=S5.seqT hm
   refine ⟨_,rfl,_,rfl,_,rfl,d,es,q1,ks[i],z,rfl,⟨⟨ob,S5 _ _ (s4 _ _ hd3)⟩,λ e h=>(zza he5 e h).1⟩,rfl,hm5,hf,sz_2,λ t hp6=>?_⟩
   have s6:Same H5 (upd H5 t (.tup [.ref q1,z])):=zca hp6
   refine hR _ _ (λ m e=>?_) s6 P5.tup
   have em:m=(ks[i],v):=by
    unfold toSh at e
    rw [List.getElem?_map,List.getElem?_eq_getElem hic] at e
    have e:=Option.some.inj e
    rw [← e]
    show (ks[i],(look ns ks[i]).getD (0,[], ""))=_
    rw [show look ns ks[i]=some v from zic okn.2 hv]
    rfl
   rw [em]
   exact ⟨t,_,rfl,SqT.of upd_same,_,_,rfl,zsg (s6.seqT hm5),_,_,rfl,DV.same s6 _ _ hz,rfl⟩
  ·intro zs H5 hzl hzs hD5 S5 P5
   have pms:=zge okn.2 pmn
   have mko:∀ k,k∈mks (toSh ns ks)↔k∈mks ns:=λ k=>(pms.map (λ x:Mark×Ver=>x.1)).mem_iff
   refine q D zs (toSh ns ks) Ex H5 ((S4).free hD) (S4.trans S5) P5 hD5 ?_ ⟨λ m h=>okn.1 m (pms.mem_iff.mp h),(show (List.map (λ x:Mark×Ver=>x.1) (toSh ns ks)).Nodup from (pms.map (λ x:Mark×Ver=>x.1)).nodup_iff.mpr okn.2)⟩ (zzk pwk) (λ k hk=>bn k ((mko k).mp hk)) (by rw [pms.length_eq];omega) hEx λ m hm=>(mko m).trans (hMx m hm)
   refine DVs.of (f:=prD) (by rw [hzl,hwl2];unfold toSh;rw [List.length_map]) λ i v m hv hm=>hzs i v hv m hm
theorem sc_q12:FnScope ["_law_pairs_here", "_law_first", "_law_cell", "_law_found", "_law_mark", "_law_version_here", "_law_k"] ["_law_pairs_here", "_law_first", "_law_cell"] (zka zb1):=by walk_at "sc"
theorem zy0 (T:Txt K mg A)  : zhx P w K mg B A:=by
 refine T.F_q12.okN sc_q12 (λ vs H Q E h=>?_) (λ _ _ _ _ H vs Q E hr h=>?_)
 ·obtain ⟨_,p,f,n,ws,zs,ms,fs,rfl,_⟩:=h
  rfl
 ·obtain ⟨hP,p,f,n,ws,zs,ms,fs,rfl,hp,hw,okm,hf,hz,okf,bm,bf,few,q⟩:=h
  refine ⟨_,(zda (zpa (i:=3) sc_q12.nd rfl (Or.inr rfl) (toE zrh (show _=zxv P w from rfl)))
   (zda (zoc PassesOwn.never rfl (zib (pv 0)) (zkc rfl (zia (zja (i:=4) sc_q12.nd rfl (Or.inl rfl)) (zia (zja (i:=5) sc_q12.nd rfl (Or.inl rfl)) zhb))) (zha (toS (zyd (zif hr) (pv 3) (pv 4) (pv 5) rfl) (show _=zgp P w K _ _ _ from rfl))))
   (zda (zoc PassesOwn.never rfl (zcc rfl T.n_range (zaa (zma zqa rfl T.n_len (by decide +kernel) (zaa (pv 1) zfa)) zfa)) (zja (i:=6) sc_q12.nd rfl (Or.inl rfl)) (zda (zxw (zkb zla (pv 1) (pv 6) (λ _ _=>rfl)) (zkc rfl (zia (zja (i:=4) sc_q12.nd rfl (Or.inl rfl)) (zia (zja (i:=5) sc_q12.nd rfl (Or.inl rfl)) zhb))))
   (zha (zkg (zbb zwt (zna zcb (zna zmb (zna zpc (pv 2) zea) (zna zol (pv 6) (pv 6))) zea) zea (zyb _)) (zha (toS (zyd (zif hr) (pv 3) (pv 4) (pv 5) rfl) (show _=zgp P w K _ _ _ from rfl))) zdb))))
   (zha (zeb (zwd ["_law_mark", "_law_found"] 1 [3] rfl (zib (zma (zuc rfl hr.u100) rfl T.n_sorted (by decide +kernel) (zaa (pv 3) zfa))) gk1 (λ _ _ _ _ _=>zja (i:=0) (show List.Nodup (["_law_mark", "_law_found"]:List Str) by decide +kernel) rfl (Or.inl rfl)) (λ _ _ _ _ _=>zrc) (λ _ _ _ _ _=>(zub (zaa (pv 0) (zaa (zkb (zr2 (P:=P) (w:=w) (K:=K) rfl rfl rfl (zif hr)) (pv 1) (pv 0) (λ _ _=>rfl)) zfa)))))))))),?_⟩
  refine λ d o1 hd1=>?_
  have s1:Same H (upd H d (dO P w d [] o1)):=zca hd1
  have P1:Plain (upd H d (dO P w d [] o1)):=Plain.ext hP
  have h1:(upd H d (dO P w d [] o1)) d=some (dO P w d [] o1):=upd_same
  generalize upd H d (dO P w d [] o1)=H1 at s1 P1 h1 ⊢
  have hwl:ws.length=ms.length:=by rw [hw.length,List.length_map]
  have hzl:zs.length=fs.length:=by rw [hz.length,List.length_map]
  refine ⟨_,rfl,p,rfl,⟨_,s1.seq hp⟩,zjc (K:=K) (a:=p) (xs:=ws) (λ i σ H2=>∃ (o4 o5 o6:Option V) (es:List Ent) (ob:Obj) (ns:Sh),σ=[some (.ref p),some (.ref f),some (.int n),some (.ref d),o4,o5,o6]∧Plain H2∧Same H H2∧H2 d=some (dO P w d es ob)∧EnS K H2 es ns∧okSh ns∧ns.length≤i∧∀ k∈mks ns,k∈mks ms)
   ⟨_,_,_,[],o1,[],rfl,P1,s1,h1,.nil,⟨(λ m h=>by cases h),List.nodup_nil⟩,Nat.le_refl _,λ k h=>by cases h⟩ (λ i σ H2 _ ⟨_,_,_,_,_,_,_,_,s,_⟩=>s.seq hp) ?_ ?_⟩
  ·rintro i y σ H2 hy ⟨o4,o5,o6,es,ob,ns,rfl,P2,S2,hd2,he2,okn,hnl,hmk⟩
   have hi:i<ms.length:=by have:=(List.getElem?_eq_some_iff.mp hy).1;omega
   obtain ⟨y',hy',hyd⟩:=(DVs.same S2 _ _ hw).get (i:=i) (d:=prD ms[i]) (by rw [List.getElem?_map,List.getElem?_eq_getElem hi];rfl)
   rw [hy] at hy'
   cases hy'
   obtain ⟨t,q1,vx,rfl,ht,hq1,hvx⟩:=zoq hyd
   refine ⟨t,_,rfl,ht,rfl,_,_,rfl,_,_,rfl,rfl,?_⟩
   have hel:es.length=ns.length:=Paired.length he2
   refine ⟨_,rfl,_,rfl,_,rfl,d,es,q1,ms[i].1,rfl,⟨⟨ob,hd2⟩,λ e h=>(zza he2 e h).1⟩,rfl,hq1,zoa (by omega),λ o'=>?_⟩
   have hl':=zbf ns ms[i].1 ms[i].2
   exact ⟨_,_,_,putM es ms[i].1 q1 vx,o',putS ns ms[i].1 ms[i].2,rfl,Plain.ext P2,λ b z e=>by rw [zga (zba e hd1)];exact S2 _ _ e,upd_same,zdf hd2 (zme he2 hq1 hvx),⟨zhh okn.1 _ (okm.1 _ (List.getElem_mem hi)),zwg okn.2 _ _⟩,by omega,λ k hk=>(zlg hk).elim (λ e=>e ▸ List.mem_map_of_mem (f:=λ x:Mark×Ver=>x.1) (List.getElem_mem hi)) (hmk k)⟩
  rintro σ H2 ⟨o4,o5,o6,es,ob,ns,rfl,P2,S2,hd2,he2,okn,hnl,hmk⟩
  refine ⟨_,rfl,f,zs,rfl,.inl (S2.seq hf),_,rfl,by omega,by omega,zzc (n:=zs.length) (λ i σ H2=>∃ (o4 o5 o6:Option V) (es:List Ent) (ob:Obj) (ns:Sh),σ=[some (.ref p),some (.ref f),some (.int n),some (.ref d),o4,o5,o6]∧Plain H2∧Same H H2∧H2 d=some (dO P w d es ob)∧EnS K H2 es ns∧okSh ns∧ns.length≤ms.length+i∧∀ k∈mks ns,k∈mks ms ∨ k∈mks fs)
   ⟨_,_,_,es,ob,ns,rfl,P2,S2,hd2,he2,okn,by omega,λ k h=>.inl (hmk k h)⟩ ?_ ?_⟩
  ·rintro i σ H2 hi2 ⟨o4,o5,o6,es,ob,ns,rfl,P2,S2,hd2,he2,okn,hnl,hmk⟩
   rw [Int.zero_add]
   have hi:i<fs.length:=by omega
   obtain ⟨y',hy',hyd⟩:=(DVs.same S2 _ _ hz).get (i:=i) (d:=prD fs[i]) (by rw [List.getElem?_map,List.getElem?_eq_getElem hi];rfl)
   obtain ⟨t,q1,vx,rfl,ht,hq1,hvx⟩:=zoq hyd
   refine ⟨_,rfl,_,rfl,f,zs,_,_,rfl,rfl,S2.seq hf,znb hy',t,_,rfl,ht,rfl,_,_,rfl,_,_,rfl,rfl,?_⟩
   refine ⟨_,rfl,_,_,rfl,rfl,⟨by decide,by decide⟩,_,rfl,_,rfl,_,_,rfl,rfl,.inl ⟨by omega,by omega⟩,_,_,rfl,rfl,_,_,rfl,rfl,ip_4,rfl,_,rfl,zpq (λ _ => ?yes) (λ _ => ?no)⟩
   case yes =>
    have hel:es.length=ns.length:=Paired.length he2
    refine ⟨_,rfl,_,rfl,_,rfl,d,es,q1,fs[i].1,rfl,⟨⟨ob,hd2⟩,λ e h=>(zza he2 e h).1⟩,rfl,hq1,zoa (by omega),λ o'=>?_⟩
    have hl':=zbf ns fs[i].1 fs[i].2
    exact ⟨_,_,_,putM es fs[i].1 q1 vx,o',putS ns fs[i].1 fs[i].2,rfl,Plain.ext P2,λ b z e=>by rw [zga (zba e hd1)];exact S2 _ _ e,upd_same,zdf hd2 (zme he2 hq1 hvx),⟨zhh okn.1 _ (okf.1 _ (List.getElem_mem hi)),zwg okn.2 _ _⟩,by omega,λ k hk=>(zlg hk).elim (λ e=>.inr (e ▸ List.mem_map_of_mem (f:=λ x:Mark×Ver=>x.1) (List.getElem_mem hi))) (hmk k)⟩
   case no=>exact ⟨_,_,_,es,ob,ns,rfl,P2,S2,hd2,he2,okn,by omega,hmk⟩
  rintro σ H2 ⟨o4,o5,o6,es,ob,ns,rfl,P2,S2,hd2,he2,okn,hnl,hmk⟩
  have hel:es.length=ns.length:=Paired.length he2
  have emk:=zwa he2
  refine ⟨_,rfl,d,es,ob,rfl,hd2,(λ e h=>(zza he2 e h).1),(by rw [emk];exact okn.2),by omega,λ sl ks ws2 hsl pmk pwk hwk=>?_⟩
  have s4:Same H2 (upd H2 sl (.lst ws2)):=zca hsl
  have P4:Plain (upd H2 sl (.lst ws2)):=P2.lst
  have h4:(upd H2 sl (.lst ws2)) sl=some (.lst ws2):=upd_same
  generalize upd H2 sl (.lst ws2)=H4 at s4 P4 h4 ⊢
  have S4:=S2.trans s4
  have hw4:=DVs.same s4 _ _ hwk
  have hkl:ks.length=ns.length:=by rw [pmk.length_eq,List.length_map,hel]
  have hwl2:ws2.length=ks.length:=by rw [hw4.length,List.length_map]
  have pmn:ks.Perm (List.map (·.1) ns):=by rw [← emk];exact pmk
  have hin:∀ (i:Nat) (h:i<ks.length),∃ v,(ks[i],v)∈ns:=λ i h=>zyl (pmn.mem_iff.mp (List.getElem_mem h))
  refine ⟨sl,rfl,⟨_,SqL.of h4⟩,λ D hD=>zpd (λ i=>ws2.getD i .non) (λ i y H=>∀ m,(toSh ns ks)[i]? = some m→DV K H (prD m) y) hD P4 (n:=ws2.length) (sm1 ((by omega))) (zng (SqL.of h4)) ?_ ?_ ?_⟩
  ·exact λ i y Ha Hb h k hz m e=>DV.mono k hz _ _ (by have:=zud [m];rw [List.map_cons,noLs,Bool.and_eq_true] at this;exact this.1) (h m e)
  ·intro i H5 R hi P5 S5 hR
   have hic:i<ks.length:=by omega
   obtain ⟨y,hy,hyd⟩:=hw4.get (i:=i) (d:=L2.markD ks[i]) (by rw [List.getElem?_map,List.getElem?_eq_getElem hic];rfl)
   obtain ⟨q1,ey,hm⟩:=zed hyd
   have eg:ws2.getD i .non = .ref q1:=by rw [List.getD_eq_getElem?_getD,hy,ey];rfl
   rw [eg]
   obtain ⟨v,hv⟩:=hin i hic
   have he5:=zpe (s4.trans S5) he2
   obtain ⟨z,hf,hz⟩:=zoi he5 okn.2 hv
   have hm5:=S5.seqT hm
   refine ⟨_,rfl,_,rfl,_,rfl,d,es,q1,ks[i],z,rfl,⟨⟨ob,S5 _ _ (s4 _ _ hd2)⟩,λ e h=>(zza he5 e h).1⟩,rfl,hm5,hf,sz_2,λ t hp6=>?_⟩
   have s6:Same H5 (upd H5 t (.tup [.ref q1,z])):=zca hp6
   refine hR _ _ (λ m e=>?_) s6 P5.tup
   have em:m=(ks[i],v):=by
    unfold toSh at e
    rw [List.getElem?_map,List.getElem?_eq_getElem hic] at e
    have e:=Option.some.inj e
    rw [← e]
    show (ks[i],(look ns ks[i]).getD (0,[], ""))=_
    rw [show look ns ks[i]=some v from zic okn.2 hv]
    rfl
   rw [em]
   exact ⟨t,_,rfl,SqT.of upd_same,_,_,rfl,zsg (s6.seqT hm5),_,_,rfl,DV.same s6 _ _ hz,rfl⟩
  ·intro zs2 H5 hzl2 hzs hD5 S5 P5
   have pms:=zge okn.2 pmn
   have mko:∀ k,k∈mks (toSh ns ks)↔k∈mks ns:=λ k=>(pms.map (λ x:Mark×Ver=>x.1)).mem_iff
   refine q D zs2 (toSh ns ks) H5 ((S4).free hD) (S4.trans S5) P5 hD5 ?_ ⟨λ m h=>okn.1 m (pms.mem_iff.mp h),(show (List.map (λ x:Mark×Ver=>x.1) (toSh ns ks)).Nodup from (pms.map (λ x:Mark×Ver=>x.1)).nodup_iff.mpr okn.2)⟩ (zzk pwk) (λ k hk=>(hmk k ((mko k).mp hk)).elim (bm k) (bf k)) λ k hk=>hmk k ((mko k).mp hk)
   refine DVs.of (f:=prD) (by rw [hzl2,hwl2];unfold toSh;rw [List.length_map]) λ i v m hv hm=>hzs i v hv m hm
theorem sc_q14:FnScope ["_law_script", "_law_row_here", "_law_k", "_law_cells", "_law_pairs_here"] ["_law_script"] (zka zgz):=by walk_at "sc"
theorem zo2 (T:Txt K mg A) (G_q8:zw2 P w K mg B A) (G_q13:zhw P w K mg B A) (G_q12:zhx P w K mg B A):zsy P w K mg B A:=by
 have B_q8:=T.b_q8
 have B_q13:=T.b_q13
 have B_q12:=T.b_q12
 refine T.F_q14.okN sc_q14 (λ vs H Q E h=>?_) (λ _ _ _ _ H vs Q E hr h=>?_)
 ·obtain ⟨_,a,ns,rfl,_⟩:=h
  rfl
 ·obtain ⟨hP,a,ns,rfl,hS,few,q⟩:=h
  refine ⟨_,(zda (zpa (i:=1) sc_q14.nd rfl (Or.inl rfl) (zgl (zaa (zma (zmj hr.u100) rfl T.n_sorted (by decide +kernel) (zaa (zva G_q8 (hr.mono (by decide)) rfl T.g_q8 T.k_q8 B_q8 .nil zec (zaa (zrj zrm (pv 0) zps (zzj zea)) zfa)) zfa)) zfa)))
   (zda (zoc PassesOwn.never rfl (zkr rfl T.n_range (zaa zea (zaa (zma (zir rfl) rfl T.n_min (by decide +kernel) (zaa (zma zqa rfl T.n_len (by decide +kernel) (zaa (pv 0) zfa)) (zaa zea zfa))) (zaa zea zfa)))) (zja (i:=2) sc_q14.nd rfl (Or.inl rfl)) (zda (zpa (i:=3) sc_q14.nd rfl (Or.inl rfl) (zrj zrm (pv 0) (zzj (pv 2)) (zzj (zna zmb (pv 2) zea))))
   (zda (zpa (i:=4) sc_q14.nd rfl (Or.inl rfl) (zva G_q13 (hr.mono (by decide)) rfl T.g_q13 T.k_q13 B_q13 .nil zec (zaa (zkb zla (pv 1) (zw0 zkv zea) (λ _ _=>rfl)) (zaa (pv 3) (zaa (zna zmb zea (pv 2)) zfa)))))
   (zda (zkg (zbb zwt (zna zcb (zkb zla (pv 3) zea (λ _ _=>rfl)) zea) zea (zyb _)) (zha (zpa (i:=4) sc_q14.nd rfl (Or.inl rfl) (zva G_q12 (hr.mono (by decide)) rfl T.g_q12 T.k_q12 B_q12 .nil zec (zaa (pv 4) (zaa (zkb zla (pv 1) zea (λ _ _=>rfl)) (zaa (zna zcb (zkb zla (pv 3) zea (λ _ _=>rfl)) (zna znu zea zea)) zfa)))))) zdb)
   (zha (zzd (zku PySem.F.plainAttrs_list PySem.F.slot_list_append PySem.F.type_list_append zob (pv 1) (zaa (pv 4) zfa))))))))
   (zda (zkg (zbb zwt (zma zqa rfl T.n_len (by decide +kernel) (zaa (pv 1) zfa)) zea (zyb _)) (zha (zzd (zku PySem.F.plainAttrs_list PySem.F.slot_list_append PySem.F.type_list_append zob (pv 1) (zaa (zva G_q13 (hr.mono (by decide)) rfl T.g_q13 T.k_q13 B_q13 .nil zec (zaa (zkb zla (pv 1) zea (λ _ _=>rfl)) (zaa (zrj zrm (pv 0) zps (zzj zea)) (zaa zea zfa)))) zfa)))) zdb)
   (zha (zeb (pv 1)))))),?_⟩
  refine ⟨_,rfl,12,rfl,a,_,rfl,hS,λ pc hp1=>?_⟩
  have hc1:(cutV (ns.map V.int) none (some 12)).length≤12:=zex _ 12
  have hci:∀ lo hi,∀ x∈cutV (ns.map V.int) lo hi,∃ n,x=V.int n:=λ lo hi x hx=>by
   obtain ⟨i,hi⟩:=List.getElem?_of_mem hx
   exact zzy hi
  generalize hH1:upd H pc (HO.lst _)=H1
  have s1:Same H H1:=hH1 ▸ zca hp1
  have P1:Plain H1:=hH1 ▸ hP.lst
  have h1:=(congrFun hH1 pc).symm.trans upd_same
  refine ⟨P1,pc,_,rfl,h1,by omega,hci _ _,λ H2 pl ws ms s2 P2 hpl hw G hml=>?_⟩
  have okm:∀ m∈ms,okV m.2:=λ m h=>(G.ok m h).1
  refine ⟨Mark,List.map (λ x:Mark×Ver=>x.1) ms,(λ m=>[L2.markD m,vdat (look ms m)]),mLt,.tup,pl,ws,rfl,SqL.of hpl,zwx G.nd hw,zfx G.nd okm (by omega),λ l3 bs3 ws3 hl3 pm3 pw3 hw3=>?_⟩
  have s3:Same H2 (upd H2 l3 (.lst ws3)):=zca hl3
  have P3:Plain (upd H2 l3 (.lst ws3)):=P2.lst
  have h3:(upd H2 l3 (.lst ws3)) l3=some (.lst ws3):=upd_same
  have hw3':DVs K (upd H2 l3 (.lst ws3)) ((toSh ms bs3).map prD) ws3:=by
   rw [← zmg G.nd pm3]
   exact DVs.same s3 _ _ hw3
  generalize upd H2 l3 (.lst ws3)=H3 at s3 P3 h3 hw3' ⊢
  have pmo:=zge G.nd pm3
  have srt1:srtd (toSh ms bs3):=zzk pw3
  have ok1:okSh (toSh ms bs3):=⟨λ m h=>okm m (pmo.mem_iff.mp h),(pmo.map (λ x:Mark×Ver=>x.1)).nodup_iff.mpr G.nd⟩
  have len1:(toSh ms bs3).length≤12:=by rw [pmo.length_eq];omega
  generalize toSh ms bs3=one at hw3' srt1 ok1 len1 pmo
  have S3:=(s1.trans s2).trans s3
  have bx1:zug (mks one):=λ k hk=>by
   have hk:k∈mks ms:=(pmo.map (λ x:Mark×Ver=>x.1)).mem_iff.mp hk
   obtain ⟨m,hm,rfl⟩:=List.mem_map.mp hk
   have:=(G.ok m hm).2.2
   exact zis (by omega) (by show m.1.1<4;omega) (by omega) (by show m.1.2<21;omega)
  refine ⟨sz_1,λ rl hp4=>?_⟩
  generalize hH4:upd H3 rl (HO.lst _)=H4
  have s4:Same H3 H4:=hH4 ▸ zca hp4
  have P4:Plain H4:=hH4 ▸ P3.lst
  have h4:=(congrFun hH4 rl).symm.trans upd_same
  have S4:=S3.trans s4
  have nl3:l3∉[rl]:=λ z=>by rw [List.mem_singleton.mp z,hp4] at h3;cases h3
  have nrl:H rl=none:=S3.free hp4
  have lU:(mks one).length≤12:=by unfold mks;rw [List.length_map];exact len1
  obtain ⟨J,hJ⟩:∃ J:Int,J=if (42:Int)<((ns.map V.int).length:Int) then 42 else ((ns.map V.int).length:Int):=⟨_,rfl⟩
  have hJ3:0≤J∧J≤42∧J≤ns.length:=by rw [List.length_map] at hJ;rw [hJ];split <;> omega
  refine ⟨_,rfl,a,_,rfl,.inl (S4.seq hS),_,_,rfl,5,12,J,(by rw [hJ]),.inr (.inr (.inl rfl)),⟨by decide,by decide,by omega,by omega⟩,zsn (z:=5) (lo:=12) (n:=numZ 5 12 J) (λ i σ H2=>∃ (o2 o3 o4:Option V) (rs:List Sh) (ws:List V) (U:List Mark),σ=[some (.ref a),some (.ref rl),o2,o3,o4]∧Plain H2∧Same H H2∧H2 rl=some (.lst ws)∧Paired (λ v (ms:Sh)=>LsR K [rl] H2 v (ms.map prD)) ws rs∧OkR rs U∧U.length≤12+5 * i∧rs.length=i+1∧∃ x,rs[0]? = some x∧x.length≤12)
   ⟨_,_,_,[one],[.ref l3],mks one,rfl,P4,S4,h4,.cons ⟨l3,ws3,rfl,nl3,s4 _ _ h3,DVs.same s4 _ _ hw3',zud _⟩ .nil,(λ x hx=>by rw [List.mem_singleton.mp hx];exact ⟨ok1,srt1,bx1,λ k hk=>hk⟩),by omega,rfl,one,rfl,len1⟩ ?_ ?_⟩
  ·rintro i σ H20 hi ⟨o2,o3,o4,rs,ws,U,rfl,P20,S20,hrl,prs,okr,lU,lrs,x0,hx0,lx0⟩
   have hi2:=zur hi
   obtain ⟨kn,hkn⟩:∃ kn:Nat,(12+(i:Int) * 5)=(kn:Int):=⟨12+i * 5,by omega⟩
   rw [hkn]
   have hk42:kn<ns.length:=by omega
   have i6:i<6:=by omega
   have lws:ws.length=rs.length:=Paired.length prs
   refine ⟨_,rfl,_,rfl,(kn:Int),rfl,_,rfl,_,_,rfl,rfl,(kn:Int)+5,rfl,a,_,rfl,S20.seq hS,λ c6 hp22=>?_⟩
   have lc:=zy3 (ns.map V.int) kn
   obtain ⟨n0,hn0⟩:=zzp hk42
   have hcc:=hci (some (kn:Int)) (some ((kn:Int)+5))
   generalize cutV (ns.map V.int) (some (kn:Int)) (some ((kn:Int)+5))=cv at lc hn0 hcc ⊢
   generalize hH22:upd H20 c6 (HO.lst _)=H22
   have s22:Same H20 H22:=hH22 ▸ zca hp22
   have P22:Plain H22:=hH22 ▸ P20.lst
   have h22:=(congrFun hH22 c6).symm.trans upd_same
   have hlast:rs[rs.length - 1]? = some rs[rs.length - 1]:=List.getElem?_eq_getElem (by omega)
   obtain ⟨rn,hrn,ln,wn,rfl,nln,hln,hwn,_⟩:=zfc prs hlast
   obtain ⟨okn,srn,bxn,inn⟩:=okr _ (List.getElem_mem (show rs.length - 1<rs.length by omega))
   have lnn:=zus okr (List.getElem_mem (show rs.length - 1<rs.length by omega))
   refine ⟨_,rfl,_,rfl,rl,ws,_,_,rfl,rfl,SqL.of (s22 _ _ hrl),zwi (by rw [lws];exact hrn),?_⟩
   refine ⟨_,rfl,_,rfl,_,_,rfl,rfl,P22,ln,c6,50+(kn:Int),wn,_,_,rfl,SqL.of (s22 _ _ hln),DVs.same s22 _ _ hwn,okn,bxn,h22,hcc,by omega,λ l7 ws7 nx7 Ex7 H23 n7 s23 P23 hl7 hw7 ok7 srt7 bx7 len7 lEx7 mEx7=>?_⟩
   have S23:=s22.trans s23
   have in7:=zds mEx7 inn
   have hc23:=s23 _ _ h22
   apply zh0 (α:=Addr) (β:=Hp) (ok:=λ lz Hz=>∃ (wz:List V) (nz:Sh),Plain Hz∧Same H20 Hz∧H20 lz=none∧Hz lz=some (.lst wz)∧DVs K Hz (nz.map prD) wz∧okSh nz∧srtd nz∧zug (mks nz)∧∀ k∈mks nz,k∈U++Ex7)
   ·intro jn
    refine ⟨_,rfl,_,_,_,_,rfl,rfl,SqL.of hc23,znb (j:=0) hn0,_,_,rfl,rfl,ip_2,rfl,_,rfl,zpq (λ _ => ?yes) (λ _ => ?no)⟩
    case yes =>
     obtain ⟨r0,hr0,l0,w0,rfl,nl0,hl0,hw0,_⟩:=zfc prs hx0
     obtain ⟨okx,srx,bxx,inx⟩:=okr _ (List.mem_of_getElem? hx0)
     refine ⟨_,rfl,_,rfl,rl,ws,_,_,rfl,rfl,SqL.of (S23 _ _ hrl),znb (j:=0) hr0,?_⟩
     refine ⟨_,rfl,_,_,_,_,rfl,rfl,SqL.of hc23,znb (j:=0) hn0,_,_,rfl,rfl,⟨by decide,by decide,by decide⟩,_,_,rfl,rfl,(by show (0:Int)<10 ^ 9;decide),?_⟩
     refine ⟨P23,l7,l0,_,ws7,w0,nx7,x0,rfl,SqL.of hl7,hw7,ok7,SqL.of (S23 _ _ hl0),DVs.same S23 _ _ hw0,okx,bx7,bxx,by omega,λ lz wz nz Hz nlz sz Pz hlz hwz okz srtz bxz inz=>?_⟩
     exact jn lz Hz ⟨wz,nz,Pz,S23.trans sz,S23.free nlz,hlz,hwz,okz,srtz,bxz,λ k hk=>(inz k hk).elim (in7 k) λ h=>List.mem_append_left _ (inx k h)⟩
    case no=>exact jn l7 H23 ⟨ws7,nx7,P23,S23,s22.free n7,hl7,hw7,ok7,srt7,bx7,in7⟩
   rintro lz Hz ⟨wz,nz,Pz,Sz,nlz,hlz,hwz,okz,srtz,bxz,inz⟩
   have hrlz:=Sz _ _ hrl
   have nz1:lz∉[rl]:=λ z=>by rw [List.mem_singleton.mp z,hrl] at nlz;cases nlz
   refine ⟨_,rfl,.inl ⟨rfl,_,SqL.of hrlz⟩,_,rfl,rl,_,_,rfl,rfl,hrlz,zoa (by omega),?_⟩
   have kp:=@zwo Hz rl (.lst (ws++[.ref lz]))
   refine ⟨_,_,_,rs++[nz],ws++[.ref lz],U++Ex7,rfl,Pz.upd trivial,λ b z e=>by rw [zga (zba e nrl)];exact (S20.trans Sz) _ _ e,upd_same,?_,zmn okr okz srtz bxz inz,by rw [List.length_append];omega,by rw [List.length_append,lrs];rfl,x0,by rw [List.getElem?_append_left (by omega)];exact hx0,lx0⟩
   exact Paired.snoc (Paired.mapP prs λ r m h=>(h.same Sz).keep kp ⟨_,hrlz⟩ (by simp)) (LsR.keep (N:=[rl]) ⟨lz,wz,rfl,nz1,hlz,hwz,zud _⟩ kp ⟨_,hrlz⟩ (by simp))
  rintro σ H20 ⟨o2,o3,o4,rs,ws,U,rfl,P20,S20,hrl,prs,okr,lU2,lrs,x0,hx0,lx0⟩
  have n6:numZ 5 12 J≤6:=by
   refine Nat.le_of_not_lt λ z=>?_
   have:=zur (i:=6) z
   omega
  have lws:ws.length=rs.length:=Paired.length prs
  refine ⟨_,rfl,rl,ws,rfl,.inl (SqL.of hrl),rfl,_,rfl,zpq (λ h1 => ?yes) (λ h1 => ?no)⟩
  case yes =>
   have hr1:rs.length=1:=by have h1:(ws.length:Int)=1:=V.int.inj h1;omega
   obtain ⟨r0,hr0,l0,w0,rfl,nl0,hl0,hw0,_⟩:=zfc prs hx0
   obtain ⟨okx,srx,bxx,inx⟩:=okr _ (List.mem_of_getElem? hx0)
   refine ⟨_,rfl,.inl ⟨rfl,_,SqL.of hrl⟩,_,rfl,rl,ws,_,_,rfl,rfl,SqL.of hrl,znb (j:=0) hr0,?_⟩
   refine ⟨_,rfl,3,rfl,a,_,rfl,S20.seq hS,λ c6 hp22=>?_⟩
   have lc:(cutV (ns.map V.int) none (some 3)).length≤3:=zex _ 3
   have hcc:=hci none (some 3)
   generalize hH22:upd H20 c6 (HO.lst _)=H22
   have s22:Same H20 H22:=hH22 ▸ zca hp22
   have P22:Plain H22:=hH22 ▸ P20.lst
   have h22:=(congrFun hH22 c6).symm.trans upd_same
   refine ⟨P22,l0,c6,77,w0,_,x0,rfl,SqL.of (s22 _ _ hl0),DVs.same s22 _ _ hw0,okx,bxx,h22,hcc,by omega,λ lz wz nz Ex7 Hz nlz sz Pz hlz hwz okz srtz bxz len7 lEx7 mEx7=>?_⟩
   have Sz:=s22.trans sz
   have hrlz:=Sz _ _ hrl
   have nz1:lz∉[rl]:=λ z=>by rw [List.mem_singleton.mp z,s22 _ _ hrl] at nlz;cases nlz
   refine ⟨rl,_,_,rfl,rfl,hrlz,zoa (by omega),?_⟩
   have kp:=@zwo Hz rl (.lst (ws++[.ref lz]))
   refine ⟨_,rfl,q rl (ws++[.ref lz]) (rs++[nz]) (U++Ex7) _ nrl (λ b z e=>by rw [zga (zba e nrl)];exact (S20.trans Sz) _ _ e) (Pz.upd trivial) upd_same ?_ (zmn okr okz srtz bxz (zds mEx7 inx)) ?_ (by rw [List.length_append,hr1];exact Nat.le_refl 2) (by rw [List.length_append,hr1];show 2<10;decide)⟩
   ·exact Paired.snoc (Paired.mapP prs λ r m h=>((h.same Sz).keep kp ⟨_,hrlz⟩ (by simp)).less (by simp)) ((LsR.keep (N:=[rl]) ⟨lz,wz,rfl,nz1,hlz,hwz,zud _⟩ kp ⟨_,hrlz⟩ (by simp)).less (by simp))
   ·rw [List.length_append]
    omega
  case no =>
   have h1:¬ (ws.length:Int)=1:=λ e=>h1 (congrArg V.int e)
   exact ⟨_,rfl,q rl ws rs U H20 nrl S20 P20 hrl (Paired.mapP prs λ r m h=>h.less (by simp)) okr (by omega) (by omega) (by omega)⟩
theorem sc_q11:FnScope ["_law_some", "_law_more", "_law_now", "_law_mark", "_law_was", "_law_there"] ["_law_some", "_law_more"] (zka zf0):=by walk_at "sc"
theorem zd1 (T:Txt K mg A)  : zhy P w K mg B A:=by
 refine T.F_q11.okN sc_q11 (λ vs H Q E h=>?_) (λ _ _ _ _ H vs Q E hr h=>?_)
 ·obtain ⟨_,p,l,ws,zs,cs,ds,rfl,_⟩:=h
  rfl
 ·obtain ⟨hP,p,l,ws,zs,cs,ds,rfl,hp,hw,okc,hl,hz,okd,q⟩:=h
  refine ⟨_,(zda (zpa (i:=2) sc_q11.nd rfl (Or.inr rfl) (toE zrh (show _=zxv P w from rfl)))
   (zda (zoc PassesOwn.never rfl (zib (pv 0)) (zkc rfl (zia (zja (i:=3) sc_q11.nd rfl (Or.inl rfl)) (zia (zja (i:=4) sc_q11.nd rfl (Or.inl rfl)) (zia (zja (i:=5) sc_q11.nd rfl (Or.inl rfl)) zhb)))) (zha (toS (zyd (zif hr) (pv 2) (pv 3) (pv 5) rfl) (show _=zgp P w K _ _ _ from rfl))))
   (zha (zeb (zma (zht rfl) rfl T.n_all (by decide +kernel) (zaa (zwd ["_law_mark", "_law_was", "_law_there", "_law_now"] 3 [2] rfl (zib (pv 1)) gk3 (λ _ _ _ _ _=>zkc rfl (zia (zja (i:=0) (show List.Nodup (["_law_mark", "_law_was", "_law_there", "_law_now"]:List Str) by decide +kernel) rfl (Or.inl rfl)) (zia (zja (i:=1) (show List.Nodup (["_law_mark", "_law_was", "_law_there", "_law_now"]:List Str) by decide +kernel) rfl (Or.inl rfl)) (zia (zja (i:=2) (show List.Nodup (["_law_mark", "_law_was", "_law_there", "_law_now"]:List Str) by decide +kernel) rfl (Or.inl rfl)) zhb)))) (λ _ _ _ _ _=>zrc) (λ _ _ _ _ _=>(zk3 (ztm (zcm (P:=P) (w:=w) (K:=K) rfl rfl rfl (zif hr)) (pv 0) (pv 3) (by rfl)) (zwy (ztm (zjw (K:=K) rfl hr.units) (zkb (zr2 (P:=P) (w:=w) (K:=K) rfl rfl rfl (zif hr)) (pv 3) (pv 0) (λ _ _=>rfl)) (pv 1) (zyb _)))))) zfa)))))),?_⟩
  refine λ d o1 hd1=>?_
  have s1:Same H (upd H d (dO P w d [] o1)):=zca hd1
  have P1:Plain (upd H d (dO P w d [] o1)):=Plain.ext hP
  have h1:(upd H d (dO P w d [] o1)) d=some (dO P w d [] o1):=upd_same
  generalize upd H d (dO P w d [] o1)=H1 at s1 P1 h1 ⊢
  have hwl:ws.length=cs.length:=by rw [hw.length,List.length_map]
  have hzl:zs.length=ds.length:=by rw [hz.length,List.length_map]
  have fc:=okc.2.2.2
  have fd:=okd.2.2.2
  refine ⟨_,rfl,p,rfl,⟨_,s1.seq hp⟩,zjc (K:=K) (a:=p) (xs:=ws) (λ i σ H2=>∃ (o3 o4 o5:Option V) (es:List Ent) (ob:Obj),σ=[some (.ref p),some (.ref l),some (.ref d),o3,o4,o5]∧Plain H2∧Same H H2∧H2 d=some (dO P w d es ob)∧es.length≤i∧Tb K H2 es (λ k=>(zsb (cs.take i) k).map λ z=>vdat z.2))
   ⟨_,_,_,[],o1,rfl,P1,s1,h1,Nat.le_refl _,Tb.nil⟩ (λ i σ H2 _ ⟨_,_,_,_,_,_,_,s,_⟩=>s.seq hp) ?_ ?_⟩
  ·rintro i y σ H2 hy ⟨o3,o4,o5,es,ob,rfl,P2,S2,hd2,hel,T2⟩
   have hi:i<cs.length:=by have:=(List.getElem?_eq_some_iff.mp hy).1;omega
   obtain ⟨y',hy',hyd⟩:=(DVs.same S2 _ _ hw).get (i:=i) (d:=chD cs[i]) (by rw [List.getElem?_map,List.getElem?_eq_getElem hi];rfl)
   rw [hy] at hy'
   cases hy'
   obtain ⟨t,q0,va,vb,rfl,ht,hm,h1,h2⟩:=zdv hyd
   refine ⟨t,_,rfl,ht,rfl,_,_,rfl,_,_,rfl,_,_,rfl,rfl,?_⟩
   refine ⟨_,rfl,_,rfl,_,rfl,d,es,q0,cs[i].1,rfl,T2.dm hd2,rfl,hm,zoa (by omega),λ o'=>?_⟩
   have:=zqd es cs[i].1 q0 vb
   refine ⟨_,_,_,putM es cs[i].1 q0 vb,o',rfl,Plain.ext P2,λ b z e=>by rw [zga (zba e hd1)];exact S2 _ _ e,upd_same,by omega,?_⟩
   have T3:=(T2.put hm h2).upd (o':=dO P w d (putM es cs[i].1 q0 vb) o') hd2 λ k d e=>by
    split at e
    ·cases e;exact zgc _
    ·obtain ⟨z,_,rfl⟩:=Option.map_eq_some_iff.mp e;exact zgc _
   rw [show (λ k=>(zsb (cs.take (i+1)) k).map λ z=>vdat z.2)=λ k=>if cs[i].1=k then some (vdat cs[i].2.2) else (zsb (cs.take i) k).map λ z=>vdat z.2 from funext λ k=>by rw [zff okc.2.1 hi];split <;> rfl]
   exact T3
  rintro σ H2 ⟨o3,o4,o5,es,ob,rfl,P2,S2,hd2,hel,T2⟩
  rw [hwl,List.take_length] at T2
  refine ⟨_,rfl,l,rfl,⟨_,S2.seq hl⟩,λ D hD=>zpd (λ i=>zs.getD i .non) (λ i y H=>y = .bl (clB cs (ds.getD i default))) hD P2 (n:=zs.length) (sm1 ((by omega))) (zng (S2.seq hl)) ?_ ?_ ?_⟩
  ·exact λ i y Ha Hb h k hz=>h
  ·intro i H3 R hi P3 S3 hR
   have hic:i<ds.length:=by omega
   obtain ⟨y,hy,hyd⟩:=hz.get (i:=i) (d:=chD ds[i]) (by rw [List.getElem?_map,List.getElem?_eq_getElem hic];rfl)
   have ec:ds.getD i default=ds[i]:=by rw [List.getD_eq_getElem?_getD,List.getElem?_eq_getElem hic];rfl
   rw [ec] at hR
   have S:=S2.trans S3
   obtain ⟨t,q0,va,vb,ey,hq,hm,h1,h2⟩:=zdv (DV.same S _ _ hyd)
   have eg:zs.getD i .non = .ref t:=by rw [List.getD_eq_getElem?_getD,hy,ey];rfl
   rw [eg]
   have okk:=okd.1 _ (List.getElem_mem hic)
   have T3:=T2.same S3
   have D3:=T3.dm (S3 _ _ hd2)
   refine ⟨t,_,rfl,hq,rfl,_,_,rfl,_,_,rfl,_,_,rfl,rfl,?_⟩
   refine ⟨_,rfl,_,rfl,q0,ds[i].1,d,es,rfl,hm,rfl,D3,_,rfl,?_⟩
   unfold clB at hR
   cases hf:zsb cs ds[i].1 with
   | none =>
    rw [hf] at hR
    rw [T3.miss (show (zsb cs ds[i].1).map _=none by rw [hf];rfl)]
    exact iteT (hR _ _ rfl (Same.refl _) P3)
   | some z =>
    rw [hf] at hR
    obtain ⟨x,ex,hx⟩:=T3.hit (k:=ds[i].1) (d:=vdat z.2) (by rw [hf];rfl)
    rw [ex]
    refine iteF ?_
    refine ⟨_,rfl,_,rfl,d,es,q0,ds[i].1,x,rfl,D3,rfl,hm,ex,_,rfl,vdat z.2,vdat ds[i].2.1,hx,h1,zya (okc.1 _ (zra hf)).2,zya okk.1,hR _ _ ?_ (Same.refl _) P3⟩
    rw [zqg]
  ·intro ys H3 hyl hys hD3 S3 P3
   refine ⟨D,(List.range zs.length).map λ i=>clB cs (ds.getD i default),rfl,SqL.of (by rw [hD3,List.map_map];exact congrArg _ (congrArg _ (zqy hyl hys))),?_⟩
   refine q _ H3 (S2.trans S3) P3 ?_
   rw [hzl]
   exact zgr cs ds
theorem sc_q7:FnScope ["_law_some", "_law_more", "_law_found", "_law_refusal", "e"] ["_law_some", "_law_more"] (zka s_q7):=by walk_at "sc"
theorem zx3 (T:Txt K mg A) (G_q15:zkt P w K mg B A) (G_q11:zhy P w K mg B A):zc3 P w K mg B A:=by
 have B_q15:=T.b_q15
 have B_q11:=T.b_q11
 refine T.F_q7.okN sc_q7 (λ vs H Q E h=>?_) (λ _ _ _ _ H vs Q E hr h=>?_)
 ·obtain ⟨_,p,l,ws,zs,cs,ds,U,rfl,_⟩:=h
  rfl
 ·obtain ⟨hP,p,l,ws,zs,cs,ds,U,rfl,hp,hw,okc,hl,hz,okd,fu,uc,ud,q⟩:=h
  refine ⟨_,(zda (zpa (i:=2) sc_q7.nd rfl (Or.inl rfl) zmm)
   (zda (zpa (i:=3) sc_q7.nd rfl (Or.inl rfl) zmm)
   (zda (ze1 (j:=2) (i:=4) sc_q7.nd T.x_DraftError rfl T.g_DraftError ⟨⟨_,_,_,rfl,rfl,rfl⟩⟩ rfl (λ _ _ _ _ hx=>(zgt G_q15 (hr.mono (by decide)) rfl T.g_q15 T.k_q15 B_q15 .nil hx (zaa (pv 0) (zaa (pv 1) zfa)))) (λ _=>(zha (zpa (i:=3) sc_q7.nd rfl (Or.inl rfl) (pv 4)))))
   (zda (zkg (ztq (zva G_q11 (hr.mono (by decide)) rfl T.g_q11 T.k_q11 B_q11 .nil zec (zaa (pv 0) (zaa (pv 1) zfa)))) (zha (zeb (zl1 (ztm zkx (pv 3) zmm (zyb _)) (zwy (zma zml rfl T.n_isinstance (by decide +kernel) (zaa (pv 2) (zaa (zct (v := .ty "list") rfl T.n_list (by decide +kernel) rfl) zfa))))))) zdb)
   (zda (zkg (PW.pt (zfz (zbb zaw (pv 2) zmm (zyb _)) (zfz (zeu (ztq (zma zji rfl T.n_isinstance (by decide +kernel) (zaa (pv 3) (zaa (zyj (v := .ref A.Unfit) rfl T.g_Unfit rfl) zfa))))) (zfw (zeu (ztq (zma zji rfl T.n_isinstance (by decide +kernel) (zaa (pv 3) (zaa (zct (v := .ty "ValueError") rfl T.n_ValueError (by decide +kernel) rfl) zfa))))))))) (zha (zeb zcv)) zdb)
   (zha (zeb (zv1 (zma ztl rfl T.n_isinstance (by decide +kernel) (zaa (pv 3) (zaa (zub (zaa (zyj (v := .ref A.NoDeed) rfl T.g_NoDeed rfl) (zaa (zyj (v := .ref A.NoSheet) rfl T.g_NoSheet rfl) (zaa (zyj (v := .ref A.NoStretch) rfl T.g_NoStretch rfl) zfa)))) zfa))))))))))),?_⟩
  by_cases hm:Meet cs ds
  ·refine ⟨λ c _ H4=>False,⟨_,rfl,_,rfl,hP,p,l,ws,zs,cs,ds,U,rfl,hp,hw,okc,hl,hz,okd,fu,uc,ud,λ _ x ys fs H1 n1 s1 P1 h1 hw1 okf fl=>?_,λ nf=>absurd hm nf⟩,λ C y H4 hEX hy=>hEX.elim⟩
   refine ⟨_,rfl,_,rfl,P1,p,l,ws,zs,cs,ds,rfl,s1.seq hp,DVs.same s1 _ _ hw,okc,s1.seq hl,DVs.same s1 _ _ hz,okd,λ b H2 s2 P2 hb=>?_⟩
   obtain rfl:b=true:=hb.mpr hm
   refine ⟨_,rfl,iteT ⟨_,rfl,rfl,_,rfl,iteT ⟨_,rfl,x,ys,rfl,SqL.of (s2 _ _ h1),q _ (s1.trans s2) P2⟩⟩⟩
  ·refine ⟨λ c _ H4=>c = .ref A.Unfit∧Same H H4∧Plain H4,⟨_,rfl,_,rfl,hP,p,l,ws,zs,cs,ds,U,rfl,hp,hw,okc,hl,hz,okd,fu,uc,ud,λ hf=>absurd hf hm,λ _ H' s' P'=>⟨rfl,s',P'⟩⟩,λ C y H4 hEX hy=>?_⟩
   obtain ⟨hC,s4,P4⟩:=hEX
   obtain rfl:C=A.Unfit:=by cases hC;rfl
   refine ⟨T.x_Unfit,T.m_ud,?_⟩
   refine ⟨_,rfl,?_⟩
   have s5:Same H4 (upd H4 y (excO y A.Unfit)):=zca hy
   have P5:Plain (upd H4 y (excO y A.Unfit)):=P4.upd trivial
   have h5:(upd H4 y (excO y A.Unfit)) y=some (excO y A.Unfit):=upd_same
   generalize upd H4 y (excO y A.Unfit)=H5 at s5 P5 h5 ⊢
   have S5:=s4.trans s5
   refine ⟨_,rfl,_,rfl,P5,p,l,ws,zs,cs,ds,rfl,S5.seq hp,DVs.same S5 _ _ hw,okc,S5.seq hl,DVs.same S5 _ _ hz,okd,λ b H6 s6 P6 hb=>?_⟩
   obtain rfl:b=false:=by cases b with | false=>rfl | true=>exact absurd (hb.mp rfl) hm
   refine ⟨_,rfl,iteF ?_⟩
   have S6:=S5.trans s6
   have h6':=s6 _ _ h5
   refine ⟨_,rfl,rfl,_,rfl,iteF ?_⟩
   refine ⟨_,rfl,_,_,_,_,_,rfl,h6',T.x_Unfit,rfl,(by show (if (Value.ref _ == Value.ref _)=true then _ else _)=_;rw [if_pos (beq_self_eq_true _)]),true,rfl,iteF ?_⟩
   refine ⟨_,rfl,_,_,_,_,_,rfl,h6',T.x_Unfit,rfl,T.kv,true,rfl,iteF ?_⟩
   refine ⟨_,rfl,(sz_3),λ tp htp=>?_⟩
   refine ⟨_,_,_,_,_,_,rfl,by rw [zga (zba h6' htp)];exact h6',T.x_Unfit,upd_same,rfl,T.kt,_,rfl,?_⟩
   exact q _ (S6.trans (zca htp)) P6.tup
theorem sc_law:FnScope ["_law_script", "_law_row_here", "_law_steps", "_law_left", "_law_right_here", "_law_k", "_law_one", "_law_other", "_law_kept"] ["_law_script"] (zka zvv):=by walk_at "sc"
theorem zk0 (T:Txt K mg A) (G_q0:zg1 P w K mg B A) (G_q4:ze0 P w K mg B A) (G_q17:zxy P w K mg B A) (G_q18:zrw P w K mg B A) (G_q15:zkt P w K mg B A) (G_q14:zsy P w K mg B A) (G_q7:zc3 P w K mg B A):zc1 P w K mg B A:=by
 have B_q0:=T.b_q0
 have B_q4:=T.b_q4
 have B_q17:=T.b_q17
 have B_q18:=T.b_q18
 have B_q15:=T.b_q15
 have B_q14:=T.b_q14
 have B_q7:=T.b_q7
 refine T.F_law.okN sc_law (λ vs H Q E h=>?_) (λ _ _ _ _ H vs Q E hr h=>?_)
 ·obtain ⟨a,ns,rfl,_⟩:=h
  rfl
 ·obtain ⟨a,ns,rfl,hS,hlen,k,hP⟩:=h
  refine ⟨_,(zda (zpa (i:=1) sc_law.nd rfl (Or.inr rfl) (zva G_q14 (hr.mono (by decide)) rfl T.g_q14 T.k_q14 B_q14 .nil zec (zaa (pv 0) zfa)))
   (zda (zyx ["_law_k", "_law_row_here"] 1 [1] (i:=2) sc_law.nd rfl (Or.inl rfl) rfl (zcc rfl T.n_range (zaa (zna zhi (zma zqa rfl T.n_len (by decide +kernel) (zaa (pv 1) zfa)) zea) zfa)) gk1 (λ _ _ _ _ _=>zja (i:=0) (show List.Nodup (["_law_k", "_law_row_here"]:List Str) by decide +kernel) rfl (Or.inl rfl)) (λ _ _ _ _ _=>zrc) (λ _ _ _ _ _=>(zva G_q17 (hr.mono (by decide)) rfl T.g_q17 T.k_q17 B_q17 .nil zec (zaa (zce T.mk_Sheet G_q0 (hr.mono (by decide)) rfl T.g_Sheet B_q0 .nil zec (zaa (zkb (zmo (K:=K) rfl) (pv 1) (pv 0) (λ _ _=>rfl)) zfa)) (zaa (zce T.mk_Sheet G_q0 (hr.mono (by decide)) rfl T.g_Sheet B_q0 .nil zec (zaa (zkb (zmo (K:=K) rfl) (pv 1) (zna zmb (pv 0) zea) (λ _ _=>rfl)) zfa)) zfa)))))
   (zda (zpa (i:=3) sc_law.nd rfl (Or.inl rfl) (zgl zfa))
   (zda (zpa (i:=4) sc_law.nd rfl (Or.inl rfl) (zgl zfa))
   (zda (zoc PassesOwn.never rfl (zcc rfl T.n_range (zaa (zma zqa rfl T.n_len (by decide +kernel) (zaa (pv 2) zfa)) zfa)) (zja (i:=5) sc_law.nd rfl (Or.inl rfl)) (zda (zpa (i:=3) sc_law.nd rfl (Or.inl rfl) (zva G_q15 (hr.mono (by decide)) rfl T.g_q15 T.k_q15 B_q15 .nil zec (zaa (pv 3) (zaa (zkb zla (pv 2) (pv 5) (λ _ _=>rfl)) zfa))))
   (zda (zpa (i:=4) sc_law.nd rfl (Or.inl rfl) (zva G_q15 (hr.mono (by decide)) rfl T.g_q15 T.k_q15 B_q15 .nil zec (zaa (zkb zla (pv 2) (zna zhi (zna zhi (zma zqa rfl T.n_len (by decide +kernel) (zaa (pv 2) zfa)) zea) (pv 5)) (λ _ _=>rfl)) (zaa (pv 4) zfa))))
   (zda (zkg (zbb (zqj hr.units) (pv 3) (zva G_q17 (hr.mono (by decide)) rfl T.g_q17 T.k_q17 B_q17 .nil zec (zaa (zce T.mk_Sheet G_q0 (hr.mono (by decide)) rfl T.g_Sheet B_q0 .nil zec (zaa (zkb zla (pv 1) zea (λ _ _=>rfl)) zfa)) (zaa (zce T.mk_Sheet G_q0 (hr.mono (by decide)) rfl T.g_Sheet B_q0 .nil zec (zaa (zkb zla (pv 1) (zna zmb (pv 5) zea) (λ _ _=>rfl)) zfa)) zfa))) (zyb _)) (zha (zeb zcv)) zdb)
   (zha (zkg (zbb (zqj hr.units) (pv 4) (zva G_q17 (hr.mono (by decide)) rfl T.g_q17 T.k_q17 B_q17 .nil zec (zaa (zce T.mk_Sheet G_q0 (hr.mono (by decide)) rfl T.g_Sheet B_q0 .nil zec (zaa (zkb zla (pv 1) (zna zhi (zna zhi (zma zqa rfl T.n_len (by decide +kernel) (zaa (pv 2) zfa)) zea) (pv 5)) (λ _ _=>rfl)) zfa)) (zaa (zce T.mk_Sheet G_q0 (hr.mono (by decide)) rfl T.g_Sheet B_q0 .nil zec (zaa (zkb zla (pv 1) (zw0 zkv zea) (λ _ _=>rfl)) zfa)) zfa))) (zyb _)) (zha (zeb zcv)) zdb))))))
   (zda (zkg (zbb (zqj hr.units) (zbj (zva G_q18 (hr.mono (by decide)) rfl T.g_q18 T.k_q18 B_q18 .nil zec (zaa (zce T.mk_Sheet G_q0 (hr.mono (by decide)) rfl T.g_Sheet B_q0 .nil zec (zaa (zkb zla (pv 1) zea (λ _ _=>rfl)) zfa)) (zaa (pv 3) zfa))) T.cl_Sheet T.m_q4 G_q4 (hr.mono (by decide)) B_q4 .nil zec) (zkb zla (pv 1) (zw0 zkv zea) (λ _ _=>rfl)) (zyb _)) (zha (zeb zcv)) zdb)
   (zda (zoc PassesOwn.never rfl (zib (pv 2)) (zja (i:=6) sc_law.nd rfl (Or.inl rfl)) (zha (zoc PassesOwn.never rfl (zib (pv 2)) (zja (i:=7) sc_law.nd rfl (Or.inl rfl)) (zda (zpa (i:=8) sc_law.nd rfl (Or.inl rfl) (zub (zaa (zmc zre rfl T.n_list (by decide +kernel) (zaa (pv 6) zfa)) (zaa (zmc zre rfl T.n_list (by decide +kernel) (zaa (pv 7) zfa)) zfa))))
   (zha (zkg (PW.pt (zfz (zeu (ztq (zva G_q7 (hr.mono (by decide)) rfl T.g_q7 T.k_q7 B_q7 .nil zec (zaa (pv 6) (zaa (pv 7) zfa))))) (zfw (zbb (zqj hr.units) (pv 8) (zub (zaa (pv 6) (zaa (pv 7) zfa))) (zyb _))))) (zha (zeb zcv)) zdb))))))
   (zha (zeb zcv))))))))),?_⟩
  refine ⟨_,rfl,hP,a,ns,rfl,hS,by omega,λ rl wr rs U H1 n1 s1 PH1 hrl prs okr fU len2 len10=>?_⟩
  have lwr:wr.length=rs.length:=Paired.length prs
  obtain ⟨G,hG⟩:∃ G:Nat→Sh,∀ i,i<rs.length→rs[i]? = some (G i):=⟨λ i=>rs.getD i [],λ i h=>by dsimp only;rw [List.getD_eq_getElem?_getD,List.getElem?_eq_getElem h];rfl⟩
  have okG:∀ i,i<rs.length→okSh (G i)∧srtd (G i)∧zug (mks (G i))∧∀ k∈mks (G i),k∈U:=λ i h=>okr _ (List.mem_of_getElem? (hG i h))
  have fG:∀ i,i<rs.length→(G i).length<64:=λ i h=>Nat.lt_of_le_of_lt (zus okr (List.mem_of_getElem? (hG i h))) fU
  have hUU:∀ i j,i<rs.length→j<rs.length→∀ m,m∈mks (G i) ∨ m∈mks (G j)→m∈U:=λ i j hi hj m h=>h.elim ((okG i hi).2.2.2 m) ((okG j hj).2.2.2 m)
  have OC:∀ i j,i<rs.length→j<rs.length→∀ ks,IsMk (G i) (G j) ks→ks.length<64→OkC (chgs (G i) (G j) ks):=λ i j hi hj ks hk hl=>ztv (okG i hi).1 (okG j hj).1 hk.1 (λ k h=>((hk.2 k).mp h).elim ((okG i hi).2.2.1 k) ((okG j hj).2.2.1 k)) hl
  clear okr
  refine ⟨_,rfl,rl,wr,rfl,.inl (SqL.of hrl),_,_,rfl,rfl,_,rfl,by omega,by omega,λ D hD=>zlp (λ i=>V.int (0+(i:Int))) (λ i y H=>∃ cs,LsR K [D] H y (cs.map chD)∧IsCh (G i) (G (i+1)) cs∧OkC cs) hD PH1 (n:=((wr.length:Int) - 1).toNat) (sm1 ((by omega))) znz ?_ ?_ ?_⟩
  ·rintro i y Ha Hb ⟨cs,h1,h2⟩ kk hz
   exact ⟨cs,h1.keep kk hz (by simp),h2⟩
  ·intro i H2 R hi PH2 S2 ⟨dz,hDz⟩ hR
   have hi:i<wr.length - 1:=by omega
   rw [Int.zero_add]
   obtain ⟨vxa,hvxa,lxa,zxa,rfl,_,hlxa,hzxa,_⟩:=zfc prs (hG (i) (by omega))
   obtain ⟨vxb,hvxb,lxb,zxb,rfl,_,hlxb,hzxb,_⟩:=zfc prs (hG (i+1) (by omega))
   refine ⟨_,rfl,_,rfl,rl,wr,_,_,rfl,rfl,SqL.of (S2 _ _ hrl),znb hvxa,λ xa dxa nxa ndxa nexa=>?_⟩
   have sxa:Same H2 (upd (upd H2 dxa (.own xa)) xa (.ins A.Sheet dxa [])):=λ b o e=>by
    rw [zga (zba e nxa),zga (zba e ndxa)]
    exact e
   refine ⟨Plain.ins (Plain.upd PH2 trivial),xa,dxa,lxa,zxa,G i,rfl,upd_same,SqL.of ((S2.trans sxa) _ _ hlxa),DVs.same (S2.trans sxa) _ _ hzxa,(okG i (by omega)).1.1,(fG i (by omega)),λ _ H3 k3 Sh3 PH3=>⟨rfl,?_⟩,λ h=>absurd (okG i (by omega)).1.2 h⟩
   have s3:Same H2 H3:=λ b o e=>k3 b o (zba e nxa) (sxa b o e)
   have S3:=S2.trans s3
   refine ⟨_,rfl,_,rfl,_,_,rfl,rfl,rl,wr,_,_,rfl,rfl,SqL.of (S3 _ _ hrl),znb (j:=i+1) hvxb,λ xb dxb nxb ndxb nexb=>?_⟩
   have sxb:Same H3 (upd (upd H3 dxb (.own xb)) xb (.ins A.Sheet dxb [])):=λ b o e=>by
    rw [zga (zba e nxb),zga (zba e ndxb)]
    exact e
   refine ⟨Plain.ins (Plain.upd PH3 trivial),xb,dxb,lxb,zxb,G (i+1),rfl,upd_same,SqL.of ((S3.trans sxb) _ _ hlxb),DVs.same (S3.trans sxb) _ _ hzxb,(okG (i+1) (by omega)).1.1,(fG (i+1) (by omega)),λ _ H4 k4 Sh4 PH4=>⟨rfl,?_⟩,λ h=>absurd (okG (i+1) (by omega)).1.2 h⟩
   have s4:Same H3 H4:=λ b o e=>k4 b o (zba e nxb) (sxb b o e)
   refine ⟨PH4,G i,G (i+1),⟨xa,xb,U,rfl,Sh3.same s4,Sh4,hUU i (i+1) (by omega) (by omega),fU⟩,λ lt ks wst H5 n5 s5 P5 hlt hmk hkl hwt=>?_⟩
   have S5:=(s3.trans s4).trans s5
   refine hR _ _ ⟨_,⟨lt,wst,rfl,λ z=>?_,hlt,hwt,zxs _⟩,zzf hmk,OC i (i+1) (by omega) (by omega) ks hmk hkl⟩ S5 P5
   rw [List.mem_singleton.mp z,(s3.trans s4) _ _ hDz] at n5
   cases n5
  intro ws H2 hwl hws hsl S2 PH2
  have st:StpAt K H2 ws G:=λ i v e=>by
   obtain ⟨cs,h1,h2⟩:=hws i v e
   exact ⟨cs,h1.less (by simp),h2⟩
  clear hws
  have hwl:ws.length+1=rs.length:=by omega
  refine ⟨Nat.zero_le _,λ lf hp3=>?_⟩
  generalize hH3:upd H2 lf (HO.lst _)=H3
  have s3:Same H2 H3:=hH3 ▸ zca hp3
  have PH3:Plain H3:=hH3 ▸ PH2.lst
  have h3:=(congrFun hH3 lf).symm.trans upd_same
  refine ⟨Nat.zero_le _,λ lg hp4=>?_⟩
  generalize hH4:upd H3 lg (HO.lst _)=H4
  have s4:Same H3 H4:=hH4 ▸ zca hp4
  have PH4:Plain H4:=hH4 ▸ PH3.lst
  have h4:=(congrFun hH4 lg).symm.trans upd_same
  have S4:=(S2.trans s3).trans s4
  have st4:=st.same (s3.trans s4)
  have hsl4:=(s3.trans s4) _ _ hsl
  have ok0:OkC []:=⟨(λ c h=>by cases h),List.Pairwise.nil,(λ k h=>by cases h),by decide⟩
  refine ⟨_,rfl,D,ws,rfl,.inl (SqL.of hsl4),_,rfl,by omega,by omega,zzc (n:=ws.length) (λ i σ H5=>∃ (o5 o6 o7 o8:Option V) (lf lg:Addr) (zl zr:List V) (cl cr:List Chg),σ=[some (.ref a),some (.ref rl),some (.ref D),some (.ref lf),some (.ref lg),o5,o6,o7,o8]∧Plain H5∧Same H4 H5∧H5 lf=some (.lst zl)∧DVs K H5 (cl.map chD) zl∧OkC cl∧IsCh (G 0) (G i) cl∧H5 lg=some (.lst zr)∧DVs K H5 (cr.map chD) zr∧OkC cr∧IsCh (G (ws.length - i)) (G ws.length) cr)
   ⟨_,_,_,_,lf,lg,[],[],[],[],rfl,PH4,Same.refl _,s4 _ _ h3,rfl,ok0,IsCh.self _,h4,rfl,ok0,IsCh.self _⟩ ?_ ?_⟩
  ·rintro i σ H5 hi ⟨o5,o6,o7,o8,lf,lg,zl,zr,cl,cr,rfl,PH5,S5,hlf,hzl,okl,hcl,hlg,hzr,okr,hcr⟩
   rw [Int.zero_add]
   have st5:=st4.same S5
   have hsl5:=S5 _ _ hsl4
   obtain ⟨c1,⟨l1,z1,e1,_,hl1,hz1,_⟩,hc1,okc1⟩:=st5 i _ (List.getElem?_eq_getElem hi)
   obtain ⟨c2,⟨l2,z2,e2,_,hl2,hz2,_⟩,hc2,okc2⟩:=st5 (ws.length - 1 - i) _ (List.getElem?_eq_getElem (show ws.length - 1 - i<ws.length by omega))
   rw [show ws.length - 1 - i+1=ws.length - i by omega] at hc2
   have inG:∀ j,j<rs.length→∀ k∈mks (G j),k∈U:=λ j hj=>(okG j hj).2.2.2
   refine ⟨_,rfl,_,rfl,_,rfl,D,ws,_,_,rfl,rfl,SqL.of hsl5,(by rw [← e1];exact znb (List.getElem?_eq_getElem hi)),PH5,lf,l1,zl,z1,cl,c1,U,rfl,SqL.of hlf,hzl,okl,SqL.of hl1,hz1,okc1,fU,zwv hcl (inG _ (by omega)) (inG _ (by omega)),zwv hc1 (inG _ (by omega)) (inG _ (by omega)),λ _ lf zl f1 H6 n6 s6 PH6 hlf hzl okl fl=>?_,λ nf=>absurd (zqs hcl hc1) nf⟩
   have hcl:=zf3 hcl hc1 fl
   have S6:=S5.trans s6
   refine ⟨_,rfl,_,rfl,D,ws,rfl,.inl (SqL.of (S6 _ _ hsl4)),_,_,rfl,rfl,_,rfl,_,_,rfl,rfl,D,ws,_,_,rfl,rfl,SqL.of (S6 _ _ hsl4),(by rw [show (ws.length:Int) - 1 - (i:Int)=((ws.length - 1 - i:Nat):Int) by omega,← e2];exact znb (List.getElem?_eq_getElem _)),_,rfl,PH6,l2,lg,z2,zr,c2,cr,U,rfl,SqL.of (s6 _ _ hl2),DVs.same s6 _ _ hz2,okc2,SqL.of (s6 _ _ hlg),DVs.same s6 _ _ hzr,okr,fU,zwv hc2 (inG _ (by omega)) (inG _ (by omega)),zwv hcr (inG _ (by omega)) (inG _ (by omega)),λ _ lg zr f2 H7 n7 s7 PH7 hlg hzr okr fr=>?_,λ nf=>absurd (zqs hc2 hcr) nf⟩
   have hcr:=zf3 hc2 hcr fr
   have S7:=S6.trans s7
   have S17:=S4.trans S7
   obtain ⟨vxa,hvxa,lxa,zxa,rfl,_,hlxa,hzxa,_⟩:=zfc prs (hG (0) (by omega))
   obtain ⟨vxb,hvxb,lxb,zxb,rfl,_,hlxb,hzxb,_⟩:=zfc prs (hG (i+1) (by omega))
   obtain ⟨vxc,hvxc,lxc,zxc,rfl,_,hlxc,hzxc,_⟩:=zfc prs (hG (ws.length - 1 - i) (by omega))
   obtain ⟨vxd,hvxd,lxd,zxd,rfl,_,hlxd,hzxd,_⟩:=zfc prs (hG (ws.length) (by omega))
   refine ⟨_,rfl,_,rfl,rl,wr,_,_,rfl,rfl,SqL.of (S17 _ _ hrl),znb (j:=0) hvxa,λ xa dxa nxa ndxa nexa=>?_⟩
   have sxa:Same H7 (upd (upd H7 dxa (.own xa)) xa (.ins A.Sheet dxa [])):=λ b o e=>by
    rw [zga (zba e nxa),zga (zba e ndxa)]
    exact e
   refine ⟨Plain.ins (Plain.upd PH7 trivial),xa,dxa,lxa,zxa,G 0,rfl,upd_same,SqL.of ((S17.trans sxa) _ _ hlxa),DVs.same (S17.trans sxa) _ _ hzxa,(okG 0 (by omega)).1.1,(fG 0 (by omega)),λ _ H8 k8 Sh8 PH8=>⟨rfl,?_⟩,λ h=>absurd (okG 0 (by omega)).1.2 h⟩
   have s8:Same H7 H8:=λ b o e=>k8 b o (zba e nxa) (sxa b o e)
   have S18:=S17.trans s8
   refine ⟨_,rfl,_,rfl,_,_,rfl,rfl,rl,wr,_,_,rfl,rfl,SqL.of (S18 _ _ hrl),znb (j:=i+1) hvxb,λ xb dxb nxb ndxb nexb=>?_⟩
   have sxb:Same H8 (upd (upd H8 dxb (.own xb)) xb (.ins A.Sheet dxb [])):=λ b o e=>by
    rw [zga (zba e nxb),zga (zba e ndxb)]
    exact e
   refine ⟨Plain.ins (Plain.upd PH8 trivial),xb,dxb,lxb,zxb,G (i+1),rfl,upd_same,SqL.of ((S18.trans sxb) _ _ hlxb),DVs.same (S18.trans sxb) _ _ hzxb,(okG (i+1) (by omega)).1.1,(fG (i+1) (by omega)),λ _ H9 k9 Sh9 PH9=>⟨rfl,?_⟩,λ h=>absurd (okG (i+1) (by omega)).1.2 h⟩
   have s9:Same H8 H9:=λ b o e=>k9 b o (zba e nxb) (sxb b o e)
   refine ⟨PH9,G 0,G (i+1),⟨xa,xb,U,rfl,Sh8.same s9,Sh9,hUU 0 (i+1) (by omega) (by omega),fU⟩,λ lt ks wst H10 n10 s10 PH10 hlt hmk hkl hwt=>?_⟩
   obtain rfl:f1=chgs (G 0) (G (i+1)) ks:=hcl.one (zzf hmk)
   have s710:=(s8.trans s9).trans s10
   have hlf:=(s7.trans s710) _ _ hlf
   have hzl:=DVs.same (s7.trans s710) _ _ hzl
   refine ⟨.list _,.list _,⟨lf,_,rfl,SqL.of hlf,hzl⟩,⟨lt,wst,rfl,SqL.of hlt,hwt⟩,zad okl.1,zad okl.1,_,rfl,?_⟩
   rw [zbk okl.1]
   refine iteF ?_
   have S110:=S17.trans s710
   refine ⟨_,rfl,_,rfl,_,rfl,D,ws,rfl,.inl (SqL.of ((S7.trans s710) _ _ hsl4)),_,_,rfl,rfl,_,rfl,_,_,rfl,rfl,rl,wr,_,_,rfl,rfl,SqL.of (S110 _ _ hrl),(by rw [show (ws.length:Int) - 1 - (i:Int)=((ws.length - 1 - i:Nat):Int) by omega];exact znb hvxc),λ xc dxc nxc ndxc nexc=>?_⟩
   have sxc:Same H10 (upd (upd H10 dxc (.own xc)) xc (.ins A.Sheet dxc [])):=λ b o e=>by
    rw [zga (zba e nxc),zga (zba e ndxc)]
    exact e
   refine ⟨Plain.ins (Plain.upd PH10 trivial),xc,dxc,lxc,zxc,G (ws.length - 1 - i),rfl,upd_same,SqL.of ((S110.trans sxc) _ _ hlxc),DVs.same (S110.trans sxc) _ _ hzxc,(okG (ws.length - 1 - i) (by omega)).1.1,(fG (ws.length - 1 - i) (by omega)),λ _ H11 k11 Sh11 PH11=>⟨rfl,?_⟩,λ h=>absurd (okG (ws.length - 1 - i) (by omega)).1.2 h⟩
   have s11:Same H10 H11:=λ b o e=>k11 b o (zba e nxc) (sxc b o e)
   have S111:=S110.trans s11
   refine ⟨_,rfl,_,rfl,rl,wr,_,_,rfl,rfl,SqL.of (S111 _ _ hrl),zwi (by rw [show wr.length - 1=ws.length by omega];exact hvxd),λ xd dxd nxd ndxd nexd=>?_⟩
   have sxd:Same H11 (upd (upd H11 dxd (.own xd)) xd (.ins A.Sheet dxd [])):=λ b o e=>by
    rw [zga (zba e nxd),zga (zba e ndxd)]
    exact e
   refine ⟨Plain.ins (Plain.upd PH11 trivial),xd,dxd,lxd,zxd,G ws.length,rfl,upd_same,SqL.of ((S111.trans sxd) _ _ hlxd),DVs.same (S111.trans sxd) _ _ hzxd,(okG ws.length (by omega)).1.1,(fG ws.length (by omega)),λ _ H12 k12 Sh12 PH12=>⟨rfl,?_⟩,λ h=>absurd (okG ws.length (by omega)).1.2 h⟩
   have s12:Same H11 H12:=λ b o e=>k12 b o (zba e nxd) (sxd b o e)
   refine ⟨PH12,G (ws.length - 1 - i),G ws.length,⟨xc,xd,U,rfl,Sh11.same s12,Sh12,hUU _ _ (by omega) (by omega),fU⟩,λ lt2 ks2 wst2 H13 n13 s13 PH13 hlt2 hmk2 hkl2 hwt2=>?_⟩
   obtain rfl:f2=chgs (G (ws.length - 1 - i)) (G ws.length) ks2:=hcr.one (zzf hmk2)
   have s1013:=(s11.trans s12).trans s13
   have s713:=s710.trans s1013
   have hlg:=s713 _ _ hlg
   have hzr:=DVs.same s713 _ _ hzr
   refine ⟨.list _,.list _,⟨lg,_,rfl,SqL.of hlg,hzr⟩,⟨lt2,wst2,rfl,SqL.of hlt2,hwt2⟩,zad okr.1,zad okr.1,_,rfl,?_⟩
   rw [zbk okr.1]
   refine iteF ?_
   exact ⟨_,_,_,_,lf,lg,_,_,_,_,rfl,PH13,S7.trans s713,s1013 _ _ hlf,DVs.same s1013 _ _ hzl,okl,hcl,hlg,hzr,okr,by rw [show ws.length - (i+1)=ws.length - 1 - i by omega];exact hcr⟩
  rintro σ H5 ⟨o5,o6,o7,o8,lf,lg,zl,zr,cl,cr,rfl,PH5,S5,hlf,hzl,okl,hcl, -, -, -, -⟩
  have S15:=S4.trans S5
  obtain ⟨vxa,hvxa,lxa,zxa,rfl,_,hlxa,hzxa,_⟩:=zfc prs (hG (0) (by omega))
  obtain ⟨vxd,hvxd,lxd,zxd,rfl,_,hlxd,hzxd,_⟩:=zfc prs (hG (ws.length) (by omega))
  refine ⟨_,rfl,rl,wr,_,_,rfl,rfl,SqL.of (S15 _ _ hrl),znb (j:=0) hvxa,λ xa dxa nxa ndxa nexa=>?_⟩
  have sxa:Same H5 (upd (upd H5 dxa (.own xa)) xa (.ins A.Sheet dxa [])):=λ b o e=>by
   rw [zga (zba e nxa),zga (zba e ndxa)]
   exact e
  refine ⟨Plain.ins (Plain.upd PH5 trivial),xa,dxa,lxa,zxa,G 0,rfl,upd_same,SqL.of ((S15.trans sxa) _ _ hlxa),DVs.same (S15.trans sxa) _ _ hzxa,(okG 0 (by omega)).1.1,(fG 0 (by omega)),λ _ H6 k6 Sh6 PH6=>⟨rfl,?_⟩,λ h=>absurd (okG 0 (by omega)).1.2 h⟩
  have s6:Same H5 H6:=λ b o e=>k6 b o (zba e nxa) (sxa b o e)
  refine ⟨_,rfl,PH6,xa,lf,G 0,zl,cl,U,rfl,Sh6,SqL.of (s6 _ _ hlf),DVs.same s6 _ _ hzl,okl,(okG 0 (by omega)).2.2.1,fU,(λ _ k hk=>(okG ws.length (by omega)).2.2.2 k (zzt (by rw [← zio hcl];exact hk))),λ _ xb nb H7 n7 s7 PH7 Sh7 lk7=>?_,λ nf=>absurd (zcw hcl) nf⟩
  obtain ⟨dxc,_,_,_,hxc,_⟩:=id Sh7.ex
  refine ⟨xb,dxc,_,rfl,hxc,rfl,PH7,xb,nb,rfl,Sh7,λ H8 l8 bs8 z8 n8 s8 PH8 h8 pm8 pw8 hz8=>?_⟩
  have okz:=okG ws.length (by omega)
  have pmb:nb.Perm (G ws.length):=zvq Sh7.nd okz.1.2 λ k=>(lk7 k).trans (zio hcl k)
  obtain rfl:bs8=G ws.length:=uniq (r:=λ (a b:Mark×Ver)=>mLt a.1 b.1=true) (λ a b=>zjy a.1 b.1) (pm8.trans pmb) pw8 okz.2.1
  have s58:=(s6.trans s7).trans s8
  have S18:=S15.trans s58
  refine ⟨_,rfl,_,rfl,rl,wr,_,_,rfl,rfl,SqL.of (S18 _ _ hrl),zwi (by rw [show wr.length - 1=ws.length by omega];exact hvxd),?_⟩
  refine ⟨.list _,.list _,⟨l8,z8,rfl,SqL.of h8,hz8⟩,⟨_,_,rfl,SqL.of (S18 _ _ hlxd),DVs.same S18 _ _ hzxd⟩,zzg okz.1.1,zzg okz.1.1,_,rfl,?_⟩
  rw [zcy okz.1.1]
  refine iteF ?_
  have st8:=st4.same (S5.trans s58)
  have hsl8:=(S5.trans s58) _ _ hsl4
  refine ⟨_,rfl,D,rfl,⟨_,SqL.of hsl8⟩,zjc (K:=K) (a:=D) (xs:=ws) (λ i σ H9=>∃ (o6 o7 o8:Option V),σ=[some (.ref a),some (.ref rl),some (.ref D),some (.ref lf),some (.ref lg),o5,o6,o7,o8]∧Plain H9∧Same H8 H9)
   ⟨_,_,_,rfl,PH8,Same.refl _⟩ (λ i σ H2 _ ⟨_,_,_,_,_,s⟩=>SqL.of (s _ _ hsl8)) ?_ ?_⟩
  ·rintro i y σ H9 hy ⟨o6,o7,o8,rfl,P9,S9⟩
   obtain ⟨c1,⟨l1,z1,rfl,_,hl1,hz1,_⟩,hc1,okc1⟩:=st8 i _ hy
   have hi:=(List.getElem?_eq_some_iff.mp hy).1
   refine ⟨_,rfl,D,rfl,⟨_,SqL.of (S9 _ _ hsl8)⟩,zjc (K:=K) (a:=D) (xs:=ws) (λ j σ H10=>∃ (o7 o8:Option V),σ=[some (.ref a),some (.ref rl),some (.ref D),some (.ref lf),some (.ref lg),o5,some (.ref l1),o7,o8]∧Plain H10∧Same H8 H10)
    ⟨_,_,rfl,P9,S9⟩ (λ i σ H2 _ ⟨_,_,_,_,s⟩=>SqL.of (s _ _ hsl8)) ?_ ?_⟩
   ·rintro j y σ H10 hy2 ⟨o7,o8,rfl,P10,S10⟩
    obtain ⟨c2,⟨l2,z2,rfl,_,hl2,hz2,_⟩,hc2,okc2⟩:=st8 j _ hy2
    have hj:=(List.getElem?_eq_some_iff.mp hy2).1
    refine ⟨_,rfl,l1,z1,rfl,.inl (SqL.of (S10 _ _ hl1)),λ la hp11=>?_⟩
    generalize hH11:upd H10 la (HO.lst _)=H11
    have s11:Same H10 H11:=hH11 ▸ zca hp11
    have P11:Plain H11:=hH11 ▸ P10.lst
    have h11:=(congrFun hH11 la).symm.trans upd_same
    have S11:=S10.trans s11
    refine ⟨_,rfl,l2,z2,rfl,.inl (SqL.of (S11 _ _ hl2)),λ lb hp12=>?_⟩
    generalize hH12:upd H11 lb (HO.lst _)=H12
    have s12:Same H11 H12:=hH12 ▸ zca hp12
    have P12:Plain H12:=hH12 ▸ P11.lst
    have h12:=(congrFun hH12 lb).symm.trans upd_same
    refine ⟨sz_2,λ tp hp13=>?_⟩
    generalize hH13:upd H12 tp (HO.tup _)=H13
    have s13:Same H12 H13:=hH13 ▸ zca hp13
    have P13:Plain H13:=hH13 ▸ P12.tup
    have h13:=(congrFun hH13 tp).symm.trans upd_same
    have S13:=(S11.trans s12).trans s13
    refine ⟨_,rfl,_,rfl,P13,l1,l2,z1,z2,c1,c2,U,rfl,SqL.of (S13 _ _ hl1),DVs.same S13 _ _ hz1,okc1,SqL.of (S13 _ _ hl2),DVs.same S13 _ _ hz2,okc2,fU,zwv hc1 (okG i (by omega)).2.2.2 (okG (i+1) (by omega)).2.2.2,zwv hc2 (okG j (by omega)).2.2.2 (okG (j+1) (by omega)).2.2.2,λ H14 s14 P14=>⟨true,rfl,iteF ?_⟩⟩
    refine ⟨_,rfl,_,rfl,_,rfl,sz_2,λ tq hp15=>?_⟩
    generalize hH15:upd H14 tq (HO.tup _)=H15
    have s15:Same H14 H15:=hH15 ▸ zca hp15
    have P15:Plain H15:=hH15 ▸ P14.tup
    have h15:=(congrFun hH15 tq).symm.trans upd_same
    have S15:=(S13.trans s14).trans s15
    have hz1:=DVs.same S15 _ _ hz1
    have hz2:=DVs.same S15 _ _ hz2
    have s1315:=s14.trans s15
    refine ⟨.tuple [.list _,.list _],.tuple [.list _,.list _],⟨tp,_,rfl,SqT.of (s1315 _ _ h13),_,_,rfl,⟨la,_,rfl,SqL.of (((s12.trans s13).trans s1315) _ _ h11),hz1⟩,_,_,rfl,⟨lb,_,rfl,SqL.of ((s13.trans s1315) _ _ h12),hz2⟩,rfl⟩,⟨tq,_,rfl,SqT.of h15,_,_,rfl,⟨l1,_,rfl,SqL.of (S15 _ _ hl1),hz1⟩,_,_,rfl,⟨l2,_,rfl,SqL.of (S15 _ _ hl2),hz2⟩,rfl⟩,zbh okc1.1 okc2.1,zbh okc1.1 okc2.1,_,rfl,?_⟩
    rw [zsw okc1.1 okc2.1]
    refine iteF ?_
    exact ⟨_,_,rfl,P15,S15⟩
   rintro σ H10 ⟨o7,o8,rfl,P10,S10⟩
   exact ⟨_,_,_,rfl,P10,S10⟩
  rintro σ H9 ⟨o6,o7,o8,rfl,P9,S9⟩
  exact k _
end
theorem ln_1 {us:List Value} (h:us.length=1):∃ a0,us=[a0]:=match us,h with | [a0],_=>⟨a0,rfl⟩
theorem ln_2 {us:List Value} (h:us.length=2):∃ a0 a1,us=[a0,a1]:=match us,h with | [a0,a1],_=>⟨a0,a1,rfl⟩
theorem ln_3 {us:List Value} (h:us.length=3):∃ a0 a1 a2,us=[a0,a1,a2]:=match us,h with | [a0,a1,a2],_=>⟨a0,a1,a2,rfl⟩
set_option maxHeartbeats 0 in
theorem all_mk {l:W.OpenLaw} {w:World} {K:W.Frag} {h:Heap} {mg:Str→Option Value} {fa:Addr} (X:K.In h) (G:h.Ns mainGlobals mg) (hfa:mg "law" = some (.ref fa))
  {f_q0:Addr} {d_q0:FuncData}
  {f_q4:Addr} {d_q4:FuncData}
  {f_q1:Addr} {d_q1:FuncData}
  {f_q5:Addr} {d_q5:FuncData}
  {f_q16:Addr} {d_q16:FuncData}
  {f_q2:Addr} {d_q2:FuncData}
  {f_q17:Addr} {d_q17:FuncData}
  {f_q18:Addr} {d_q18:FuncData}
  {f_q15:Addr} {d_q15:FuncData}
  {f_q6:Addr} {d_q6:FuncData}
  {f_q9:Addr} {d_q9:FuncData}
  {f_q10:Addr} {d_q10:FuncData}
  {f_q3:Addr} {d_q3:FuncData}
  {f_q8:Addr} {d_q8:FuncData}
  {f_q13:Addr} {d_q13:FuncData}
  {f_q12:Addr} {d_q12:FuncData}
  {f_q14:Addr} {d_q14:FuncData}
  {f_q11:Addr} {d_q11:FuncData}
  {f_q7:Addr} {d_q7:FuncData}
  {f_law:Addr} {d_law:FuncData}
  {C_DraftError:Addr}
  {C_NoDeed:Addr}
  {C_NoSheet:Addr}
  {C_NoStretch:Addr}
  {C_Sheet:Addr}
  {C_Unfit:Addr}
  (a_q0:W.findIn K (.ref C_Sheet) "__init__" = some (some (.ref f_q0))) (i_q0:W.isFn K (.ref f_q0)=true) (F_q0:Fun K "__init__" "Sheet.__init__" s_q0 f_q0 d_q0)
  (a_q4:W.findIn K (.ref C_Sheet) "pairs" = some (some (.ref f_q4))) (i_q4:W.isFn K (.ref f_q4)=true) (F_q4:Fun K "pairs" "Sheet.pairs" s_q4 f_q4 d_q4)
  (a_q1:W.findIn K (.ref C_Sheet) "version" = some (some (.ref f_q1))) (i_q1:W.isFn K (.ref f_q1)=true) (F_q1:Fun K "version" "Sheet.version" s_q1 f_q1 d_q1)
  (a_q5:W.findIn K (.ref C_Sheet) "given" = some (some (.ref f_q5))) (i_q5:W.isFn K (.ref f_q5)=true) (F_q5:Fun K "given" "Sheet.given" s_q5 f_q5 d_q5)
  (a_q16:W.nsIn K mainGlobals "marks_of" = some (some (.ref f_q16))) (F_q16:Fun K "marks_of" "marks_of" zk1 f_q16 d_q16)
  (a_q2:W.nsIn K mainGlobals "true_changes" = some (some (.ref f_q2))) (F_q2:Fun K "true_changes" "true_changes" s_q2 f_q2 d_q2)
  (a_q17:W.nsIn K mainGlobals "changes" = some (some (.ref f_q17))) (F_q17:Fun K "changes" "changes" zs1 f_q17 d_q17)
  (a_q18:W.nsIn K mainGlobals "laid" = some (some (.ref f_q18))) (F_q18:Fun K "laid" "laid" zu0 f_q18 d_q18)
  (a_q15:W.nsIn K mainGlobals "followed" = some (some (.ref f_q15))) (F_q15:Fun K "followed" "followed" zlz f_q15 d_q15)
  (a_q6:W.nsIn K mainGlobals "_law_digits" = some (some (.ref f_q6))) (F_q6:Fun K "_law_digits" "_law_digits" s_q6 f_q6 d_q6)
  (a_q9:W.nsIn K mainGlobals "_law_signs" = some (some (.ref f_q9))) (F_q9:Fun K "_law_signs" "_law_signs" s_q9 f_q9 d_q9)
  (a_q10:W.nsIn K mainGlobals "_law_words" = some (some (.ref f_q10))) (F_q10:Fun K "_law_words" "_law_words" zhz f_q10 d_q10)
  (a_q3:W.nsIn K mainGlobals "_law_version" = some (some (.ref f_q3))) (F_q3:Fun K "_law_version" "_law_version" s_q3 f_q3 d_q3)
  (a_q8:W.nsIn K mainGlobals "_law_pairs" = some (some (.ref f_q8))) (F_q8:Fun K "_law_pairs" "_law_pairs" s_q8 f_q8 d_q8)
  (a_q13:W.nsIn K mainGlobals "_law_bent" = some (some (.ref f_q13))) (F_q13:Fun K "_law_bent" "_law_bent" zyz f_q13 d_q13)
  (a_q12:W.nsIn K mainGlobals "_law_back" = some (some (.ref f_q12))) (F_q12:Fun K "_law_back" "_law_back" zb1 f_q12 d_q12)
  (a_q14:W.nsIn K mainGlobals "_law_row" = some (some (.ref f_q14))) (F_q14:Fun K "_law_row" "_law_row" zgz f_q14 d_q14)
  (a_q11:W.nsIn K mainGlobals "_law_clear" = some (some (.ref f_q11))) (F_q11:Fun K "_law_clear" "_law_clear" zf0 f_q11 d_q11)
  (a_q7:W.nsIn K mainGlobals "_law_right" = some (some (.ref f_q7))) (F_q7:Fun K "_law_right" "_law_right" s_q7 f_q7 d_q7)
  (a_law:W.nsIn K mainGlobals "law" = some (some (.ref f_law))) (F_law:Fun K "law" "law" zvv f_law d_law)
  (q_DraftError:W.nsIn K mainGlobals "DraftError" = some (some (.ref C_DraftError)))
  (x_DraftError:XCls K C_DraftError)
  (q_NoDeed:W.nsIn K mainGlobals "NoDeed" = some (some (.ref C_NoDeed)))
  (x_NoDeed:XCls K C_NoDeed)
  (q_NoSheet:W.nsIn K mainGlobals "NoSheet" = some (some (.ref C_NoSheet)))
  (x_NoSheet:XCls K C_NoSheet)
  (q_NoStretch:W.nsIn K mainGlobals "NoStretch" = some (some (.ref C_NoStretch)))
  (x_NoStretch:XCls K C_NoStretch)
  (q_Sheet:W.nsIn K mainGlobals "Sheet" = some (some (.ref C_Sheet)))
  (pg_Sheet:W.plainGet K C_Sheet Str.empty=true) (hd_Sheet:W.hasDictIn K C_Sheet=true) (po_Sheet:W.plainOver K C_Sheet=true) (sa_Sheet:W.findIn K (.ref C_Sheet) "__setattr__" = some (some (.builtin "object.__setattr__"))) (mk_Sheet:W.makesIn K C_Sheet=true) (kc_Sheet:W.keepIn K (.ref C_Sheet)=true)
  (na_Sheet_versions:W.findIn K (.ref C_Sheet) "versions" = some none)
  (q_Unfit:W.nsIn K mainGlobals "Unfit" = some (some (.ref C_Unfit)))
  (x_Unfit:XCls K C_Unfit)
  (m_ud:W.mroIn K C_Unfit (.ref C_DraftError)=some true)
  (kv:W.kitOne K (.ref C_Unfit) (.type "ValueError")=some true)
  (kt:W.kitAny K (.ref C_Unfit) [.ref C_NoDeed,.ref C_NoSheet,.ref C_NoStretch]=some false)
  (n_ValueError:W.nsIn K mainGlobals "ValueError" = some none)
  (n_all:W.nsIn K mainGlobals "all" = some none)
  (n_dict:W.nsIn K mainGlobals "dict" = some none)
  (n_enumerate:W.nsIn K mainGlobals "enumerate" = some none)
  (n_isinstance:W.nsIn K mainGlobals "isinstance" = some none)
  (n_len:W.nsIn K mainGlobals "len" = some none)
  (n_list:W.nsIn K mainGlobals "list" = some none)
  (n_min:W.nsIn K mainGlobals "min" = some none)
  (n_range:W.nsIn K mainGlobals "range" = some none)
  (n_sorted:W.nsIn K mainGlobals "sorted" = some none)
  (n_tuple:W.nsIn K mainGlobals "tuple" = some none)
  : ∃ fd:FuncData,(∀ (s:Shared) (v:Value),BindsTo s fd ⟨[v],[]⟩ [("_law_script",v)])∧∀ B:Heap,K.In B→B.Ns mainGlobals mg→FnOk l.prog w K mg B (CX1 l.prog w B) 6 fa fd ["_law_script"] (sp_law K):=by
 have e:=hfa.symm.trans (W.mg_of X G a_law)
 cases e
 obtain ⟨oc_law,od_law,kV_law,dc_law,pm_law,an_law,cd_law,ct_law,sl_law,rfl,l_law,c_law⟩:=id F_law.ex
 have T:Txt K mg ⟨f_q0,d_q0,f_q4,d_q4,f_q1,d_q1,f_q5,d_q5,f_q16,d_q16,f_q2,d_q2,f_q17,d_q17,f_q18,d_q18,f_q15,d_q15,f_q6,d_q6,f_q9,d_q9,f_q10,d_q10,f_q3,d_q3,f_q8,d_q8,f_q13,d_q13,f_q12,d_q12,f_q14,d_q14,f_q11,d_q11,f_q7,d_q7,fa,_,C_DraftError,C_NoDeed,C_NoSheet,C_NoStretch,C_Sheet,C_Unfit⟩:=⟨F_q0,(F_q0.binds λ _ _ _ _ _ _ us hl=>by obtain ⟨a0,a1,rfl⟩:=ln_2 hl;rfl),⟨mk_Sheet,a_q0,i_q0,kc_Sheet⟩,F_q4,(F_q4.binds λ _ _ _ _ _ _ us hl=>by obtain ⟨a0,rfl⟩:=ln_1 hl;rfl),⟨a_q4,i_q4,F_q4.kp⟩,F_q1,(F_q1.binds λ _ _ _ _ _ _ us hl=>by obtain ⟨a0,a1,rfl⟩:=ln_2 hl;rfl),⟨a_q1,i_q1,F_q1.kp⟩,F_q5,(F_q5.binds λ _ _ _ _ _ _ us hl=>by obtain ⟨a0,a1,rfl⟩:=ln_2 hl;rfl),⟨a_q5,i_q5,F_q5.kp⟩,F_q16,(W.mg_of X G a_q16),F_q16.kp,(F_q16.binds λ _ _ _ _ _ _ us hl=>by obtain ⟨a0,a1,rfl⟩:=ln_2 hl;rfl),F_q2,(W.mg_of X G a_q2),F_q2.kp,(F_q2.binds λ _ _ _ _ _ _ us hl=>by obtain ⟨a0,rfl⟩:=ln_1 hl;rfl),F_q17,(W.mg_of X G a_q17),F_q17.kp,(F_q17.binds λ _ _ _ _ _ _ us hl=>by obtain ⟨a0,a1,rfl⟩:=ln_2 hl;rfl),F_q18,(W.mg_of X G a_q18),F_q18.kp,(F_q18.binds λ _ _ _ _ _ _ us hl=>by obtain ⟨a0,a1,rfl⟩:=ln_2 hl;rfl),F_q15,(W.mg_of X G a_q15),F_q15.kp,(F_q15.binds λ _ _ _ _ _ _ us hl=>by obtain ⟨a0,a1,rfl⟩:=ln_2 hl;rfl),F_q6,(W.mg_of X G a_q6),F_q6.kp,(F_q6.binds λ _ _ _ _ _ _ us hl=>by obtain ⟨a0,a1,rfl⟩:=ln_2 hl;rfl),F_q9,(W.mg_of X G a_q9),F_q9.kp,(F_q9.binds λ _ _ _ _ _ _ us hl=>match us,hl with | [],_=>rfl),F_q10,(W.mg_of X G a_q10),F_q10.kp,(F_q10.binds λ _ _ _ _ _ _ us hl=>by obtain ⟨a0,a1,rfl⟩:=ln_2 hl;rfl),F_q3,(W.mg_of X G a_q3),F_q3.kp,(F_q3.binds λ _ _ _ _ _ _ us hl=>by obtain ⟨a0,rfl⟩:=ln_1 hl;rfl),F_q8,(W.mg_of X G a_q8),F_q8.kp,(F_q8.binds λ _ _ _ _ _ _ us hl=>by obtain ⟨a0,rfl⟩:=ln_1 hl;rfl),F_q13,(W.mg_of X G a_q13),F_q13.kp,(F_q13.binds λ _ _ _ _ _ _ us hl=>by obtain ⟨a0,a1,a2,rfl⟩:=ln_3 hl;rfl),F_q12,(W.mg_of X G a_q12),F_q12.kp,(F_q12.binds λ _ _ _ _ _ _ us hl=>by obtain ⟨a0,a1,a2,rfl⟩:=ln_3 hl;rfl),F_q14,(W.mg_of X G a_q14),F_q14.kp,(F_q14.binds λ _ _ _ _ _ _ us hl=>by obtain ⟨a0,rfl⟩:=ln_1 hl;rfl),F_q11,(W.mg_of X G a_q11),F_q11.kp,(F_q11.binds λ _ _ _ _ _ _ us hl=>by obtain ⟨a0,a1,rfl⟩:=ln_2 hl;rfl),F_q7,(W.mg_of X G a_q7),F_q7.kp,(F_q7.binds λ _ _ _ _ _ _ us hl=>by obtain ⟨a0,a1,rfl⟩:=ln_2 hl;rfl),F_law,(W.mg_of X G a_law),F_law.kp,(F_law.binds λ _ _ _ _ _ _ us hl=>match us,hl with | [_],_=>rfl),(W.mg_of X G q_DraftError),x_DraftError,(W.mg_of X G q_NoDeed),x_NoDeed,(W.mg_of X G q_NoSheet),x_NoSheet,(W.mg_of X G q_NoStretch),x_NoStretch,(W.mg_of X G q_Sheet),⟨pg_Sheet,hd_Sheet,po_Sheet,sa_Sheet⟩,na_Sheet_versions,(W.mg_of X G q_Unfit),x_Unfit,m_ud,kv,kt,(W.mg_none_of X G n_ValueError),(W.mg_none_of X G n_all),(W.mg_none_of X G n_dict),(W.mg_none_of X G n_enumerate),(W.mg_none_of X G n_isinstance),(W.mg_none_of X G n_len),(W.mg_none_of X G n_list),(W.mg_none_of X G n_min),(W.mg_none_of X G n_range),(W.mg_none_of X G n_sorted),(W.mg_none_of X G n_tuple)⟩
 refine ⟨W.fnOf "law" "law" (zgi zvv) (zye zvv) (zka zvv) .none kV_law dc_law pm_law an_law cd_law ct_law,λ s v=>.of_eq rfl,λ B _ _=>?_⟩
 have G_q0:=zi3 (P:=l.prog) (w:=w) (B:=B) T
 have G_q4:=zd4 (P:=l.prog) (w:=w) (B:=B) T
 have G_q1:=zt4 (P:=l.prog) (w:=w) (B:=B) T
 have G_q5:=zh3 (P:=l.prog) (w:=w) (B:=B) T G_q0
 have G_q16:=zq1 (P:=l.prog) (w:=w) (B:=B) T G_q4
 have G_q2:=zf4 (P:=l.prog) (w:=w) (B:=B) T
 have G_q17:=zm1 (P:=l.prog) (w:=w) (B:=B) T G_q1 G_q16 G_q2
 have G_q18:=zf1 (P:=l.prog) (w:=w) (B:=B) T G_q1 G_q5
 have G_q15:=zn2 (P:=l.prog) (w:=w) (B:=B) T G_q2
 have G_q6:=zu4 (P:=l.prog) (w:=w) (B:=B) T
 have G_q9:=zo4 (P:=l.prog) (w:=w) (B:=B) T
 have G_q10:=zzz (P:=l.prog) (w:=w) (B:=B) T G_q9
 have G_q3:=zb4 (P:=l.prog) (w:=w) (B:=B) T G_q10
 have G_q8:=zq3 (P:=l.prog) (w:=w) (B:=B) T G_q6 G_q3
 have G_q13:=zi1 (P:=l.prog) (w:=w) (B:=B) T G_q6 G_q3
 have G_q12:=zy0 (P:=l.prog) (w:=w) (B:=B) T
 have G_q14:=zo2 (P:=l.prog) (w:=w) (B:=B) T G_q8 G_q13 G_q12
 have G_q11:=zd1 (P:=l.prog) (w:=w) (B:=B) T
 have G_q7:=zx3 (P:=l.prog) (w:=w) (B:=B) T G_q15 G_q11
 have G_law:=zk0 (P:=l.prog) (w:=w) (B:=B) T G_q0 G_q4 G_q17 G_q18 G_q15 G_q14 G_q7
 exact G_law
theorem walk {l:W.OpenLaw} {q:Program} {loose:List Str} {XP:(Str→Option Value)→Heap→Prop} {YP:World→Heap→Prop} {d:DefRec} {K:Params→W.Frag} (hn:l.most=some 63) (hdf:d.params.defaults=[])
  (hY:∀ (w:World) (h:Heap),YP w h→(K w.params).In h)
  (F:∀ (w:World) (mg:Str→Option Value) (fa:Addr) (h:Heap),(K w.params).In h→h.Ns mainGlobals mg→mg d.name=some (.ref fa) →
   ∃ fd:FuncData,(∀ (s:Shared) (u:Value),BindsTo s fd ⟨[u],[]⟩ [("_law_script",u)])∧∀ B:Heap,(K w.params).In B→B.Ns mainGlobals mg→FnOk l.prog w (K w.params) mg B (CX1 l.prog w B) 6 fa fd ["_law_script"] (sp_law (K w.params))) :
  W.WalkO q loose XP YP l.row.toRowW d [] (λ f vs=>PySem.call f vs) :=
 zyu (n:=63) (k:=6) (x := "_law_script") (sp:=λ w=>sp_law (K w.params)) hn (by decide) hdf ⟨rfl,by decide,by decide⟩ hY F (λ _ _ a ns hl hO hS=>⟨a,ns,rfl,hS,hl,λ _=>rfl,hO.plain⟩)
end My
open PySem PySem.W PyProof.Rows
open Lean in
local macro_rules
 | `(tactic| o_head $H)=>do
  let (hl,hw,hc):=(mkIdent `hl,mkIdent `hw,mkIdent `hc)
  `(tactic| refine PySem.W.holds_open (q:=My.viewQ) (loose:=[]) (Xt:=λ s=>xlAt My.viewQ [] s && recOk (RowW.records PySem.Challenge.rw_twotabs_k22_changes_followed.row.toRowW) s) (XP:=XL My.viewQ []) (Yf:=Hook.obs $H) (Ya:=Hook.val $H) (YP:=Hook.says $H) (N:=4770) ?$hl (Hook.of $H) (Hook.keeps $H) (λ s e=>xl_of s (Bool.and_eq_true_iff.mp e).1) XL.keeps (by rfl) (by rfl) (by rfl) (λ s e=>recFacts_of (Bool.and_eq_true_iff.mp e).2) (by rfl) (by assumption) (by decide +kernel) ⟨rfl,rfl,rfl,rfl,rfl,by decide +kernel⟩ ?$hw ?$hc)
local macro_rules | `(tactic| walk_at "fn") => `(tactic| (refine' L2.fun_mk ?l ?c ?k; (case l=>k_is); (case c=>k_is); (case k=>k_is)))
set_option maxRecDepth 100000 in
set_option maxHeartbeats 0 in
theorem PySem.Challenge.cw_twotabs_k22_changes_followed_holds : PySem.Challenge.rw_twotabs_k22_changes_followed.Holds := by
 w_on;o_law;k_head; (case hw=>w_witness2); (case hl=>exact My.hlQ)
 k_fill
 refine My.walk (l:=PySem.Challenge.rw_twotabs_k22_changes_followed) rfl rfl (λ w h Y=>PySem.W.kIn_of Y) ?F
 case F =>
  intro w mg fa h KX G hmg
  refine' My.all_mk KX G hmg ?a_q0 ?i_q0 ?F_q0 ?a_q4 ?i_q4 ?F_q4 ?a_q1 ?i_q1 ?F_q1 ?a_q5 ?i_q5 ?F_q5 ?a_q16 ?F_q16 ?a_q2 ?F_q2 ?a_q17 ?F_q17 ?a_q18 ?F_q18 ?a_q15 ?F_q15 ?a_q6 ?F_q6 ?a_q9 ?F_q9 ?a_q10 ?F_q10 ?a_q3 ?F_q3 ?a_q8 ?F_q8 ?a_q13 ?F_q13 ?a_q12 ?F_q12 ?a_q14 ?F_q14 ?a_q11 ?F_q11 ?a_q7 ?F_q7 ?a_law ?F_law ?q_DraftError ?x_DraftError ?q_NoDeed ?x_NoDeed ?q_NoSheet ?x_NoSheet ?q_NoStretch ?x_NoStretch ?q_Sheet ?pg_Sheet ?hd_Sheet ?po_Sheet ?sa_Sheet ?mk_Sheet ?kc_Sheet ?na_Sheet_versions ?q_Unfit ?x_Unfit ?m_ud ?kv ?kt ?n_ValueError ?n_all ?n_dict ?n_enumerate ?n_isinstance ?n_len ?n_list ?n_min ?n_range ?n_sorted ?n_tuple
  (case q_Sheet=>k_is)
  (case a_q0=>k_is)
  (case i_q0=>k_is)
  (case F_q0=>walk_at "fn")
  (case a_q4=>k_is)
  (case i_q4=>k_is)
  (case F_q4=>walk_at "fn")
  (case a_q1=>k_is)
  (case i_q1=>k_is)
  (case F_q1=>walk_at "fn")
  (case a_q5=>k_is)
  (case i_q5=>k_is)
  (case F_q5=>walk_at "fn")
  (case a_q16=>k_is)
  (case F_q16=>walk_at "fn")
  (case a_q2=>k_is)
  (case F_q2=>walk_at "fn")
  (case a_q17=>k_is)
  (case F_q17=>walk_at "fn")
  (case a_q18=>k_is)
  (case F_q18=>walk_at "fn")
  (case a_q15=>k_is)
  (case F_q15=>walk_at "fn")
  (case a_q6=>k_is)
  (case F_q6=>walk_at "fn")
  (case a_q9=>k_is)
  (case F_q9=>walk_at "fn")
  (case a_q10=>k_is)
  (case F_q10=>walk_at "fn")
  (case a_q3=>k_is)
  (case F_q3=>walk_at "fn")
  (case a_q8=>k_is)
  (case F_q8=>walk_at "fn")
  (case a_q13=>k_is)
  (case F_q13=>walk_at "fn")
  (case a_q12=>k_is)
  (case F_q12=>walk_at "fn")
  (case a_q14=>k_is)
  (case F_q14=>walk_at "fn")
  (case a_q11=>k_is)
  (case F_q11=>walk_at "fn")
  (case a_q7=>k_is)
  (case F_q7=>walk_at "fn")
  (case a_law=>k_is)
  (case F_law=>walk_at "fn")
  (case q_DraftError=>k_is)
  (case x_DraftError=>refine' L2.XCls.mk ?_ ?_ ?_ ?_ ?_ ?_ ?_ ?_ ?_;all_goals (first | k_is | k_exc))
  (case q_NoDeed=>k_is)
  (case x_NoDeed=>refine' L2.XCls.mk ?_ ?_ ?_ ?_ ?_ ?_ ?_ ?_ ?_;all_goals (first | k_is | k_exc))
  (case q_NoSheet=>k_is)
  (case x_NoSheet=>refine' L2.XCls.mk ?_ ?_ ?_ ?_ ?_ ?_ ?_ ?_ ?_;all_goals (first | k_is | k_exc))
  (case q_NoStretch=>k_is)
  (case x_NoStretch=>refine' L2.XCls.mk ?_ ?_ ?_ ?_ ?_ ?_ ?_ ?_ ?_;all_goals (first | k_is | k_exc))
  (case pg_Sheet=>k_is)
  (case hd_Sheet=>k_is)
  (case po_Sheet=>k_is)
  (case sa_Sheet=>k_is)
  (case mk_Sheet=>k_is)
  (case kc_Sheet=>k_is)
  (case na_Sheet_versions=>k_is)
  (case q_Unfit=>k_is)
  (case x_Unfit=>refine' L2.XCls.mk ?_ ?_ ?_ ?_ ?_ ?_ ?_ ?_ ?_;all_goals (first | k_is | k_exc))
  (case m_ud=>first | k_is | kit_is)
  (case kv=>first | k_is | kit_is)
  (case kt=>first | k_is | kit_is)
  (case n_ValueError=>k_is)
  (case n_all=>k_is)
  (case n_dict=>k_is)
  (case n_enumerate=>k_is)
  (case n_isinstance=>k_is)
  (case n_len=>k_is)
  (case n_list=>k_is)
  (case n_min=>k_is)
  (case n_range=>k_is)
  (case n_sorted=>k_is)
  (case n_tuple=>k_is)
