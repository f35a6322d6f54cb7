import PyProof.Rows.All
import Wide.All
import OpenK.AllK
import Wide.FinOn
import Lean
import PyProof.EqAt
import PyProof.EqKinds
import PyProof.TupleCall
import PySem.Challenge.RW_twotabs_k31_chosen
set_option Elab.async false
set_option linter.all false
set_option genSizeOfSpec false
set_option genSizeOf false
set_option maxRecDepth 100000
namespace My
open PySem PySem.W PyProof.Rows
noncomputable def zhi (tb:String→Option Builtin) (p:Program) (w:World) (n0:Nat) (ann:Option Value):Nat→SharedT→Thread→Option SharedT
 | 0,_,_=>none
 | n+1,s,t=>match through t with
  | true=>some s
  | false=>match stepOk n0 ann t with
   | false=>none
   | true=>match stepT (denote tb) p w s t with
    | some (s',t')=>zhi tb p w n0 ann n s' t'
    | none=>none
theorem zgi {tb:String→Option Builtin} {p:Program} {w:World} {n0:Nat} {ann:Option Value}:∀ {n:Nat} {s s':SharedT} {t:Thread},zhi tb p w n0 ann n s t=some s'→topRun tb p w n0 ann n s.abs t=some s'.abs
 | 0,_,_,_,h=>by cases h
 | n+1,s,s',t,h=>by
  unfold zhi at h
  unfold topRun
  cases he:through t with
  | true=>rw [he] at h;cases h;rfl
  | false =>
   rw [he] at h
   cases hk:stepOk n0 ann t with
   | false=>rw [hk] at h;cases h
   | true =>
    rw [hk] at h
    cases hs:stepT (denote tb) p w s t with
    | none=>rw [hs] at h;cases h
    | some r=>obtain ⟨s2,t2⟩:=r;rw [hs] at h;rw [stepT_spec hs];exact zgi h
noncomputable def treeOf (l:List Obj):BT:=(l.foldl (λ x o=>(x.1.ins x.2 o,x.2+1)) (BT.nil,0)).1
theorem left_tree {p q:Program} {loose:List Str} {Xt:Shared→Bool} {α:Type} {Yf:Shared→α} {Ya:World→α} {N:Nat} {g0:Bool} {m0:Nat} {T0:Params→BT} {L0:Params→Life}
  (e:opening p=plainProg p.main.scope.names) (hN:Nat.ble 600 N=true) (f:∀ s,fenceModules? p s=some s)
  (hT:∀ P:Params,absHeap (T0 P) m0 (L0 P)=boot_heap P)
  (size:∀ P:Params,((boot_heap P).isNs mainGlobals,(boot_heap P).objs.size)=(true,m0))
  (all:∀ w:World,(λ os=>(zhi treeTable p w m0 ((boot_heap w.params).nsMap mainGlobals "__annotations__") N ⟨T0 w.params,m0,L0 w.params,Array.mk [],boot_drawn,boot_toks,os⟩ (topStub p)).map λ s=>(λ r:Shared=>((staticsOk (importedModules p.main.body) (boot_heap w.params) r.heap && namesBound p r.heap && gensDone r && laidKept (boot_heap w.params) r.heap),openSeen q loose (importedModules p.main.body) Xt g0 r,Yf r)) s.abs)=λ _=>some (true,openGood q loose,Ya w)) :
  LeftO p q loose Xt Yf Ya N g0:=λ w=>by
 obtain ⟨⟨h,gs,d,k,os⟩,e1,e2⟩:=Option.map_eq_some_iff.mp (boot_open e hN f w)
 obtain ⟨rfl,rfl,rfl,rfl⟩:h=boot_heap w.params∧gs=Array.mk []∧d=boot_drawn∧k=boot_toks:=by simpa using e2
 obtain ⟨z1,z2⟩:_∧_:=by simpa only [Prod.mk.injEq] using size w.params
 obtain ⟨s,h1,h2⟩:=Option.map_eq_some_iff.mp (congrFun (all w) os)
 obtain ⟨l1,l2,l3⟩:_∧_∧_:=by simpa only [Prod.mk.injEq] using h2
 have r:=zgi h1
 have r:topRun treeTable p w m0 ((boot_heap w.params).nsMap mainGlobals "__annotations__") N ⟨boot_heap w.params,Array.mk [],boot_drawn,boot_toks,os⟩ (topStub p)=some s.abs:=by
  have e3:(⟨T0 w.params,m0,L0 w.params,Array.mk [],boot_drawn,boot_toks,os⟩:SharedT).abs=⟨boot_heap w.params,Array.mk [],boot_drawn,boot_toks,os⟩:=by
   show (⟨absHeap (T0 w.params) m0 (L0 w.params),_,_,_,_⟩:Shared)=_
   rw [hT]
  rw [← e3]
  exact r
 have t:topFrom treeTable p w N ⟨boot_heap w.params,Array.mk [],boot_drawn,boot_toks,os⟩=some s.abs:=by
  unfold topFrom
  dsimp only
  rw [z1,z2,r]
  show (match staticsOk (importedModules p.main.body) (boot_heap w.params) s.abs.heap && namesBound p s.abs.heap && gensDone s.abs && laidKept (boot_heap w.params) s.abs.heap with | true=>_ | false=>_)=_
  rw [l1]
 unfold openEnds
 rw [e1]
 show (topFrom treeTable p w N _).map _=_
 rw [t]
 exact congrArg some (Prod.ext l2 l3)
end My
section
open PySem PySem.W PyProof.Rows
noncomputable def My.viewQ:Program:={ PySem.Challenge.pw_twotabs_k31_chosen with main:={ PySem.Challenge.pw_twotabs_k31_chosen.main with body:=[0,2,3,4,5,6,7,8,9,11,12,14,15,17,18,19,20,21,23,25,26,27,28,29,30,31,32,33,34].filterMap (PySem.Challenge.pw_twotabs_k31_chosen.main.body[·]?) } }
open Lean in
local macro_rules
 | `(tactic| o_head $H)=>do
  let (hl,hw,hc):=(mkIdent `hl,mkIdent `hw,mkIdent `hc)
  `(tactic| refine W.holds_open (q:=My.viewQ) (loose:=[]) (Xt:=λ s=>xlAt My.viewQ [] s && recOk (RowW.records PySem.Challenge.rw_twotabs_k31_chosen.row.toRowW) s) (XP:=XL My.viewQ []) (Yf:=Hook.obs $H) (Ya:=Hook.val $H) (YP:=Hook.says $H) (N:=5818) ?$hl (Hook.of $H) (Hook.keeps $H) (λ s e=>xl_of s (Bool.and_eq_true_iff.mp e).1) XL.keeps (by rfl) (by rfl) (by rfl) (λ s e=>recFacts_of (Bool.and_eq_true_iff.mp e).2) (by rfl) (by assumption) (by decide +kernel) ⟨rfl,rfl,rfl,rfl,rfl,by decide +kernel⟩ ?$hw ?$hc)
local macro_rules | `(tactic| walk_at "fn") => `(tactic| (refine' L2.fun_mk ?l ?c ?k; (case l=>k_is); (case c=>k_is); (case k=>k_is)))
set_option maxRecDepth 100000 in
set_option maxHeartbeats 0 in
theorem My.dummy (hF:False):PySem.Challenge.rw_twotabs_k31_chosen.Holds:=by
 w_on;o_law;k_head
 all_goals exact hF.elim
set_option maxRecDepth 100000 in
set_option maxHeartbeats 0 in
theorem My.hlQ:LeftO PySem.Challenge.rw_twotabs_k31_chosen.row.prog My.viewQ [] (λ s=>xlAt My.viewQ [] s && recOk (RowW.records PySem.Challenge.rw_twotabs_k31_chosen.row.toRowW) s) (kHook My.dummy.heap_39 [2,3,15,17,18,20,21,22,29,30,31,32,35,42,43,44,47,54,55,56,59,66,67,68,71,78,79,80,83,90,91,92,95,102,103,104,107,114,115,116,119,121,122,124,125,126,128,129,131,132,133,135,136,138,139,140,142,143,145,146,147,148,150,151,153,154,155,157,158,160,161,162,164,165,167,168,169,171,172,174,175,183,185,186,188,189,190,192,193,195,196,197,200,201,202,205,206,207,209,210,212,213,214,216,217,219,220,221,223,224,226,227,228,230,231,233,234,235,238,239,240,242,243,245,246,247,248,249,250,251,254,256,257,259,260,261,263,264,266,267,268,270,271,273,274,275,277,278,280,281,282,284,285,287,288,289,291,292,294,295,296,299,300,301,303,304,306,307,308,310,311,313,314,315,317,318,320,321] (λ _=>rfl)).obs (kHook My.dummy.heap_39 [2,3,15,17,18,20,21,22,29,30,31,32,35,42,43,44,47,54,55,56,59,66,67,68,71,78,79,80,83,90,91,92,95,102,103,104,107,114,115,116,119,121,122,124,125,126,128,129,131,132,133,135,136,138,139,140,142,143,145,146,147,148,150,151,153,154,155,157,158,160,161,162,164,165,167,168,169,171,172,174,175,183,185,186,188,189,190,192,193,195,196,197,200,201,202,205,206,207,209,210,212,213,214,216,217,219,220,221,223,224,226,227,228,230,231,233,234,235,238,239,240,242,243,245,246,247,248,249,250,251,254,256,257,259,260,261,263,264,266,267,268,270,271,273,274,275,277,278,280,281,282,284,285,287,288,289,291,292,294,295,296,299,300,301,303,304,306,307,308,310,311,313,314,315,317,318,320,321] (λ _=>rfl)).val 5818:=by
 refine My.left_tree (T0:=λ P=>My.treeOf (boot_heap P).objs.toList) (L0:=λ P=>(boot_heap P).life) (m0:=11) (by kernel_rfl) (by kernel_rfl) (λ s=>by kernel_rfl) (λ P=>by kernel_rfl) (λ P=>by kernel_rfl) (λ w=>?_)
 kernel_rfl
end
namespace L2
open PySem PySem.Spec PyProof.Rows
noncomputable abbrev Key:=Sum Int Str
noncomputable def zqv:Key→Value→Bool
 | .inl k,v=>Value.isInt k v
 | .inr x,v=>Value.isStrOf x v
noncomputable def keyH (w:World):Key→Int
 | .inl k=>hashInt k
 | .inr x=>hashStr w x
theorem zva:∀ {k:Key} {v:Value},zqv k v=true→(∃ i t,k=Sum.inl i∧v=Value.int i t) ∨ (∃ x t,k=Sum.inr x∧v=Value.str x t)
 | .inl i,v,h=>by
  obtain ⟨t,e⟩:=Value.isInt_shape (k:=i) (v:=v) h
  exact .inl ⟨i,t,rfl,e⟩
 | .inr x,v,h=>by
  obtain ⟨t,e⟩:=Value.isStrOf_shape (x:=x) (v:=v) h
  exact .inr ⟨x,t,rfl,e⟩
theorem zao (i:Int) (t:Tok):zqv (.inl i) (.int i t)=true:=by simp [zqv,Value.isInt]
theorem zux (a b:Int):decide ((Sum.inl a:Key)=Sum.inl b)=(a == b):=by
 by_cases e:a=b
 ·subst e;simp
 ·have h:¬ (Sum.inl a:Key)=Sum.inl b:=λ q=>e (Sum.inl.inj q)
  rw [decide_eq_false h]
  exact (beq_eq_false_iff_ne.mpr e).symm
theorem zzw (a b:Str):decide ((Sum.inr a:Key)=Sum.inr b)=decide (a=b):=by
 by_cases e:a=b
 ·subst e;simp
 ·have h:¬ (Sum.inr a:Key)=Sum.inr b:=λ q=>e (Sum.inr.inj q)
  rw [decide_eq_false h,decide_eq_false e]
theorem zwx (a:Int) (b:Str):decide ((Sum.inl a:Key)=Sum.inr b)=false:=decide_eq_false (λ q=>nomatch q)
theorem zyx (a:Str) (b:Int):decide ((Sum.inr a:Key)=Sum.inl b)=false:=decide_eq_false (λ q=>nomatch q)
noncomputable def zqg (prog:Program) (w:World):PySem.KeyKind prog w Key where
 is:=zqv
 hash:=keyH w
 inj:=λ v a b ha hb=>by
  rcases zva ha with ⟨i,t,rfl,rfl⟩ | ⟨x,t,rfl,rfl⟩
  ·rcases zva hb with ⟨j,u,rfl,e⟩ | ⟨y,u,rfl,e⟩
   ·injection e with e1 _;rw [e1]
   ·exact nomatch e
  ·rcases zva hb with ⟨j,u,rfl,e⟩ | ⟨y,u,rfl,e⟩
   ·exact nomatch e
   ·injection e with e1 _;rw [e1]
 byValue:=λ k v h=>by
  rcases zva h with ⟨i,t,rfl,rfl⟩ | ⟨x,t,rfl,rfl⟩ <;> rfl
 pyHash:=λ hv h=>by
  rcases zva hv with ⟨i,t,rfl,rfl⟩ | ⟨x,t,rfl,rfl⟩
  ·exact wpAny_pyHash_int h
  ·exact wpAny_pyHash_str h
 eqBool:=λ hu hv h=>by
  rcases zva hu with ⟨i,t,rfl,rfl⟩ | ⟨x,t,rfl,rfl⟩
  ·rcases zva hv with ⟨j,u,rfl,rfl⟩ | ⟨y,u,rfl,rfl⟩
   ·rw [zux] at h;exact wpAny_eqBool_int h
   ·rw [zwx] at h;exact SeqAt.EqAt.int_str i t y u _ _ _ _ h
  ·rcases zva hv with ⟨j,u,rfl,rfl⟩ | ⟨y,u,rfl,rfl⟩
   ·rw [zyx] at h;exact SeqAt.EqAt.str_int x t j u _ _ _ _ h
   ·rw [zzw] at h;exact wpAny_eqBool_str h
 «strs» := λ k x t v h=>by
  rcases zva h with ⟨i,u,rfl,e⟩ | ⟨y,u,rfl,e⟩
  ·exact nomatch e
  ·injection e with e1 _
   subst e1
   cases v <;> rfl
theorem zfe (prog:Program) (w:World) (i:Int) (t:Tok):(zqg prog w).is (.inl i) (.int i t)=true:=zao i t
end L2
namespace L2
open PySem PySem.Spec PyProof.Rows
inductive V where
 | non | bl (b:Bool) | int (i:Int) | str (x:Str) | byt (b:Array UInt8) | flt (b:UInt64) | ref (a:Addr) | ty (n:String)
 deriving DecidableEq
noncomputable def RelV:V→Value→Prop
 | .non,u=>u=Value.none
 | .bl b,u=>u=Value.bool b
 | .int i,u=>∃ t,u=Value.int i t
 | .str x,u=>∃ t,u=Value.str x t
 | .byt b,u=>∃ t,u=Value.bytes b t
 | .flt b,u=>∃ t,u=Value.float b t
 | .ref a,u=>u=Value.ref a
 | .ty n,u=>u=Value.type n
noncomputable abbrev Vals:List V→List Value→Prop:=Paired RelV
theorem Vals.length {xs:List V} {us:List Value} (r:Vals xs us):xs.length=us.length:=Paired.length r
theorem Vals.get:∀ {xs:List V} {us:List Value} {i:Nat} {x:V},Vals xs us→xs[i]? = some x→∃ u,us[i]? = some u∧RelV x u
 | _,_,_,_,.nil,e=>by simp at e
 | _,_,0,_,.cons r _,e=>by simp at e;subst e;exact ⟨_,rfl,r⟩
 | _,_,i+1,x,.cons _ t,e=>by
  obtain ⟨u,h1,h2⟩:=Vals.get (i:=i) (x:=x) t (by simpa using e)
  exact ⟨u,by simpa using h1,h2⟩
theorem Vals.set {x:V} {u:Value} (r:RelV x u):∀ {xs:List V} {us:List Value} (i:Nat),Vals xs us→Vals (xs.set i x) (us.set i u)
 | _,_,_,.nil=>.nil
 | _,_,0,.cons _ t=>.cons r t
 | _,_,i+1,.cons q t=>.cons q (Vals.set r i t)
theorem Vals.append:∀ {xs ys:List V} {us ws:List Value},Vals xs us→Vals ys ws→Vals (xs++ys) (us++ws)
 | _,_,_,_,.nil,s=>s
 | _,_,_,_,.cons r t,s=>.cons r (Vals.append t s)
theorem Vals.take:∀ {xs:List V} {us:List Value} (n:Nat),Vals xs us→Vals (xs.take n) (us.take n)
 | _,_,0,_=>.nil
 | _,_,_+1,.nil=>.nil
 | _,_,n+1,.cons r t=>.cons r (Vals.take n t)
theorem Vals.drop:∀ {xs:List V} {us:List Value} (n:Nat),Vals xs us→Vals (xs.drop n) (us.drop n)
 | _,_,0,r=>r
 | _,_,_+1,.nil=>.nil
 | _,_,n+1,.cons _ t=>Vals.drop n t
noncomputable def RelO:Option V→Option Value→Prop
 | some v,some u=>RelV v u
 | none,none=>True
 | _,_=>False
noncomputable def KV {κ:Type}:List (κ×V)→List (κ×Value)→Prop:=Paired λ (p:κ×V) (q:κ×Value)=>p.1=q.1∧RelV p.2 q.2
noncomputable def kV:Key→V
 | .inl i=>.int i
 | .inr x=>.str x
inductive HO where
 | lst (xs:List V)
 | tup (xs:List V)
 | dK (kvs:List (Key×V)) | dT (kvs:List (List Key×V))
 | set (S:Int→Bool) (n:Nat)
 | ins (C dx:Addr) (fs:List (Str×V))
 | own (x:Addr)
 | xd (fs:List (Str×V))
 | met (f x:Addr)
 | rng (lo hi:Int)
 | frz (o:Obj) (u:HO)
 | tbl (ps:Array Value)
 | ext (φ:Heap→Prop)
noncomputable abbrev Hp:=Addr→Option HO
noncomputable def upd (H:Hp) (a:Addr) (o:HO):Hp:=λ b=>if b=a then some o else H b
theorem upd_same {H:Hp} {a:Addr} {o:HO}:upd H a o a=some o:=by unfold upd;rw [if_pos rfl]
theorem zja {H:Hp} {a b:Addr} {o:HO} (h:b≠a):upd H a o b=H b:=by unfold upd;rw [if_neg h]
theorem zys {H:Hp} {a b:Addr} {o u:HO} (h:H a=some o) (h':H b=some u) (d:o≠u):a≠b:=by
 intro e;subst e;rw [h] at h';exact d (Option.some.inj h')
theorem zha {H:Hp} {a b:Addr} {o:HO} (h:H a=some o) (h':H b=none):a≠b:=by
 intro e;subst e;rw [h] at h';cases h'
section
variable (P:Program) (w:World)
noncomputable def ObjOk (H:Hp) (h:Heap) (a:Addr):HO→Prop
 | .lst xs=>xs.length≤sizeLine∧∃ (its:List Value) (n:Nat),Vals xs its∧h.get? a=some { cls := .type "list",data := .seq its.toArray n }
 | .tup xs=>xs.length≤sizeLine∧∃ its:List Value,Vals xs its∧IsTup h a its.toArray
 | .dK kvs=>kvs.length≤sizeLine∧(a == sysModules)=false∧∃ vs,KV kvs vs∧h.DictOf (zqg P w) a vs
 | .dT kvs=>kvs.length≤sizeLine∧(a == sysModules)=false∧∃ xs:List (List Key×Addr×Value),
   Paired (λ (p:List Key×V) (q:List Key×Addr×Value)=>p.1=q.1∧H q.2.1=some (.tup (p.1.map kV))∧RelV p.2 q.2.2) kvs xs ∧
   ∃ o es ep,h.get? a=some o∧o.ExactDict∧o.data = .dict es ep∧es.toList=xs.map (entryOfKey (tupleKind (zqg P w)))∧(xs.map (·.1)).Nodup
 | .set S n=>h.SetOf (intKind P w) a S n
 | .ins C dx fs=>H dx=some (.own a)∧fs.length≤1000∧dx≠a∧h.get? a=some (W.instObj C dx) ∧
   ∃ mA,h.Ns1 dx mA∧(∀ f,RelO (fs.lookup f) (mA f))∧PySem.Within mA (fs.map (·.1))
 | .own _=>∃ o,h.get? a=some o
 | .xd fs=>∃ mA,h.Ns1 a mA∧∀ f,RelO (fs.lookup f) (mA f)
 | .rng lo hi=>∃ t u v,h.get? a=some { cls := .type "range",data := .fields #[.int lo t,.int hi u,.int 1 v] }
 | .frz o u=>h.get? a=some o∧ObjOk H h a u
 | .tbl ps=>h.get? a=some { cls := .none,data := .fields ps }
 | .met f x=>h.get? a=some (W.methodObj (.ref f) (.ref x))
 | .ext φ=>φ h∧(∃ o,h.get? a=some o)∧∀ h1 h2:Heap,φ h1→(∀ o,h1.get? a=some o→h2.get? a=some o)→φ h2
noncomputable def HOk (H:Hp) (h:Heap):Prop:=∀ a o,H a=some o→ObjOk P w H h a o
end
section
variable {P:Program} {w:World} {H H':Hp} {h h':Heap} {a:Addr} {o:HO}
theorem ObjOk.lt (x:ObjOk P w H h a o):a<h.objs.size:=by
 cases o with
 | lst xs=>obtain ⟨_,_,_,_,e⟩:=x;exact Heap.lt_size e
 | tup xs=>obtain ⟨_,_,_,p⟩:=x;exact p.lt
 | dK kvs=>obtain ⟨_,_,_,_,o,_,_,e,_⟩:=x;exact Heap.lt_size e
 | dT kvs=>obtain ⟨_,_,_,_,o,_,_,e,_⟩:=x;exact Heap.lt_size e
 | set S n=>obtain ⟨o,_,_,_,e,_⟩:=x;exact Heap.lt_size e
 | ins C dx fs=>obtain ⟨_,_,_,e,_⟩:=x;exact Heap.lt_size e
 | own y=>obtain ⟨_,e⟩:=x;exact Heap.lt_size e
 | xd fs=>obtain ⟨_,⟨_,_,_,e,_⟩,_⟩:=x;exact Heap.lt_size e
 | rng lo hi=>obtain ⟨_,_,_,e⟩:=x;exact Heap.lt_size e
 | frz ob u=>obtain ⟨e,_⟩:=x;exact Heap.lt_size e
 | tbl ps=>exact Heap.lt_size (show h.get? a=some _ from x)
 | met f y=>exact Heap.lt_size (show h.get? a=some _ from x)
 | ext φ=>obtain ⟨_,⟨_,e⟩,_⟩:=x;exact Heap.lt_size e
theorem Paired.mapP {α β:Type} {F G:α→β→Prop}:∀ {l₁:List α} {l₂:List β},Paired F l₁ l₂→(∀ a b,F a b→G a b)→Paired G l₁ l₂
 | _,_,.nil,_=>.nil
 | _,_,.cons r t,f=>.cons (f _ _ r) (Paired.mapP t f)
theorem ObjOk.stay (x:ObjOk P w H h a o) (k:∀ b u,(b=a ∨ H b=some (.own a))→h.get? b=some u→h'.get? b=some u)
  (ho:∀ b,H b=some (.own a)→H' b=some (.own a)) (ht:∀ b xs,H b=some (.tup xs)→H' b=some (.tup xs)):ObjOk P w H' h' a o:=by
 induction o with
 | lst xs=>obtain ⟨z,its,n,r,e⟩:=x;exact ⟨z,its,n,r,k _ _ (.inl rfl) e⟩
 | tup xs=>obtain ⟨z,its,r,ob,e,c⟩:=x;exact ⟨z,its,r,ob,k _ _ (.inl rfl) e,c⟩
 | dK kvs=>obtain ⟨z,y,vs,r,ob,es,ep,e,c⟩:=x;exact ⟨z,y,vs,r,ob,es,ep,k _ _ (.inl rfl) e,c⟩
 | dT kvs =>
  obtain ⟨z,y,xs,r,ob,es,ep,e,c⟩:=x
  exact ⟨z,y,xs,Paired.mapP r λ p q z=>⟨z.1,ht _ _ z.2.1,z.2.2⟩,ob,es,ep,k _ _ (.inl rfl) e,c⟩
 | set S n=>obtain ⟨ob,es,ep,t,e,c⟩:=x;exact ⟨ob,es,ep,t,k _ _ (.inl rfl) e,c⟩
 | ins C dx fs =>
  obtain ⟨d,z,ne,e,mA,⟨od,es,ep,e2,c⟩,r⟩:=x
  exact ⟨ho _ d,z,ne,k _ _ (.inl rfl) e,mA,⟨od,es,ep,k _ _ (.inr d) e2,c⟩,r⟩
 | own y=>obtain ⟨ob,e⟩:=x;exact ⟨ob,k _ _ (.inl rfl) e⟩
 | xd fs=>obtain ⟨mA,⟨od,es,ep,e,c⟩,r⟩:=x;exact ⟨mA,⟨od,es,ep,k _ _ (.inl rfl) e,c⟩,r⟩
 | rng lo hi=>obtain ⟨t,u,v,e⟩:=x;exact ⟨t,u,v,k _ _ (.inl rfl) e⟩
 | frz ob u ih=>obtain ⟨e,q⟩:=x;exact ⟨k _ _ (.inl rfl) e,ih q⟩
 | tbl ps =>
  have e:h.get? a=some { cls := .none,data := .fields ps }:=x
  show h'.get? a=some { cls := .none,data := .fields ps }
  exact k a _ (.inl rfl) e
 | met f y =>
  have e:h.get? a=some (W.methodObj (.ref f) (.ref y)):=x
  show h'.get? a=some (W.methodObj (.ref f) (.ref y))
  exact k a _ (.inl rfl) e
 | ext φ=>obtain ⟨p,⟨o,e⟩,st⟩:=x;exact ⟨st _ _ p λ o q=>k _ _ (.inl rfl) q,⟨o,k _ _ (.inl rfl) e⟩,st⟩
theorem HOk.lt (x:HOk P w H h) (e:H a=some o):a<h.objs.size:=(x a o e).lt
theorem HOk.fresh (x:HOk P w H h) (e:h.objs.size≤a):H a=none:=by
 cases q:H a with
 | none=>rfl
 | some u=>exact absurd (Nat.lt_of_lt_of_le (x.lt q) e) (Nat.lt_irrefl _)
theorem HOk.kept (x:HOk P w H h) (k:∀ b u,h.get? b=some u→h'.get? b=some u):HOk P w H h':=λ a o e =>
 (x a o e).stay (λ b u _ q=>k b u q) (λ _ q=>q) λ _ _ q=>q
theorem HOk.laid (x:HOk P w H h) (k:∀ b u,h.get? b=some u→h'.get? b=some u) (hp:h.objs.size≤a) (new:ObjOk P w (upd H a o) h' a o):HOk P w (upd H a o) h':=λ b u e=>by
 have hn:=x.fresh hp
 by_cases hb:b=a
 ·subst hb;rw [upd_same] at e;cases e;exact new
 ·rw [zja hb] at e
  exact (x b u e).stay (λ c v _ q=>k c v q) (λ c q=>by rw [zja (zha q hn)];exact q) λ c xs q=>by rw [zja (zha q hn)];exact q
end
noncomputable def Rd (H:Hp) (a:Addr) (u:HO):Prop:=H a=some u ∨ ∃ o,H a=some (.frz o u)
theorem Rd.ok {P:Program} {w:World} {H:Hp} {h:Heap} {a:Addr} {u:HO} (r:Rd H a u) (x:HOk P w H h):ObjOk P w H h a u:=by
 rcases r with r | ⟨o,r⟩
 ·exact x a u r
 ·obtain ⟨_,q⟩:=x a _ r
  exact q
noncomputable def Mut:Option HO→Prop
 | some (.lst _)=>True
 | some (.dK _)=>True
 | some (.dT _)=>True
 | some (.set _ _)=>True
 | some (.ins _ _ _)=>True
 | some (.ext _)=>True
 | _=>False
section
variable {P:Program} {w:World} {H:Hp} {h h':Heap} {x e:Addr} {o':HO}
theorem HOk.write (ok:HOk P w H h) (mu:Mut (H x)) (he:e=x ∨ H e=some (.own x)) (k:∀ b u,b≠e→h.get? b=some u→h'.get? b=some u) (heo:∃ u,h'.get? e=some u)
  (new:ObjOk P w (upd H x o') h' x o'):HOk P w (upd H x o') h':=λ b u q=>by
 have nown:∀ c y,H c=some (.own y)→c≠x:=λ c y r z=>by subst z;rw [r] at mu;exact mu
 have ntup:∀ c xs,H c=some (.tup xs)→c≠x:=λ c xs r z=>by subst z;rw [r] at mu;exact mu
 by_cases hb:b=x
 ·subst hb;rw [upd_same] at q;cases q;exact new
 ·rw [zja hb] at q
  by_cases hbe:b=e
  ·have q':H b=some (.own x):=by
    rcases he with z | z
    ·exact absurd (hbe.trans z) hb
    ·rw [hbe];exact z
   rw [q] at q';cases q'
   obtain ⟨v,hv⟩:=heo
   exact ⟨v,by rw [hbe];exact hv⟩
  ·refine (ok b u q).stay (λ c v hc r=>k c v ?_ r) (λ c r=>by rw [zja (nown c b r)];exact r) λ c xs r=>by rw [zja (ntup c xs r)];exact r
   rcases hc with rfl | hc
   ·exact hbe
   ·rintro rfl
    rcases he with z | z
    ·exact nown c b hc z
    ·rw [hc] at z;cases z;exact hb rfl
end
structure Un (fs ex:List Addr) (H H':Hp) (h h':Heap):Prop where
 keep:∀ b o,h.get? b=some o→H b=none→b∉fs→b∉ex→h'.get? b=some o
 slot:∀ b o,h.get? b=some o→H b=none→b∈fs→b∉ex→∃ sl,h'.get? b=some { o with slots:=sl }
 free:∀ b o,h.get? b=some o→H b=none→b∉ex→H' b=none
 there:∀ b o,h.get? b=some o→b∉ex→∃ o',h'.get? b=some o'
 tups:∀ b xs,H b=some (.tup xs)→H' b=some (.tup xs)
 frzs:∀ b o u,H b=some (.frz o u)→H' b=some (.frz o u)
 tbls:∀ b ps,H b=some (.tbl ps)→∃ more,H' b=some (.tbl (ps++more))
section
variable {fs fs' ex ex':List Addr} {H H1 H2:Hp} {h h1 h2 h':Heap} {a x e:Addr} {o:HO}
theorem Un.any (u:Un fs ex H H1 h h1) {b:Addr} {ob:Obj} (q:h.get? b=some ob) (n:H b=none) (hx:b∉ex):∃ sl,h1.get? b=some { ob with slots:=sl }:=by
 by_cases hb:b∈fs
 ·exact u.slot b ob q n hb hx
 ·exact ⟨ob.slots,u.keep b ob q n hb hx⟩
theorem Un.kept (k:∀ b u,h.get? b=some u→h'.get? b=some u):Un fs ex H H h h' :=
 ⟨λ b ob q _ _ _=>k b ob q,λ b ob q _ _ _=>⟨ob.slots,k b ob q⟩,λ _ _ _ n _=>n,λ b ob q _=>⟨ob,k b ob q⟩,λ _ _ q=>q,λ _ _ _ q=>q,λ _ ps q=>⟨#[],by rw [q];simp⟩⟩
theorem Un.refl:Un fs ex H H h h:=Un.kept λ _ _ q=>q
theorem Un.laid (k:∀ b u,h.get? b=some u→h'.get? b=some u) (hp:h.objs.size≤a) (hn:H a=none):Un fs ex H (upd H a o) h h' where
 keep:=λ b u q _ _ _=>k b u q
 slot:=λ b u q _ _ _=>⟨u.slots,k b u q⟩
 free:=λ b u q n _=>by rw [zja (Nat.ne_of_lt (Nat.lt_of_lt_of_le (Heap.lt_size q) hp))];exact n
 there:=λ b u q _=>⟨u,k b u q⟩
 tups:=λ b xs q=>by rw [zja (zha q hn)];exact q
 frzs:=λ b u xs q=>by rw [zja (zha q hn)];exact q
 tbls:=λ b ps q=>⟨#[],by rw [zja (zha q hn),q];simp⟩
theorem Un.write (mu:Mut (H x)) (he:e=x ∨ H e=some (.own x)) (k:∀ b u,b≠e→h.get? b=some u→h'.get? b=some u) (heo:∃ u,h'.get? e=some u):Un fs ex H (upd H x o) h h':=by
 have hx:∀ b,H b=none→b≠x:=λ b n z=>by subst z;rw [n] at mu;exact mu
 have hb:∀ b,H b=none→b≠e:=λ b n z=>by
  subst z
  rcases he with r | r
  ·exact hx b n r
  ·rw [n] at r;cases r
 have hm:∀ b u,H b=some u→¬ Mut (some u)→b≠x:=λ b u q nm z=>by subst z;rw [q] at mu;exact nm mu
 refine ⟨λ b u q n _ _=>k b u (hb b n) q,λ b u q n _ _=>⟨u.slots,k b u (hb b n) q⟩,λ b u q n _=>by rw [zja (hx b n)];exact n,λ b u q _=>?_,
  λ b xs q=>by rw [zja (hm b _ q λ z=>z)];exact q,λ b u xs q=>by rw [zja (hm b _ q λ z=>z)];exact q,λ b ps q=>⟨#[],by rw [zja (hm b _ q λ z=>z),q];simp⟩⟩
 by_cases hbe:b=e
 ·subst hbe;exact heo
 ·exact ⟨u,k b u hbe q⟩
end
noncomputable def trk (h:Heap) (H:Hp):List Addr:=(List.range h.objs.size).filter λ a=>(H a).isSome
noncomputable def hidT (h:Heap) (H:Hp):Heap:=W.hideAll h (trk h H)
theorem zbo (h:Heap) (H:Hp):(hidT h H).objs.size=h.objs.size:=W.hideAll_size _ _
theorem zas {h:Heap} {H:Hp} {b:Addr} {o:Obj} (e:h.get? b=some o) (n:H b=none):(hidT h H).get? b=some o :=
 W.hideAll_get _ e λ hm=>by
  have q:(H b).isSome=true:=(List.mem_filter.mp hm).2
  rw [n] at q;simp at q
theorem zhu {h:Heap} {H:Hp} {b:Addr} {o:Obj} (e:(hidT h H).get? b=some o):h.get? b=some o∧H b=none:=by
 have e':h.get? b=some o:=W.of_hideAll (trk h H) e
 refine ⟨e',?_⟩
 cases q:H b with
 | none=>rfl
 | some x =>
  have hm:b∈trk h H:=List.mem_filter.mpr ⟨List.mem_range.mpr (Heap.lt_size e'),by simp [q]⟩
  have z:(hidT h H).get? b=none:=W.hideAll_none (trk h H) hm
  rw [z] at e;cases e
end L2
namespace L2
open PySem PySem.Spec PyProof.Rows
structure Mod (K:W.Frag) (mg:Str→Option Value) (base:Heap):Prop where
 kin:K.In base
 glob:base.Ns mainGlobals mg
 blt:∃ mb,base.Ns builtinsNs mb∧∀ x:Str,x ≠ "__name__" → mb x=bootBuiltins x
 nolimit:base.NoLimit
structure Cx where
 prog:Program
 w:World
 K:W.Frag
 mg:Str→Option Value
 base:Heap
 A:Around
 N:List Str
 s₀:Shared
 H₀:Hp
 env:Env
 outer:List Env
 stack:List Env
 ex:List Addr
 fn:Str→Bool
 calm:Bool
 pn:List (Addr×Obj)
 xe:Value→Shared→Prop
noncomputable def frs (l:List Env):List Addr:=l.filterMap (·.frame)
noncomputable abbrev Cx.fs (X:Cx):List Addr:=frs X.outer
noncomputable def Vis (sc:Scope) (x:Str):Prop:=sc.names.lookup x=some .local ∨ sc.names.lookup x=some .cell ∨ sc.names.lookup x=some .free
noncomputable def Loc (sc:Scope) (x:Str):Prop:=sc.names.lookup x=some .local ∨ sc.names.lookup x=some .cell
noncomputable def Look (env:Env) (h:Heap) (m:Str→Option Value) (x:Str) (u:Value):Prop :=
 (env.kindOf x=some .local∧m x=some u) ∨ ((env.kindOf x=some .cell ∨ env.kindOf x=some .free)∧∃ c,env.cells.lookup x=some c∧h.IsCell c (some u))
structure Cx.Ok (X:Cx):Prop where
 mod:Mod X.K X.mg X.base
 kind:X.env.scope.kind = .function
 glob:X.env.globals=mainGlobals
 blt:X.env.builtins=builtinsNs
 above:X.s₀.heap.objs.size≤X.env.locals
 inj:∀ x y c,X.env.cells.lookup x=some c→X.env.cells.lookup y=some c→x=y
 has:∀ x,(X.env.kindOf x=some .cell ∨ X.env.kindOf x=some .free)→∃ c,X.env.cells.lookup x=some c
 cab:∀ x c,X.fn x=true→X.env.cells.lookup x=some c→X.s₀.heap.objs.size≤c
 hd:X.calm=true→X.A.handled=none
 frames:X.A.frames=some X.stack
 stk:X.stack=X.outer ∨ (X.stack=X.env::X.outer∧X.env.frame=some X.env.locals)
 exf:∀ b∈X.ex,b≠X.env.locals∧∀ x c,X.env.cells.lookup x=some c→c≠b
 bs:∀ b o,X.base.get? b=some o→X.s₀.heap.get? b=some o∧X.H₀ b=none
 bsz:X.base.objs.size≤X.s₀.heap.objs.size
 noex:∀ b o,X.base.get? b=some o→b∉X.ex
 exfs:∀ b∈X.ex,b∉X.fs
 funs:X.s₀.heap.FunFrames X.base X.outer
 frf:∀ b∈X.fs,X.H₀ b=none
structure Inv (X:Cx) (pins:List (Addr×Obj)) (σ:List (Option V)) (H:Hp) (s:Shared):Prop where
 ok:X.Ok
 os:s.os=X.s₀.os
 bare:AllBare s.gens
 base:Un X.fs X.ex X.H₀ H X.s₀.heap s.heap
 loc:∃ m,s.heap.Ns X.env.locals m∧∀ (i:Nat) (x:Str) (v:V),X.N[i]? = some x→σ[i]? = some (some v)→Vis X.env.scope x→∃ u,RelV v u∧Look X.env s.heap m x u
 cell:∀ x c,X.env.cells.lookup x=some c→∃ v,s.heap.IsCell c v
 free:H X.env.locals=none
 freeC:∀ x c,X.env.cells.lookup x=some c→H c=none
 pin:∀ p∈X.pn++pins,s.heap.get? p.1=some p.2∧H p.1=none∧p.1≠X.env.locals∧p.1∉X.fs∧∀ v,p.2.data ≠ .cell v
 hok:HOk X.prog X.w H s.heap
 len:σ.length=X.N.length
section
variable {X:Cx} {pins:List (Addr×Obj)} {σ:List (Option V)} {H H':Hp} {s:Shared} {h':Heap}
theorem Cx.Ok.nofr (ok:X.Ok) {b:Addr} {o:Obj} (e:X.base.get? b=some o):b∉X.fs:=λ hb=>by
 have:=(ok.funs.mem hb).1
 rw [e] at this;cases this
theorem Inv.bs (I:Inv X pins σ H s):∀ b o,X.base.get? b=some o→s.heap.get? b=some o∧H b=none:=λ b o e =>
 ⟨I.base.keep b o (I.ok.bs b o e).1 (I.ok.bs b o e).2 (I.ok.nofr e) (I.ok.noex b o e),I.base.free b o (I.ok.bs b o e).1 (I.ok.bs b o e).2 (I.ok.noex b o e)⟩
theorem Inv.bk (I:Inv X pins σ H s):∀ b o,X.base.get? b=some o→s.heap.get? b=some o:=λ b o e=>(I.bs b o e).1
theorem Inv.mod (I:Inv X pins σ H s):Mod X.K X.mg X.base:=I.ok.mod
theorem Inv.kIn (I:Inv X pins σ H s):X.K.In s.heap:=I.ok.mod.kin.keeps I.bk
theorem Inv.lt (I:Inv X pins σ H s):X.env.locals<s.heap.objs.size:=let ⟨_,hn,_⟩:=I.loc;hn.lt
theorem Inv.sz (I:Inv X pins σ H s):X.s₀.heap.objs.size≤s.heap.objs.size:=Nat.le_trans I.ok.above (Nat.le_of_lt I.lt)
theorem Inv.nofs (I:Inv X pins σ H s) {a:Addr} (h:s.heap.objs.size≤a):a∉X.fs:=λ hb=>by
 obtain ⟨_,o,ho,_⟩:=I.ok.funs.mem hb
 exact absurd (Nat.lt_of_lt_of_le (Heap.lt_size ho) (Nat.le_trans I.sz h)) (Nat.lt_irrefl _)
theorem Inv.cne (I:Inv X pins σ H s):∀ x c,X.env.cells.lookup x=some c→c≠X.env.locals:=λ x c e z=>by
 obtain ⟨v,o,ho,hd⟩:=I.cell x c e
 obtain ⟨m,⟨o',es,ep,ho',hd',_⟩,_⟩:=I.loc
 rw [z,ho'] at ho;cases ho;rw [hd'] at hd;cases hd
theorem Inv.funs (I:Inv X pins σ H s):s.heap.FunFrames X.base X.outer:=by
 have all:∀ (l:List Env),(∀ b∈frs l,b∈X.fs)→X.s₀.heap.FunFrames X.base l→s.heap.FunFrames X.base l:=by
  intro l
  induction l with
  | nil=>intro _ _;trivial
  | cons env r ih =>
   intro hs hl
   obtain ⟨hk,⟨L,o,hf,hn,ho,hd⟩,hr⟩:=hl
   have hL:L∈X.fs:=hs L (by unfold frs;rw [List.filterMap_cons,hf];exact List.mem_cons_self)
   obtain ⟨sl,e⟩:=I.base.slot L o ho (I.ok.frf L hL) hL λ z=>I.ok.exfs L z hL
   exact ⟨hk,⟨L,_,hf,hn,e,hd⟩,ih (λ b hb=>hs b (by unfold frs;rw [List.filterMap_cons,hf];exact List.mem_cons_of_mem _ hb)) hr⟩
 exact all X.outer (λ _ hb=>hb) I.ok.funs
theorem Inv.stack (I:Inv X pins σ H s):s.heap.FunFrames X.base X.stack:=by
 rcases I.ok.stk with e | ⟨e,hf⟩
 ·rw [e];exact I.funs
 ·rw [e]
  obtain ⟨m,hn,_⟩:=I.loc
  refine .cons (by rw [I.ok.kind];decide) hf hn ?_ I.funs
  exact Heap.get?_none_of_le (Nat.le_trans I.ok.bsz I.ok.above)
theorem Inv.stkSub (I:Inv X pins σ H s):∀ b∈frs X.stack,b∈X.env.locals::X.fs:=λ b hb=>by
 rcases I.ok.stk with e | ⟨e,hf⟩
 ·rw [e] at hb;exact List.mem_cons_of_mem _ hb
 ·rw [e] at hb
  unfold frs at hb
  rw [List.filterMap_cons,hf] at hb
  exact hb
theorem Inv.stkFree (I:Inv X pins σ H s):∀ b∈frs X.stack,H b=none:=λ b hb=>by
 rcases List.mem_cons.mp (I.stkSub b hb) with e | hb
 ·rw [e];exact I.free
 ·obtain ⟨_,o,ho,_⟩:=I.ok.funs.mem hb
  exact I.base.free b o ho (I.ok.frf b hb) λ z=>I.ok.exfs b z hb
theorem Inv.step {g':Array GenState} {t':Nat} {d':Drawn} {ch:List Addr} (I:Inv X pins σ H s)
  (hch:∀ b∈ch,(b∈X.ex ∨ X.s₀.heap.objs.size≤b)∧b≠X.env.locals∧(∀ x c,X.env.cells.lookup x=some c→c≠b)∧∀ p∈X.pn++pins,p.1≠b)
  (keep:∀ b o,b≠X.env.locals→b∉X.fs→b∉ch→s.heap.get? b=some o→H b=none→h'.get? b=some o)
  (slot:∀ b o,b≠X.env.locals→b∈X.fs→b∉ch→s.heap.get? b=some o→H b=none→∃ sl,h'.get? b=some { o with slots:=sl }) (free:∀ b o,b∉ch→s.heap.get? b=some o→H b=none→H' b=none)
  (there:∀ b o,b∉ch→s.heap.get? b=some o→∃ o',h'.get? b=some o')
  (tups:∀ b xs,H b=some (.tup xs)→H' b=some (.tup xs)) (frzs:∀ b o u,H b=some (.frz o u)→H' b=some (.frz o u)) (tbls:∀ b ps,H b=some (.tbl ps)→∃ more,H' b=some (.tbl (ps++more)))
  (ns:∀ m,s.heap.Ns X.env.locals m→h'.Ns X.env.locals m) (hok:HOk X.prog X.w H' h') (hg:AllBare g') :
  Inv X pins σ H' { s with heap:=h',gens:=g',drawn:=d',toks:=t' }:=by
 have neL:∀ b o,X.s₀.heap.get? b=some o→b≠X.env.locals:=λ b o e=>Nat.ne_of_lt (Nat.lt_of_lt_of_le (Heap.lt_size e) I.ok.above)
 have neC:∀ b o,X.s₀.heap.get? b=some o→b∉X.ex→b∉ch:=λ b o e hx hb=>by
  rcases (hch b hb).1 with z | z
  ·exact hx z
  ·exact absurd (Nat.lt_of_lt_of_le (Heap.lt_size e) z) (Nat.lt_irrefl _)
 have cellK:∀ x c,X.env.cells.lookup x=some c→∀ v,s.heap.IsCell c v→h'.IsCell c v:=λ x c e v ⟨o,ho,hd⟩=>by
  have nch:c∉ch:=λ z=>(hch c z).2.2.1 x c e rfl
  by_cases hc:c∈X.fs
  ·obtain ⟨sl,q⟩:=slot c o (I.cne x c e) hc nch ho (I.freeC x c e)
   exact ⟨_,q,hd⟩
  ·exact ⟨o,keep c o (I.cne x c e) hc nch ho (I.freeC x c e),hd⟩
 refine ⟨I.ok,I.os,hg,⟨λ b o e n hb hx=>?_,λ b o e n hb hx=>?_,λ b o e n hx=>?_,λ b o e hx=>?_,λ b xs e=>tups b xs (I.base.tups b xs e),λ b o xs e=>frzs b o xs (I.base.frzs b o xs e),λ b ps e=>?_⟩,?_,λ x c e=>?_,?_,λ x c e=>?_,λ p hp=>?_,hok,I.len⟩
 ·exact keep b o (neL b o e) hb (neC b o e hx) (I.base.keep b o e n hb hx) (I.base.free b o e n hx)
 ·obtain ⟨sl,e1⟩:=I.base.slot b o e n hb hx
  obtain ⟨sl',e2⟩:=slot b _ (neL b o e) hb (neC b o e hx) e1 (I.base.free b o e n hx)
  exact ⟨sl',e2⟩
 ·obtain ⟨o',e1⟩:=I.base.there b o e hx
  exact free b o' (neC b o e hx) e1 (I.base.free b o e n hx)
 ·obtain ⟨o',e1⟩:=I.base.there b o e hx
  exact there b o' (neC b o e hx) e1
 ·obtain ⟨m1,e1⟩:=I.base.tbls b ps e
  obtain ⟨m2,e2⟩:=tbls b _ e1
  exact ⟨m1++m2,by rw [e2,Array.append_assoc]⟩
 ·obtain ⟨m,hn,hl⟩:=I.loc
  refine ⟨m,ns m hn,λ i x v e1 e2 e3=>?_⟩
  obtain ⟨u,r,l⟩:=hl i x v e1 e2 e3
  refine ⟨u,r,?_⟩
  rcases l with l | ⟨k,c,e,z⟩
  ·exact .inl l
  ·exact .inr ⟨k,c,e,cellK x c e _ z⟩
 ·obtain ⟨v,z⟩:=I.cell x c e
  exact ⟨v,cellK x c e v z⟩
 ·obtain ⟨m,⟨o,_,_,ho,_⟩,_⟩:=I.loc
  exact free _ o (λ z=>(hch _ z).2.1 rfl) ho I.free
 ·obtain ⟨v,o,ho,hd⟩:=I.cell x c e
  exact free c o (λ z=>(hch c z).2.2.1 x c e rfl) ho (I.freeC x c e)
 ·obtain ⟨e,n,ne,nf,d⟩:=I.pin p hp
  have nch:p.1∉ch:=λ z=>(hch p.1 z).2.2.2 p hp rfl
  exact ⟨keep p.1 p.2 ne nf nch e n,free p.1 p.2 nch e n,ne,nf,d⟩
theorem Inv.un {t':Nat} (I:Inv X pins σ H s) (u:Un X.fs [] H H' s.heap h') (hok:HOk X.prog X.w H' h'):Inv X pins σ H' { s with heap:=h',toks:=t' }:=by
 obtain ⟨m,⟨o,es,ep,ho,r⟩,_⟩:=id I.loc
 obtain ⟨sl,hL⟩:=u.any ho I.free (by simp)
 exact I.step (g':=s.gens) (d':=s.drawn) (ch:=[]) (λ _ z=>nomatch z) (λ b o _ hb _ e n=>u.keep b o e n hb (by simp)) (λ b o _ hb _ e n=>u.slot b o e n hb (by simp)) (λ b o _ e n=>u.free b o e n (by simp)) (λ b o _ e=>u.there b o e (by simp)) u.tups u.frzs u.tbls (λ m' hm=>by
  obtain ⟨o',es',ep',ho',r'⟩:=hm
  rw [ho] at ho';cases ho'
  exact ⟨_,es',ep',hL,r'⟩) hok I.bare
theorem Inv.call {g':Array GenState} {t':Nat} {d':Drawn} {ch:List Addr} (I:Inv X pins σ H s) (u:Un (frs X.stack) ch H H' s.heap h') (hok:HOk X.prog X.w H' h') (hg:AllBare g')
  (hch:∀ b∈ch,(b∈X.ex ∨ X.s₀.heap.objs.size≤b)∧b≠X.env.locals∧(∀ x c,X.env.cells.lookup x=some c→c≠b)∧∀ p∈X.pn++pins,p.1≠b) :
  Inv X pins σ H' { s with heap:=h',gens:=g',drawn:=d',toks:=t' }:=by
 obtain ⟨m,⟨o,es,ep,ho,r⟩,_⟩:=id I.loc
 obtain ⟨sl,hL⟩:=u.any ho I.free λ z=>(hch _ z).2.1 rfl
 exact I.step (ch:=ch) hch (λ b o hL hb hc e n=>u.keep b o e n (λ z=>(List.mem_cons.mp (I.stkSub b z)).elim hL hb) hc) (λ b o _ _ hc e n=>u.any e n hc) (λ b o hc e n=>u.free b o e n hc) (λ b o hc e=>u.there b o e hc) u.tups u.frzs u.tbls (λ m' hm=>by
  obtain ⟨o',es',ep',ho',r'⟩:=hm
  rw [ho] at ho';cases ho'
  exact ⟨_,es',ep',hL,r'⟩) hok hg
theorem Inv.turned {t':Nat} {it:Addr} (I:Inv X pins σ H s) (k:∀ b o,b≠it→s.heap.get? b=some o→h'.get? b=some o) (hn:H it=none) (hL:it≠X.env.locals)
  (h1:it∈X.ex ∨ X.s₀.heap.objs.size≤it) (h2:∀ x c,X.env.cells.lookup x=some c→c≠it) (h3:∀ p∈X.pn++pins,p.1≠it):Inv X pins σ H { s with heap:=h',toks:=t' }:=by
 have nit:∀ b u,H b=some u→b≠it:=λ b u e z=>by rw [z,hn] at e;cases e
 refine I.step (g':=s.gens) (d':=s.drawn) (ch:=[it]) (λ b hb=>?_) (λ b o _ _ hc e _=>k b o (λ z=>hc (by simp [z])) e) (λ b o _ _ hc e _=>⟨o.slots,k b o (λ z=>hc (by simp [z])) e⟩) (λ _ _ _ _ n=>n)
  (λ b o hc e=>⟨o,k b o (λ z=>hc (by simp [z])) e⟩) (λ _ _ e=>e) (λ _ _ _ e=>e) (λ b ps e=>⟨#[],by rw [e];simp⟩) (λ m hm=>?_) (λ b u e=>?_) I.bare
 ·have e:b=it:=by simpa using hb
  subst e
  exact ⟨h1,hL,h2,h3⟩
 ·obtain ⟨o,es,ep,ho,r⟩:=hm
  exact ⟨o,es,ep,k _ o (Ne.symm hL) ho,r⟩
 ·refine (I.hok b u e).stay (λ c v hc q=>k c v ?_ q) (λ _ q=>q) λ _ _ q=>q
  rcases hc with z | z
  ·rw [z];exact nit b u e
  ·exact nit c _ z
theorem Inv.tok (I:Inv X pins σ H s) (t:Nat):Inv X pins σ H { s with toks:=t }:=I.un (h':=s.heap) (t':=t) Un.refl I.hok
theorem Inv.kept {t':Nat} (I:Inv X pins σ H s) (k:∀ b u,s.heap.get? b=some u→h'.get? b=some u):Inv X pins σ H { s with heap:=h',toks:=t' }:=I.un (Un.kept k) (I.hok.kept k)
theorem Inv.laid {a:Addr} {o:HO} {t':Nat} (I:Inv X pins σ H s) (k:∀ b u,s.heap.get? b=some u→h'.get? b=some u) (hp:s.heap.objs.size≤a) (new:ObjOk X.prog X.w (upd H a o) h' a o) :
  Inv X pins σ (upd H a o) { s with heap:=h',toks:=t' }:=I.un (Un.laid k hp (I.hok.fresh hp)) (I.hok.laid k hp new)
theorem Inv.write {x e:Addr} {o:HO} {t':Nat} (I:Inv X pins σ H s) (mu:Mut (H x)) (he:e=x ∨ H e=some (.own x)) (k:∀ b u,b≠e→s.heap.get? b=some u→h'.get? b=some u) (heo:∃ u,h'.get? e=some u)
  (new:ObjOk X.prog X.w (upd H x o) h' x o):Inv X pins σ (upd H x o) { s with heap:=h',toks:=t' }:=I.un (Un.write mu he k heo) (I.hok.write mu he k heo new)
theorem Inv.weak {σ':List (Option V)} (I:Inv X pins σ H s) (hl:σ'.length=σ.length) (w:∀ (i:Nat) v,σ'[i]? = some (some v)→σ[i]? = some (some v)):Inv X pins σ' H s :=
 ⟨I.ok,I.os,I.bare,I.base,let ⟨m,hn,hl'⟩:=I.loc; ⟨m,hn,λ i x v e1 e2 e3=>hl' i x v e1 (w i v e2) e3⟩,I.cell,I.free,I.freeC,I.pin,I.hok,hl.trans I.len⟩
theorem Inv.pins_of {pins':List (Addr×Obj)} (I:Inv X pins σ H s) (h:∀ p∈pins',s.heap.get? p.1=some p.2∧H p.1=none∧p.1≠X.env.locals∧p.1∉X.fs∧∀ v,p.2.data ≠ .cell v):Inv X pins' σ H s :=
 ⟨I.ok,I.os,I.bare,I.base,I.loc,I.cell,I.free,I.freeC,λ p hp=>(List.mem_append.mp hp).elim (λ z=>I.pin p (List.mem_append_left _ z)) (h p),I.hok,I.len⟩
theorem zsh {N:List Str} (hN:N.Nodup) {i j:Nat} {x:Str} (a:N[i]? = some x) (b:N[j]? = some x):i=j:=by
 obtain ⟨h1,e1⟩:=List.getElem?_eq_some_iff.mp a
 obtain ⟨h2,e2⟩:=List.getElem?_eq_some_iff.mp b
 exact (List.getElem_inj hN).mp (e1.trans e2.symm)
theorem zii {M:Model} {A:Around} {E:Value→Shared→Prop} {i:Nat} {x:Str} {v:V} {u:Value} {Q:Unit→Shared→Prop} (I:Inv X pins σ H s) (hN:X.N.Nodup) (hi:X.N[i]? = some x) (hx:Loc X.env.scope x) (r:RelV v u)
  (h:∀ s',Inv X pins (σ.set i (some v)) H s'→(∃ a,Heap.SameBut a s.heap s'.heap∧(a=X.env.locals ∨ X.env.cells.lookup x=some a))→Q () s') (hf:X.fn x=true ∨ X.env.scope.names.lookup x=some .local:=by first | exact .inl rfl | exact .inr rfl | assumption):wpAny M A (storeName X.env x u) Q E s:=by
 obtain ⟨m,hn,hl⟩:=id I.loc
 have hcls:(X.env.scope.kind == .class || (X.env.scope.kind == .module && X.env.locals != X.env.globals))=false:=by rw [I.ok.kind];rfl
 have hiσ:i<σ.length:=by rw [I.len];exact (List.getElem?_eq_some_iff.mp hi).1
 have cne:=I.cne
 have tracked:∀ {a:Addr} {h':Heap},(∃ o,s.heap.get? a=some o∧H a=none)→Heap.SameBut a s.heap h'→HOk X.prog X.w H h':=fun {a h'} ha hs b ob e=>by
  obtain ⟨_,_,hfree⟩:=ha
  refine (I.hok b ob e).stay (λ c w' hc q=>(hs.2 c ?_).trans q) (λ _ q=>q) λ _ _ q=>q
  rintro rfl
  rcases hc with rfl | hc
  ·rw [hfree] at e;cases e
  ·rw [hfree] at hc;cases hc
 rcases hx with hk | hk
 ·refine wpAny_storeName_local hk hn (λ h' hn' hs=>?_) hcls
  obtain ⟨oL,_,_,hoL,_⟩:=id hn
  refine h _ ⟨I.ok,I.os,I.bare,⟨λ b o e n hb hx=>?_,λ b o e n hb hx=>?_,I.base.free,λ b o e hx=>?_,I.base.tups,I.base.frzs,I.base.tbls⟩,⟨_,hn',λ j y v' e1 e2 e3=>?_⟩,λ y c e=>?_,I.free,I.freeC,λ p hp=>?_,tracked ⟨oL,hoL,I.free⟩ hs,by simpa using I.len⟩ ⟨_,hs,.inl rfl⟩
  ·exact (hs.2 b (Nat.ne_of_lt (Nat.lt_of_lt_of_le (Heap.lt_size e) I.ok.above))).trans (I.base.keep b o e n hb hx)
  ·obtain ⟨sl,e1⟩:=I.base.slot b o e n hb hx
   exact ⟨sl,(hs.2 b (Nat.ne_of_lt (Nat.lt_of_lt_of_le (Heap.lt_size e) I.ok.above))).trans e1⟩
  ·obtain ⟨o',e1⟩:=I.base.there b o e hx
   exact ⟨o',(hs.2 b (Nat.ne_of_lt (Nat.lt_of_lt_of_le (Heap.lt_size e) I.ok.above))).trans e1⟩
  ·by_cases hj:j=i
   ·subst hj
    rw [hi] at e1;cases e1
    rw [List.getElem?_set_self hiσ] at e2
    cases e2
    exact ⟨u,r,.inl ⟨hk,by simp⟩⟩
   ·rw [List.getElem?_set_ne (Ne.symm hj)] at e2
    obtain ⟨u',r',q⟩:=hl j y v' e1 e2 e3
    refine ⟨u',r',?_⟩
    rcases q with ⟨k,e⟩ | ⟨k,c,e,z⟩
    ·refine .inl ⟨k,?_⟩
     have:y≠x:=λ e=>hj (zsh hN e1 (e ▸ hi))
     simp [this,e]
    ·exact .inr ⟨k,c,e,z.sameBut hs (cne y c e)⟩
  ·obtain ⟨w',z⟩:=I.cell y c e
   exact ⟨w',z.sameBut hs (cne y c e)⟩
  ·obtain ⟨e,n,ne,nf,d⟩:=I.pin p hp
   exact ⟨(hs.2 p.1 ne).trans e,n,ne,nf,d⟩
 ·have hfn:X.fn x=true:=by
   rcases hf with z | z
   ·exact z
   ·rw [z] at hk;cases hk
  obtain ⟨c,hc⟩:=I.ok.has x (.inl hk)
  obtain ⟨w',z⟩:=I.cell x c hc
  refine wpAny_storeName_cell I.ok.kind hk hc z (λ h' hc' hs=>?_)
  obtain ⟨oc,hoc,hocd⟩:=id z
  refine h { s with heap:=h' } ⟨I.ok,I.os,I.bare,⟨λ b o e n hb hx=>?_,λ b o e n hb hx=>?_,I.base.free,λ b o e hx=>?_,I.base.tups,I.base.frzs,I.base.tbls⟩,⟨m,hn.sameBut hs (Ne.symm (cne x c hc)),λ j y v' e1 e2 e3=>?_⟩,λ y c' e=>?_,I.free,I.freeC,λ p hp=>?_,tracked ⟨oc,hoc,I.freeC x c hc⟩ hs,by simpa using I.len⟩ ⟨c,hs,.inr hc⟩
  ·exact (hs.2 b (Nat.ne_of_lt (Nat.lt_of_lt_of_le (Heap.lt_size e) (I.ok.cab x c hfn hc)))).trans (I.base.keep b o e n hb hx)
  ·obtain ⟨sl,e1⟩:=I.base.slot b o e n hb hx
   exact ⟨sl,(hs.2 b (Nat.ne_of_lt (Nat.lt_of_lt_of_le (Heap.lt_size e) (I.ok.cab x c hfn hc)))).trans e1⟩
  ·obtain ⟨o',e1⟩:=I.base.there b o e hx
   exact ⟨o',(hs.2 b (Nat.ne_of_lt (Nat.lt_of_lt_of_le (Heap.lt_size e) (I.ok.cab x c hfn hc)))).trans e1⟩
  ·by_cases hj:j=i
   ·subst hj
    rw [hi] at e1;cases e1
    rw [List.getElem?_set_self hiσ] at e2
    cases e2
    exact ⟨u,r,.inr ⟨.inl hk,c,hc,hc'⟩⟩
   ·rw [List.getElem?_set_ne (Ne.symm hj)] at e2
    obtain ⟨u',r',q⟩:=hl j y v' e1 e2 e3
    refine ⟨u',r',?_⟩
    rcases q with q | ⟨k,c',e,z'⟩
    ·exact .inl q
    ·refine .inr ⟨k,c',e,z'.sameBut hs ?_⟩
     rintro rfl
     exact hj (zsh hN e1 (I.ok.inj _ _ _ e hc ▸ hi))
  ·by_cases hcc:c'=c
   ·subst hcc;exact ⟨_,hc'⟩
   ·obtain ⟨w2,z2⟩:=I.cell y c' e
    exact ⟨w2,z2.sameBut hs hcc⟩
  ·obtain ⟨e,n,ne,nf,d⟩:=I.pin p hp
   refine ⟨(hs.2 p.1 ?_).trans e,n,ne,nf,d⟩
   intro q
   rw [q,hoc] at e
   have q':oc=p.2:=Option.some.inj e
   exact d w' (by rw [← q'];exact hocd)
theorem zfh {M:Model} {A:Around} {E:Value→Shared→Prop} {i:Nat} {x:Str} {v:V} {u:Value} {Q:Unit→Shared→Prop} (I:Inv X pins σ H s) (hN:X.N.Nodup) (hi:X.N[i]? = some x) (hx:Loc X.env.scope x) (r:RelV v u)
  (h:∀ s',Inv X pins (σ.set i (some v)) H s'→Q () s') (hf:X.fn x=true ∨ X.env.scope.names.lookup x=some .local:=by first | exact .inl rfl | exact .inr rfl | assumption):wpAny M A (storeName X.env x u) Q E s :=
 zii I hN hi hx r (λ s' I' _=>h s' I') hf
theorem Inv.call' {s':Shared} {ch:List Addr} (I:Inv X pins σ H s) (ho:s'.os=s.os) (u:Un (frs X.stack) ch H H' s.heap s'.heap) (hok:HOk X.prog X.w H' s'.heap) (hg:AllBare s'.gens)
  (hch:∀ b∈ch,(b∈X.ex ∨ X.s₀.heap.objs.size≤b)∧b≠X.env.locals∧(∀ x c,X.env.cells.lookup x=some c→c≠b)∧∀ p∈X.pn++pins,p.1≠b):Inv X pins σ H' s':=by
 obtain ⟨h',g',d',t',o'⟩:=s'
 have e:o'=s.os:=ho
 subst e
 exact I.call (g':=g') (t':=t') (d':=d') u hok hg hch
end
noncomputable abbrev XK:=Value→Option Addr→Hp→Prop
noncomputable abbrev St:=List (Option V)
noncomputable abbrev VK:=V→Hp→Prop
noncomputable abbrev TE:=St→Hp→VK→Prop
noncomputable abbrev TT:=St→Hp→(Bool→Hp→Prop)→Prop
noncomputable abbrev TA:=St→Hp→(List V→Hp→Prop)→Prop
structure Ends where
 nx:St→Hp→Prop
 rt:VK
 bk:St→Hp→Prop:=λ _ _=>False
 ct:St→Hp→Prop:=λ _ _=>False
noncomputable abbrev TS:=Ends→St→Hp→Prop
noncomputable def EP (X:Cx) (pins:List (Addr×Obj)) (σ:St) (Q:VK) (u:Value) (s':Shared):Prop:=∃ v H',Inv X pins σ H' s'∧RelV v u∧Q v H'
noncomputable def TP (X:Cx) (pins:List (Addr×Obj)) (σ:St) (Q:Bool→Hp→Prop) (b:Bool) (s':Shared):Prop:=∃ H',Inv X pins σ H' s'∧Q b H'
noncomputable def AP (X:Cx) (pins:List (Addr×Obj)) (σ:St) (Q:List V→Hp→Prop) (us:List Value) (s':Shared):Prop:=∃ vs H',Inv X pins σ H' s'∧Vals vs us∧Q vs H'
noncomputable def SP (X:Cx) (pins:List (Addr×Obj)) (D:Ends) (f:Flow) (s':Shared):Prop :=
 match f with
 | .next=>∃ σ' H',Inv X pins σ' H' s'∧D.nx σ' H'
 | .brk=>∃ σ' H',Inv X pins σ' H' s'∧D.bk σ' H'
 | .cont=>∃ σ' H',Inv X pins σ' H' s'∧D.ct σ' H'
 | .ret u=>∃ v σ' H',Inv X pins σ' H' s'∧RelV v u∧D.rt v H'
structure PE (X:Cx) (e:Expr) (t:TE):Prop where
 run :
 ∀ (pins:List (Addr×Obj)) (s:Shared) (σ:St) (H:Hp) (Q:VK),Inv X pins σ H s→t σ H Q→wpAny (model X.prog X.w) X.A (eval e X.env) (EP X pins σ Q) X.xe s
noncomputable instance {X:Cx} {e:Expr} {t:TE}:CoeFun (PE X e t) (λ _ =>
 ∀ (pins:List (Addr×Obj)) (s:Shared) (σ:St) (H:Hp) (Q:VK),Inv X pins σ H s→t σ H Q→wpAny (model X.prog X.w) X.A (eval e X.env) (EP X pins σ Q) X.xe s
 ):=⟨λ h=>h.run⟩
structure PT (X:Cx) (e:Expr) (t:TT):Prop where
 run :
 ∀ (pins:List (Addr×Obj)) (s:Shared) (σ:St) (H:Hp) (Q:Bool→Hp→Prop),Inv X pins σ H s→t σ H Q→wpAny (model X.prog X.w) X.A (isTrue e X.env (eval e X.env)) (TP X pins σ Q) X.xe s
noncomputable instance {X:Cx} {e:Expr} {t:TT}:CoeFun (PT X e t) (λ _ =>
 ∀ (pins:List (Addr×Obj)) (s:Shared) (σ:St) (H:Hp) (Q:Bool→Hp→Prop),Inv X pins σ H s→t σ H Q→wpAny (model X.prog X.w) X.A (isTrue e X.env (eval e X.env)) (TP X pins σ Q) X.xe s
 ):=⟨λ h=>h.run⟩
structure PW (X:Cx) (e:Expr) (t:TT):Prop where
 run :
 ∀ (whole:Sem Value) (pins:List (Addr×Obj)) (s:Shared) (σ:St) (H:Hp) (Q:Bool→Hp→Prop),Inv X pins σ H s→t σ H Q→wpAny (model X.prog X.w) X.A (isTrue e X.env whole) (TP X pins σ Q) X.xe s
noncomputable instance {X:Cx} {e:Expr} {t:TT}:CoeFun (PW X e t) (λ _ =>
 ∀ (whole:Sem Value) (pins:List (Addr×Obj)) (s:Shared) (σ:St) (H:Hp) (Q:Bool→Hp→Prop),Inv X pins σ H s→t σ H Q→wpAny (model X.prog X.w) X.A (isTrue e X.env whole) (TP X pins σ Q) X.xe s
 ):=⟨λ h=>h.run⟩
theorem PW.pt {X:Cx} {e:Expr} {t:TT} (h:PW X e t):PT X e t := .mk (h _)
structure PA (X:Cx) (es:List Expr) (t:TA):Prop where
 run :
 ∀ (pos:Pos) (pins:List (Addr×Obj)) (s:Shared) (σ:St) (H:Hp) (Q:List V→Hp→Prop),Inv X pins σ H s→t σ H Q→wpAny (model X.prog X.w) X.A (spliced (backTo pos (starEach es X.env))) (AP X pins σ Q) X.xe s
noncomputable instance {X:Cx} {es:List Expr} {t:TA}:CoeFun (PA X es t) (λ _ =>
 ∀ (pos:Pos) (pins:List (Addr×Obj)) (s:Shared) (σ:St) (H:Hp) (Q:List V→Hp→Prop),Inv X pins σ H s→t σ H Q→wpAny (model X.prog X.w) X.A (spliced (backTo pos (starEach es X.env))) (AP X pins σ Q) X.xe s
 ):=⟨λ h=>h.run⟩
structure PS (X:Cx) (st:Stmt) (t:TS):Prop where
 run :
 ∀ (pins:List (Addr×Obj)) (s:Shared) (σ:St) (H:Hp) (D:Ends),Inv X pins σ H s→t D σ H→wpAny (model X.prog X.w) X.A (exec st X.env) (SP X pins D) X.xe s
noncomputable instance {X:Cx} {st:Stmt} {t:TS}:CoeFun (PS X st t) (λ _ =>
 ∀ (pins:List (Addr×Obj)) (s:Shared) (σ:St) (H:Hp) (D:Ends),Inv X pins σ H s→t D σ H→wpAny (model X.prog X.w) X.A (exec st X.env) (SP X pins D) X.xe s
 ):=⟨λ h=>h.run⟩
structure PSs (X:Cx) (st:List Stmt) (t:TS):Prop where
 run :
 ∀ (pins:List (Addr×Obj)) (s:Shared) (σ:St) (H:Hp) (D:Ends),Inv X pins σ H s→t D σ H→wpAny (model X.prog X.w) X.A (execs st X.env) (SP X pins D) X.xe s
noncomputable instance {X:Cx} {st:List Stmt} {t:TS}:CoeFun (PSs X st t) (λ _ =>
 ∀ (pins:List (Addr×Obj)) (s:Shared) (σ:St) (H:Hp) (D:Ends),Inv X pins σ H s→t D σ H→wpAny (model X.prog X.w) X.A (execs st X.env) (SP X pins D) X.xe s
 ):=⟨λ h=>h.run⟩
theorem thn {α:Type} {t:Sem α} {Q Q':α→Shared→Prop} {M:Model} {A:Around} {E:Value→Shared→Prop} {s:Shared} (h:wpAny M A t Q E s) (hQ:∀ a s,Q a s→Q' a s):wpAny M A t Q' E s:=wpAny_mono h hQ λ _ _ x=>x
end L2
namespace L2
open PySem PySem.Spec PyProof.Rows
section
variable {X:Cx}
noncomputable def tVar (i:Nat):TE:=λ σ H Q=>∃ v,σ[i]? = some (some v)∧Q v H
noncomputable def tC (v:V):TE:=λ _ H Q=>Q v H
theorem zrx {i:Nat} {x:Str} {pos:Pos} (hN:X.N[i]? = some x) (hv:Vis X.env.scope x) (hd:(x == ("__debug__" : Str))=false:=by decide) (hcd:(x == ("__classdict__" : Str))=false:=by decide):PE X (.Name x pos) (tVar i) := .mk <| by
 intro pins s σ H Q I h
 obtain ⟨v,e,h⟩:=h
 obtain ⟨m,hn,hl⟩:=I.loc
 obtain ⟨u,r,l⟩:=hl i x v hN e hv
 have fin:EP X pins σ Q u s:=⟨v,H,I,r,h⟩
 rcases l with ⟨hk,hm⟩ | ⟨hk,c,hc,hcell⟩
 ·exact wpAny_Name (wpAny_loadName_local I.ok.kind hk hn hm fin) hd
 ·rcases hk with hk | hk
  ·exact wpAny_Name (wpAny_loadName_cell I.ok.kind hk hc hcell fin) hd
  ·exact wpAny_Name (wpAny_loadName_free I.ok.kind hk hc hcell fin hcd) hd
theorem zba {i j pos}:PE X (.Constant (.int i) j pos) (tC (.int i)) := .mk <| λ _ _ _ H _ I h=>wpAny_Constant_int ⟨.int i,H,I.tok _,⟨_,rfl⟩,h⟩
theorem zus {b j pos}:PE X (.Constant (.bool b) j pos) (tC (.bl b)) := .mk <| λ _ _ _ H _ I h=>Constant_bool ⟨.bl b,H,I,rfl,h⟩
theorem zvj {j pos}:PE X (.Constant .none j pos) (tC .non) := .mk <| λ _ _ _ H _ I h=>Constant_none ⟨.non,H,I,rfl,h⟩
theorem zya {x j pos}:PE X (.Constant (.str x) j pos) (tC (.str x)) := .mk <| λ _ _ _ H _ I h=>Calls.Constant_str ⟨.str x,H,I.tok _,⟨_,rfl⟩,h⟩
noncomputable def Gl (X:Cx) (x:Str):Prop:=X.env.kindOf x=some .globalImplicit
theorem zde {E:Value→Shared→Prop} {pins:List (Addr×Obj)} {s:Shared} {σ:St} {H:Hp} {x:Str} {u:Value} {pos:Pos} {Q:Value→Shared→Prop} (I:Inv X pins σ H s) (hg:Gl X x) (hm:X.mg x=some u) (h:Q u s)
  (hd:(x == ("__debug__" : Str))=false:=by decide):wpAny (model X.prog X.w) X.A (eval (.Name x pos) X.env) Q E s :=
 Calls.Name_function_global I.ok.kind hg (Calls.loadGlobal_global (by rw [I.ok.glob];exact I.mod.glob.keeps I.bk) hm h) hd
theorem zjj {E:Value→Shared→Prop} {pins:List (Addr×Obj)} {s:Shared} {σ:St} {H:Hp} {x:Str} {u:Value} {pos:Pos} {Q:Value→Shared→Prop} (I:Inv X pins σ H s) (hg:Gl X x) (hm:X.mg x=none) (hv:bootBuiltins x=some u) (h:Q u s)
  (hn:x ≠ "__name__" := by decide) (hd:(x == ("__debug__" : Str))=false:=by decide):wpAny (model X.prog X.w) X.A (eval (.Name x pos) X.env) Q E s:=by
 obtain ⟨mb,h1,h2⟩:=I.mod.blt
 exact Calls.Name_function_global I.ok.kind hg (Calls.loadGlobal_builtin (by rw [I.ok.glob];exact I.mod.glob.keeps I.bk) hm (by rw [I.ok.blt];exact h1.keeps I.bk) ((h2 x hn).trans hv) h) hd
theorem zie {x:Str} {v:V} {u:Value} {pos:Pos} (hg:Gl X x) (hm:X.mg x=some u) (r:RelV v u) (hd:(x == ("__debug__" : Str))=false:=by decide):PE X (.Name x pos) (tC v) := .mk <| λ _ _ _ H _ I h=>zde I hg hm ⟨v,H,I,r,h⟩ hd
theorem zet {x:Str} {v:V} {u:Value} {pos:Pos} (hg:Gl X x) (hm:X.mg x=none) (hv:bootBuiltins x=some u) (r:RelV v u) (hn:x ≠ "__name__" := by decide) (hd:(x == ("__debug__" : Str))=false:=by decide):PE X (.Name x pos) (tC v) := .mk <| λ _ _ _ H _ I h=>zjj I hg hm hv ⟨v,H,I,r,h⟩ hn hd
variable {a b:Expr} {ta tb:TE} {pos:Pos}
noncomputable def tB (t:TE):TT:=λ σ H Q=>t σ H λ x H1=>∃ c,x = .bl c∧Q c H1
theorem zlh {e:Expr} {t:TE} (h:PE X e t) (he:∀ whole,isTrue e X.env whole=(do let v ← whole;standAt e.pos;holding [v] (truthy v)):=by intro _;rfl):PT X e (tB t) := .mk <| by
 intro pins s σ H Q I hw
 refine isTrue_plain (thn (h pins s σ H _ I hw) λ v s1 ⟨x,H1,I1,r1,q1⟩=>?_) (he _)
 obtain ⟨d,rfl,q⟩:=q1
 cases r1
 exact wpAny_truthy_bool ⟨H1,I1,q⟩
variable {tA tB':TT} {rest:List Expr}
noncomputable def tAnd (t u:TT):TT:=λ σ H Q=>t σ H λ c H1=>if c=true then u σ H1 Q else Q false H1
noncomputable def tOr (t u:TT):TT:=λ σ H Q=>t σ H λ c H1=>if c=true then Q true H1 else u σ H1 Q
noncomputable def tNot (t:TT):TT:=λ σ H Q=>t σ H λ c H1=>Q (!c) H1
theorem zwd (ha:PT X a tA):PW X (.BoolOp .And [a] pos) tA := .mk <| by
 intro wh pins s σ H Q I h
 refine isTrue_and (thn (ha pins s σ H Q I h) λ c s1 e=>?_)
 cases c with
 | true=>exact isTrue_and_nil e
 | false=>exact e
theorem zto (ha:PT X a tA):PW X (.BoolOp .Or [a] pos) tA := .mk <| by
 intro wh pins s σ H Q I h
 refine isTrue_or (thn (ha pins s σ H Q I h) λ c s1 e=>?_)
 cases c with
 | false=>exact isTrue_or_nil e
 | true=>exact e
theorem zqh (ha:PT X a tA) (hb:PW X (.BoolOp .And (b::rest) pos) tB'):PW X (.BoolOp .And (a::b::rest) pos) (tAnd tA tB') := .mk <| by
 intro wh pins s σ H Q I h
 refine isTrue_and (thn (ha pins s σ H _ I h) λ c s1 ⟨H1,I1,q1⟩=>?_)
 cases c with
 | true=>exact hb wh pins s1 σ H1 Q I1 q1
 | false=>exact ⟨H1,I1,q1⟩
theorem zsv (ha:PT X a tA) (hb:PW X (.BoolOp .Or (b::rest) pos) tB'):PW X (.BoolOp .Or (a::b::rest) pos) (tOr tA tB') := .mk <| by
 intro wh pins s σ H Q I h
 refine isTrue_or (thn (ha pins s σ H _ I h) λ c s1 ⟨H1,I1,q1⟩=>?_)
 cases c with
 | true=>exact ⟨H1,I1,q1⟩
 | false=>exact hb wh pins s1 σ H1 Q I1 q1
theorem zro (ha:PT X a tA):PT X (.UnaryOp .Not a pos) (tNot tA) := .mk <| by
 intro pins s σ H Q I h
 exact isTrue_not (ha pins s σ H (λ c H1=>Q (!c) H1) I h)
end
end L2
namespace L2
open PySem PySem.Spec PyProof.Rows
noncomputable def SqL (K:W.Frag) (H:Hp) (a:Addr) (xs:List V):Prop :=
 Rd H a (.lst xs) ∨
  ∃ (o:Obj) (its:Array Value) (n:Nat),K.lookup a=some o∧o.cls = .type "list" ∧ o.dict=none∧o.data = .seq its n∧its.size≤sizeLine∧Vals xs its.toList
noncomputable def SqT (K:W.Frag) (H:Hp) (a:Addr) (xs:List V):Prop :=
 Rd H a (.tup xs) ∨
  ∃ (o:Obj) (its:Array Value) (n:Nat),K.lookup a=some o∧o.cls = .type "tuple" ∧ o.data = .seq its n∧its.size≤sizeLine∧Vals xs its.toList
noncomputable def absV:Value→Option V
 | .none=>some .non
 | .bool b=>some (.bl b)
 | .int i _=>some (.int i)
 | .str x _=>some (.str x)
 | .bytes b _=>some (.byt b)
 | .float b _=>some (.flt b)
 | .ref a=>some (.ref a)
 | .type n=>some (.ty n)
 | _=>none
theorem RelV.abs {x:V} {u:Value} (r:RelV x u):absV u=some x:=by
 cases x with
 | non=>cases r;rfl
 | bl _=>cases r;rfl
 | int _=>obtain ⟨t,rfl⟩:=r;rfl
 | str _=>obtain ⟨t,rfl⟩:=r;rfl
 | byt _=>obtain ⟨t,rfl⟩:=r;rfl
 | flt _=>obtain ⟨t,rfl⟩:=r;rfl
 | ref _=>cases r;rfl
 | ty _=>cases r;rfl
theorem RelV.inj {x y:V} {u:Value} (r:RelV x u) (q:RelV y u):x=y:=Option.some.inj (r.abs.symm.trans q.abs)
theorem Vals.inj:∀ {xs ys:List V} {us:List Value},Vals xs us→Vals ys us→xs=ys
 | _,_,_,.nil,.nil=>rfl
 | _,_,_,.cons r t,.cons r' t'=>by rw [r.inj r',Vals.inj t t']
section
variable {X:Cx} {pins:List (Addr×Obj)} {σ:St} {H:Hp} {s:Shared} {a:Addr} {xs ys:List V}
theorem SqL.of {K:W.Frag} (h:H a=some (.lst xs)):SqL K H a xs := .inl (.inl h)
theorem SqT.of {K:W.Frag} (h:H a=some (.tup xs)):SqT K H a xs := .inl (.inl h)
theorem Inv.list (I:Inv X pins σ H s) (h:SqL X.K H a xs):∃ its:List Value,Vals xs its∧PlainL s.heap a its.toArray∧xs.length≤sizeLine:=by
 rcases h with h | ⟨o,its,n,hk,hc,hd,hs,hz,r⟩
 ·obtain ⟨z,its,n,r,e⟩:=h.ok I.hok
  exact ⟨its,r,⟨_,n,e,rfl,rfl,rfl⟩,z⟩
 ·refine ⟨its.toList,r,⟨o,n,I.kIn a o hk,hc,hd,by simpa using hs⟩,?_⟩
  have e:=r.length
  simp only [Array.length_toList] at e
  omega
theorem Inv.tuple (I:Inv X pins σ H s) (h:SqT X.K H a xs):∃ its:List Value,Vals xs its∧IsTup s.heap a its.toArray∧xs.length≤sizeLine:=by
 rcases h with h | ⟨o,its,n,hk,hc,hs,hz,r⟩
 ·obtain ⟨z,its,r,p⟩:=h.ok I.hok
  exact ⟨its,r,p,z⟩
 ·refine ⟨its.toList,r,⟨o,I.kIn a o hk,hc,n,by simpa using hs⟩,?_⟩
  have e:=r.length
  simp only [Array.length_toList] at e
  omega
theorem Inv.list_inj (I:Inv X pins σ H s) (h:SqL X.K H a xs) (h':SqL X.K H a ys):xs=ys:=by
 obtain ⟨its,r,⟨o,n,e,_,_,d⟩,_⟩:=I.list h
 obtain ⟨its',r',⟨o',n',e',_,_,d'⟩,_⟩:=I.list h'
 rw [e] at e';cases e'
 rw [d] at d'
 injection d' with d1 _
 have:its=its':=by simpa using congrArg Array.toList d1
 subst this
 exact r.inj r'
end
noncomputable abbrev Cx.wish (X:Cx) (E:Value→Shared→Prop):Cx:={ X with xe:=E }
noncomputable abbrev Cx.nox (X:Cx):Cx:=X.wish λ _ _=>False
theorem Cx.Ok.wish {X:Cx} (ok:X.Ok) (E:Value→Shared→Prop):(X.wish E).Ok :=
 ⟨ok.mod,ok.kind,ok.glob,ok.blt,ok.above,ok.inj,ok.has,ok.cab,ok.hd,ok.frames,ok.stk,ok.exf,ok.bs,ok.bsz,ok.noex,ok.exfs,ok.funs,ok.frf⟩
theorem Cx.Ok.unwish {X:Cx} {E:Value→Shared→Prop} (ok:(X.wish E).Ok):X.Ok :=
 ⟨ok.mod,ok.kind,ok.glob,ok.blt,ok.above,ok.inj,ok.has,ok.cab,ok.hd,ok.frames,ok.stk,ok.exf,ok.bs,ok.bsz,ok.noex,ok.exfs,ok.funs,ok.frf⟩
section
variable {X:Cx} {pins:List (Addr×Obj)} {σ:St} {H:Hp} {s:Shared} {E:Value→Shared→Prop}
theorem Inv.wish (I:Inv X pins σ H s) (E:Value→Shared→Prop):Inv (X.wish E) pins σ H s:=⟨I.ok.wish E,I.os,I.bare,I.base,I.loc,I.cell,I.free,I.freeC,I.pin,I.hok,I.len⟩
theorem Inv.unwish (I:Inv (X.wish E) pins σ H s):Inv X pins σ H s:=⟨I.ok.unwish,I.os,I.bare,I.base,I.loc,I.cell,I.free,I.freeC,I.pin,I.hok,I.len⟩
theorem SP.unwish {D:Ends} {f:Flow} {s':Shared} (h:SP (X.wish E) pins D f s'):SP X pins D f s':=by
 cases f with
 | next=>obtain ⟨σ',H',I,q⟩:=h;exact ⟨σ',H',I.unwish,q⟩
 | brk=>obtain ⟨σ',H',I,q⟩:=h;exact ⟨σ',H',I.unwish,q⟩
 | cont=>obtain ⟨σ',H',I,q⟩:=h;exact ⟨σ',H',I.unwish,q⟩
 | ret u=>obtain ⟨v,σ',H',I,r,q⟩:=h;exact ⟨v,σ',H',I.unwish,r,q⟩
theorem PSs.nox {st:List Stmt} {t:TS} (h:PSs X.nox st t):PSs X st t := .mk <| λ pins s σ H D I hw =>
 wpAny_mono (h pins s σ H D (I.wish _) hw) (λ _ _ q=>q.unwish) λ _ _ z=>False.elim z
end
section
variable {X:Cx} {st:Stmt} {rest:List Stmt} {t u:TS} {e:Expr} {te:TE} {pos:Pos}
noncomputable def zh1:TS:=λ D σ H=>D.nx σ H
noncomputable def tSeq (t u:TS):TS:=λ D σ H=>t { D with nx:=u D } σ H
theorem zsa:PSs X [] zh1 := .mk <| λ _ _ σ H _ I h=>wpAny_execs_nil ⟨σ,H,I,h⟩
theorem zca (h1:PS X st t) (h2:PSs X rest u):PSs X (st::rest) (tSeq t u) := .mk <| by
 intro pins s σ H D I h
 refine wpAny_execs_cons (thn (h1 pins s σ H { D with nx:=u D } I h) λ f s1 q=>?_)
 cases f with
 | next =>
  obtain ⟨σ',H',I',q⟩:=q
  exact h2 pins s1 σ' H' D I' q
 | ret v=>exact q
 | brk=>exact q
 | cont=>exact q
theorem zfa (h1:PS X st t):PSs X [st] t := .mk <| by
 intro pins s σ H D I h
 refine wpAny_execs_cons (thn (h1 pins s σ H D I h) λ f s1 q=>?_)
 cases f with
 | next=>exact wpAny_execs_nil q
 | ret v=>exact q
 | brk=>exact q
 | cont=>exact q
theorem Inv.quiet {pins:List (Addr×Obj)} {σ:St} {H:Hp} {s:Shared} (I:Inv X pins σ H s):interactive X.env=false:=by simp [interactive,I.ok.kind]
noncomputable def zd0 (te:TE):TS:=λ D σ H=>te σ H λ _ H1=>D.nx σ H1
theorem zoe (he:PE X e te) (hs:swapsWith e none pos.line X.env=pure false:=by rfl):PS X (.Expr e pos) (zd0 te) := .mk <| by
 intro pins s σ H D I h
 exact wpAny_Expr_any (thn (he pins s σ H _ I h) λ v s1 ⟨x,H1,I1,r1,q1⟩=>⟨σ,H1,I1,q1⟩) I.quiet hs
noncomputable def tRet (te:TE):TS:=λ D σ H=>te σ H D.rt
theorem zwa (he:PE X e te):PS X (.Return (some e) pos) (tRet te) := .mk <| by
 intro pins s σ H D I h
 exact wpAny_Return_some (thn (he pins s σ H _ I h) λ v s1 ⟨x,H1,I1,r1,q1⟩=>⟨x,σ,H1,I1,r1,q1⟩)
noncomputable def tIfS (c:TT) (t u:TS):TS:=λ D σ H=>c σ H λ b H1=>if b=true then t D σ H1 else u D σ H1
theorem zuc {c:Expr} {a b:List Stmt} {tc:TT} (hc:PT X c tc) (ha:PSs X a t) (hb:PSs X b u):PS X (.If c a b pos) (tIfS tc t u) := .mk <| by
 intro pins s σ H D I h
 refine wpAny_If (thn (hc pins s σ H _ I h) λ d s1 ⟨H1,I1,q1⟩=>?_)
 cases d with
 | true=>exact ha pins s1 σ H1 D I1 q1
 | false=>exact hb pins s1 σ H1 D I1 q1
end
noncomputable abbrev TG:=V→St→Hp→(St→Hp→Prop)→Prop
noncomputable abbrev TGs:=List V→St→Hp→(St→Hp→Prop)→Prop
structure PG (X:Cx) (target:Expr) (t:TG):Prop where
 run :
 ∀ (pins:List (Addr×Obj)) (s:Shared) (σ:St) (H:Hp) (v:V) (u:Value) (Q:St→Hp→Prop),Inv X pins σ H s→RelV v u→t v σ H Q →
  wpAny (model X.prog X.w) X.A (assign target X.env u) (λ _ s'=>∃ σ' H',Inv X pins σ' H' s'∧Q σ' H') X.xe s
noncomputable instance {X:Cx} {target:Expr} {t:TG}:CoeFun (PG X target t) (λ _ =>
 ∀ (pins:List (Addr×Obj)) (s:Shared) (σ:St) (H:Hp) (v:V) (u:Value) (Q:St→Hp→Prop),Inv X pins σ H s→RelV v u→t v σ H Q →
  wpAny (model X.prog X.w) X.A (assign target X.env u) (λ _ s'=>∃ σ' H',Inv X pins σ' H' s'∧Q σ' H') X.xe s
 ):=⟨λ h=>h.run⟩
structure PGs (X:Cx) (ts:List Expr) (t:TGs):Prop where
 run :
 ∀ (pins:List (Addr×Obj)) (s:Shared) (σ:St) (H:Hp) (vs:List V) (us:List Value) (Q:St→Hp→Prop),Inv X pins σ H s→Vals vs us→t vs σ H Q →
  wpAny (model X.prog X.w) X.A (assignInOrder ((assignEach ts X.env).map (·.2)) us) (λ _ s'=>∃ σ' H',Inv X pins σ' H' s'∧Q σ' H') X.xe s
noncomputable instance {X:Cx} {ts:List Expr} {t:TGs}:CoeFun (PGs X ts t) (λ _ =>
 ∀ (pins:List (Addr×Obj)) (s:Shared) (σ:St) (H:Hp) (vs:List V) (us:List Value) (Q:St→Hp→Prop),Inv X pins σ H s→Vals vs us→t vs σ H Q →
  wpAny (model X.prog X.w) X.A (assignInOrder ((assignEach ts X.env).map (·.2)) us) (λ _ s'=>∃ σ' H',Inv X pins σ' H' s'∧Q σ' H') X.xe s
 ):=⟨λ h=>h.run⟩
noncomputable abbrev TSet:=V→V→V→Hp→(Hp→Prop)→Prop
noncomputable def PSet (X:Cx) (t:TSet):Prop :=
 ∀ (pins:List (Addr×Obj)) (s:Shared) (σ:St) (H:Hp) (o i v:V) (ov iv u:Value) (Q:Hp→Prop),Inv X pins σ H s→RelV o ov→RelV i iv→RelV v u→t o i v H Q →
  wpAny (model X.prog X.w) X.A (setItem ov iv u) (λ _ s'=>∃ H',Inv X pins σ H' s'∧Q H') X.xe s
section
variable {X:Cx} {pos:Pos}
noncomputable def zkd (i:Nat):TG:=λ v σ H Q=>Q (σ.set i (some v)) H
theorem zab {i:Nat} {x:Str} (hN:X.N.Nodup) (hi:X.N[i]? = some x) (hx:Loc X.env.scope x) (hf:X.fn x=true ∨ X.env.scope.names.lookup x=some .local:=by first | exact .inl rfl | exact .inr rfl | assumption):PG X (.Name x pos) (zkd i) := .mk <| by
 intro pins s σ H v u Q I r h
 exact wpAny_assign_Name (zfh I hN hi hx r (λ s' I'=>⟨_,H,I',h⟩) hf)
noncomputable def gNil:TGs:=λ vs σ H Q=>vs=[]∧Q σ H
noncomputable def zws (t:TG) (u:TGs):TGs:=λ vs σ H Q=>∃ v r,vs=v::r∧t v σ H λ σ' H'=>u r σ' H' Q
theorem zkc:PGs X [] gNil := .mk <| by
 intro pins s σ H vs us Q I r h
 obtain ⟨e,h⟩:=h
 subst e
 cases r
 exact assignInOrder_nil ⟨σ,H,I,h⟩
theorem zpa {e:Expr} {es:List Expr} {t:TG} {u:TGs} (h1:PG X e t) (h2:PGs X es u)
  (hs:(assignEach (e::es) X.env).map (·.2)=assign e X.env::(assignEach es X.env).map (·.2):=by rfl):PGs X (e::es) (zws t u) := .mk <| by
 intro pins s σ H vs us Q I r h
 obtain ⟨v,vr,e1,h⟩:=h
 subst e1
 cases r with
 | cons r rr =>
  rw [hs]
  refine assignInOrder_cons (thn (h1 pins s σ H _ _ _ I r h) λ _ s1 ⟨σ1,H1,I1,q1⟩=>?_)
  exact h2 pins s1 σ1 H1 _ _ Q I1 rr q1
noncomputable def gTup (K:W.Frag) (n:Nat) (t:TGs):TG:=λ v σ H Q=>∃ a xs,v = .ref a∧SqT K H a xs∧xs.length=n∧t xs σ H Q
theorem znf {es:List Expr} {k:Nat} {t:TGs} {n:Nat} (hc:X.calm=true) (h:PGs X es t)
  (hn:(assignEach es X.env).length=n:=by rfl) (hst:(assignEach es X.env).findIdx? (·.1)=none:=by rfl):PG X (.Tuple es k pos) (gTup X.K n t) := .mk <| by
 intro pins s σ H v u Q I r hw
 obtain ⟨a,xs,e1,hq,hl,hw⟩:=hw
 subst e1
 cases r
 obtain ⟨its,rv,ht,hz⟩:=I.tuple hq
 refine assign_Tuple_tuple (I.ok.hd hc) ht (by simp [hn,← hl,rv.length]) hst λ h' hx=>?_
 have I1:Inv X pins σ H { s with heap:=h' }:=I.kept (t':=s.toks) λ b o e=>hx b o (Nat.ne_of_lt (Heap.lt_size e)) e
 exact h pins _ σ H xs _ Q I1 (by simpa using rv) hw
noncomputable def gSub (to ti:TE) (t:TSet):TG:=λ v σ H Q=>to σ H λ o H1=>ti σ H1 λ i H2=>t o i v H2 λ H3=>Q σ H3
theorem zsx {o i:Expr} {to ti:TE} {t:TSet} (ho:PE X o to) (hi:PE X i ti) (hs:PSet X t)
  (ha:∀ v,assign (.Subscript o i pos) X.env v=(do
   let ov ← holding [v] (eval o X.env)
   let iv ← holding [v,ov] (eval i X.env)
   standAt pos
   holding [v,ov,iv] (setItem ov iv v)
   release [v,ov,iv] []):=by intro _;rfl):PG X (.Subscript o i pos) (gSub to ti t) := .mk <| by
 intro pins s σ H v u Q I r h
 rw [ha]
 refine wpAny_bind (wpAny_holding (thn (ho pins s σ H _ I h) λ ov s1 ⟨x,H1,I1,r1,q1⟩=>?_))
 refine wpAny_bind (wpAny_holding (thn (hi pins s1 σ H1 _ I1 q1) λ iv s2 ⟨y,H2,I2,r2,q2⟩=>?_))
 refine wpAny_bind (wpAny_standAt (wpAny_bind (wpAny_holding (thn (hs pins s2 σ H2 x y v ov iv u _ I2 r1 r2 r q2) λ _ s3 ⟨H3,I3,q3⟩=>?_))))
 exact wpAny_release ⟨σ,H3,I3,q3⟩
noncomputable def tAsg (te:TE) (g:TG):TS:=λ D σ H=>te σ H λ x H1=>g x σ H1 D.nx
theorem zrr {tg e:Expr} {te:TE} {g:TG} (he:PE X e te) (hg:PG X tg g) (hs:swapsWithSole [tg] e pos.line X.env=pure false:=by rfl) (hw:swappedStores [tg] e X.env=pure none:=by rfl)
  (h1:(assignEach [tg] X.env).map (·.2)=[assign tg X.env]:=by rfl):PS X (.Assign [tg] e pos) (tAsg te g) := .mk <| by
 intro pins s σ H D I h
 refine wpAny_Assign_stores (thn (he pins s σ H _ I h) λ v s1 ⟨x,H1,I1,r1,q1⟩=>?_) hs hw
 rw [h1]
 exact thn (hg pins s1 σ H1 x v _ I1 r1 q1) λ _ s2 q=>q
theorem zta {i:Nat} {x:Str} {e:Expr} {te:TE} {pos':Pos} (hN:X.N.Nodup) (hi:X.N[i]? = some x) (hx:Loc X.env.scope x) (he:PE X e te) (hs:swapsWith e (some (.Name x pos')) pos.line X.env=pure false:=by rfl) (hf:X.fn x=true ∨ X.env.scope.names.lookup x=some .local:=by first | exact .inl rfl | exact .inr rfl | assumption) :
  PS X (.Assign [.Name x pos'] e pos) (tAsg te (zkd i)) := .mk <| by
 intro pins s σ H D I h
 refine wpAny_Assign_Name (thn (he pins s σ H _ I h) λ v s1 ⟨y,H1,I1,r1,q1⟩=>?_) hs
 exact zfh I1 hN hi hx r1 (λ s2 I2=>⟨_,H1,I2,q1⟩) hf
end
section
variable {X:Cx} {pos:Pos}
end
structure It where
 go:Nat→Hp→Prop
 yld:Nat→Hp→V→Hp→Prop
 stop:Nat→Hp→Prop
noncomputable def FpOk (X:Cx) (pins:List (Addr×Obj)) (H:Hp) (b:Addr):Prop :=
 H b=none∧b≠X.env.locals∧b∉X.fs∧(b∈X.ex ∨ X.s₀.heap.objs.size≤b)∧(∀ x c,X.env.cells.lookup x=some c→c≠b)∧∀ p∈X.pn++pins,p.1≠b
theorem Inv.fpOk {X:Cx} {pins:List (Addr×Obj)} {σ:St} {H H':Hp} {s:Shared} {b:Addr} (I:Inv X pins σ H s) (hb:s.heap.objs.size≤b) (hn:H' b=none):FpOk X pins H' b:=by
 refine ⟨hn,Nat.ne_of_gt (Nat.lt_of_lt_of_le I.lt hb),I.nofs hb,.inr (Nat.le_trans I.sz hb),λ x c e z=>?_,λ p hp z=>?_⟩
 ·obtain ⟨v,q⟩:=I.cell x c e
  exact absurd (Nat.lt_of_lt_of_le q.lt (by rw [z];exact hb)) (Nat.lt_irrefl _)
 ·exact absurd (Nat.lt_of_lt_of_le (Heap.lt_size (I.pin p hp).1) (by rw [z];exact hb)) (Nat.lt_irrefl _)
structure Turn (P:Program) (w:World) (K:W.Frag) (tg:Expr) (J:It) (fp:List Addr) (it:Addr) (tn:Nat→Heap→Prop):Prop where
 mem:it∈fp
 obj:∀ i h,tn i h→∀ b∈fp,∃ o,h.get? b=some o∧∀ v,o.data ≠ .cell v
 keep:∀ i h h',tn i h→(∀ b∈fp,∀ o,h.get? b=some o→h'.get? b=some o)→tn i h'
 item:∀ (X:Cx),X.prog=P→X.w=w→X.K=K→X.calm=true→∀ (i:Nat) (pins:List (Addr×Obj)) (s:Shared) (σ:St) (H:Hp) (E:Value→Shared→Prop),Inv X pins σ H s→(∀ b∈fp,FpOk X pins H b)→tn i s.heap→J.go i H →
  wpAny (model P w) X.A (pyNext (.ref it)) (λ r s1=>∃ u,r=some u ∧
   wpAny (model P w) X.A (letOwnedTupleGo tg (.ref it) u) (λ _ s2=>∃ x H',Inv X pins σ H' s2∧RelV x u∧J.yld i H x H'∧tn (i+1) s2.heap∧∀ b∈fp,H' b=none) E s1) E s
 done:∀ (X:Cx),X.prog=P→X.w=w→X.K=K→X.calm=true→∀ (i:Nat) (pins:List (Addr×Obj)) (s:Shared) (σ:St) (H:Hp) (E:Value→Shared→Prop),Inv X pins σ H s→(∀ b∈fp,FpOk X pins H b)→tn i s.heap→J.stop i H →
  wpAny (model P w) X.A (pyNext (.ref it)) (λ r s1=>r=none∧Inv X pins σ H s1) E s
 self:∀ (A:Around) (i:Nat) (s:Shared) (Q:Value→Shared→Prop) (E:Value→Shared→Prop),tn i s.heap→Q (.ref it) s→wpAny (model P w) A (pyIter (.ref it)) Q E s
noncomputable abbrev TI:=St→Hp→(It→Hp→Prop)→Prop
noncomputable def PIE (X:Cx) (pins:List (Addr×Obj)) (σ:St) (tg:Expr) (R:It→Hp→Prop) (itv:Value) (s2:Shared):Prop :=
 ∃ (it:Addr) (fp:List Addr) (tn:Nat→Heap→Prop) (J:It) (H':Hp),itv = .ref it∧Inv X pins σ H' s2∧Turn X.prog X.w X.K tg J fp it tn∧tn 0 s2.heap∧(∀ b∈fp,FpOk X pins H' b)∧R J H'
structure PI (X:Cx) (tg iter:Expr) (wi:TI):Prop where
 run :
 ∀ (pins:List (Addr×Obj)) (s:Shared) (σ:St) (H:Hp) (R:It→Hp→Prop),Inv X pins σ H s→wi σ H R →
  wpAny (model X.prog X.w) X.A (eval iter X.env) (λ v s1=>wpAny (model X.prog X.w) X.A (pyIter v) (PIE X pins σ tg R) X.xe s1) X.xe s
noncomputable instance {X:Cx} {tg iter:Expr} {wi:TI}:CoeFun (PI X tg iter wi) (λ _ =>
 ∀ (pins:List (Addr×Obj)) (s:Shared) (σ:St) (H:Hp) (R:It→Hp→Prop),Inv X pins σ H s→wi σ H R →
  wpAny (model X.prog X.w) X.A (eval iter X.env) (λ v s1=>wpAny (model X.prog X.w) X.A (pyIter v) (PIE X pins σ tg R) X.xe s1) X.xe s
 ):=⟨λ h=>h.run⟩
theorem znz {M:Model} {A:Around} {E:Value→Shared→Prop} {s:Shared} {tg:Expr} {it:Addr} {u:Value} {o:Obj} {n:String} {vs:Array Value} {Q:Unit→Shared→Prop} (ho:s.heap.get? it=some o) (hc:o.cls = .type n) (hd:o.data = .fields vs)
  (hn:["enumerate", "zip", "dict_itemiterator", "dict_reverseitemiterator", "odict_iterator", "itertools.zip_longest", "itertools.pairwise"].contains n=false) (hQ:Q () s):wpAny M A (letOwnedTupleGo tg (.ref it) u) Q E s:=by
 unfold letOwnedTupleGo
 cases tg <;> first
  | exact wpAny_pure hQ
  | (cases u <;> first
    | exact wpAny_pure hQ
    | (refine wpAny_bind (wpAny_load ho ?_)
       rw [hc,hd]
       show wpAny M A (if (["enumerate", "zip", "dict_itemiterator", "dict_reverseitemiterator", "odict_iterator", "itertools.zip_longest", "itertools.pairwise"].contains n && vs[0]? == some (rawInt _))=true then _ else _) Q E s
       rw [if_neg (by intro h;rw [hn,Bool.false_and] at h;cases h)]
       exact wpAny_pure hQ))
noncomputable def Itl (K:W.Frag) (a:Addr):It :=
 ⟨λ i H=>∃ xs x,SqL K H a xs∧xs[i]? = some x,λ i H x H'=>H'=H∧∀ xs,SqL K H a xs→xs[i]? = some x,λ i H=>∃ xs,SqL K H a xs∧xs.length≤i⟩
noncomputable def Itr (lo:Int) (n:Nat):It:=⟨λ i _=>i<n,λ i H x H'=>H'=H∧x = .int (lo+i),λ i _=>n≤i⟩
theorem zpo {P:Program} {w:World} {K:W.Frag} {tg:Expr} (a it:Addr):Turn P w K tg (Itl K a) [it] it (λ i h=>h.IsListIter it a i) where
 mem:=by simp
 obj:=λ i h st b hb=>by
  have e:b=it:=by simpa using hb
  subst e
  obtain ⟨o,e,c,d⟩:=st
  exact ⟨o,e,λ v z=>by rw [d] at z;cases z⟩
 keep:=λ i h h' st k=>st.at λ o e=>k it (by simp) o e
 item:=by
  intro X hP hw hK hc i pins s σ H E I hf st hg
  subst hP hw hK
  obtain ⟨xs,x,hq,hx⟩:=hg
  obtain ⟨its,rv,p,hz⟩:=I.list hq
  obtain ⟨u,hu,ru⟩:=rv.get hx
  obtain ⟨f0,f1,f2,f3,f4,f5⟩:=hf it (by simp)
  refine wpAny_pyNext_list_item st p.isList (x:=u) (by simpa using hu) λ h' st' sb=>?_
  have I1:Inv X pins σ H { s with heap:=h' }:=I.turned (t':=s.toks) (λ b o hb e=>(sb.2 b hb).trans e) f0 f1 f3 f4 f5
  obtain ⟨o,e,c,d⟩:=id st'
  exact ⟨u,rfl,znz (s:={ s with heap:=h' }) e c d (by decide) ⟨x,H,I1,ru,⟨rfl,λ ys hy=>by rw [I.list_inj hy hq];exact hx⟩,st',λ b hb=>(hf b hb).1⟩⟩
 done:=by
  intro X hP hw hK hc i pins s σ H E I hf st hg
  subst hP hw hK
  obtain ⟨xs,hq,hx⟩:=hg
  obtain ⟨its,rv,p,hz⟩:=I.list hq
  obtain ⟨f0,f1,f2,f3,f4,f5⟩:=hf it (by simp)
  have hl:=rv.length
  exact wpAny_pyNext_list_end (I.ok.hd hc) st p.isList (by simp;omega) λ h' eb=>⟨rfl,I.turned (t':=s.toks) (λ b o hb e=>eb b o hb e) f0 f1 f3 f4 f5⟩
 self:=λ _ _ _ _ _ st h=>wpAny_pyIter_listiter st h
theorem zkk {P:Program} {w:World} {K:W.Frag} {tg:Expr} (it:Addr) (lo:Int) (n:Nat):Turn P w K tg (Itr lo n) [it] it (λ i h=>IsRangeIter h it (lo+(i:Nat) * 1) ((n:Int) - (i:Nat)) 1) where
 mem:=by simp
 obj:=λ i h st b hb=>by
  have e:b=it:=by simpa using hb
  subst e
  exact ⟨_,st,λ v z=>by
   have z':Data.fields _=Data.cell v:=z
   cases z'⟩
 keep:=λ i h h' st k=>k it (by simp) _ st
 item:=by
  intro X hP hw hK hc i pins s σ H E I hf st hg
  subst hP hw hK
  obtain ⟨f0,f1,f2,f3,f4,f5⟩:=hf it (by simp)
  have W:=Walks.range (prog:=X.prog) (w:=X.w) (I.ok.hd hc) it lo 1 n
  refine W.item i s _ _ hg st λ v h' tk hv st' kk=>?_
  obtain ⟨t,rfl⟩:=hv
  have I1:Inv X pins σ H { s with heap:=h',toks:=tk }:=I.turned (λ b o hb e=>kk b o (by simpa using hb) e) f0 f1 f3 f4 f5
  refine ⟨_,rfl,znz (s:={ s with heap:=h',toks:=tk }) (n := "range_iterator") st' rfl rfl (by decide) ⟨.int (lo+i),H,I1,⟨t,?_⟩,⟨rfl,rfl⟩,st',λ b hb=>(hf b hb).1⟩⟩
  rw [Int.mul_one]
 done:=by
  intro X hP hw hK hc i pins s σ H E I hf st hg
  subst hP hw hK
  obtain ⟨f0,f1,f2,f3,f4,f5⟩:=hf it (by simp)
  exact wpAny_pyNext_range_end (I.ok.hd hc) st (by have:n≤i:=hg;omega) λ h' eb=>⟨rfl,I.turned (t':=s.toks) (λ b o hb e=>eb b o hb e) f0 f1 f3 f4 f5⟩
 self:=λ _ _ _ _ _ st h=>wpAny_pyIter_rangeiter st h
end L2
namespace L2
open PySem PySem.Spec PyProof.Rows
section
variable {X:Cx} {tg:Expr}
noncomputable def zp1 (K:W.Frag) (tl:TE):TI:=λ σ H R=>tl σ H λ x H1=>∃ a,x = .ref a∧(∃ xs,SqL K H1 a xs)∧R (Itl K a) H1
theorem zok {l:Expr} {tl:TE} (hl:PE X l tl):PI X tg l (zp1 X.K tl) := .mk <| by
 intro pins s σ H R I h
 refine thn (hl pins s σ H _ I h) λ v s1 ⟨x,H1,I1,r1,q1⟩=>?_
 obtain ⟨a,e,⟨xs,hq⟩,q⟩:=q1
 subst e
 cases r1
 obtain ⟨its,rv,p,hz⟩:=I1.list hq
 refine wpAny_pyIter_list p.isList ?_
 refine ⟨s1.heap.objs.size,[s1.heap.objs.size],_,_,H1,rfl,I1.kept (t':=s1.toks) λ b o e=>Heap.get?_push_of_some _ e,zpo a _,⟨_,Heap.get?_push_size _ rfl,rfl,rfl⟩,λ b hb=>?_,q⟩
 have e:b=s1.heap.objs.size:=by simpa using hb
 subst e
 exact I1.fpOk (Nat.le_refl _) (I1.hok.fresh (Nat.le_refl _))
theorem zor {pins:List (Addr×Obj)} {σ:St} {H:Hp} {s:Shared} {R:It→Hp→Prop} {E:Value→Shared→Prop} {lo hi:Int} {t u v:Tok} {tk:Nat} (I:Inv X pins σ H s) (h1 : -(2 ^ 62)≤lo) (h2:lo<2 ^ 62) (h3 : -(2 ^ 62)≤hi) (h4:hi<2 ^ 62)
  (q:R (Itr lo (hi - lo).toNat) H):wpAny (model X.prog X.w) X.A (pyIter (.ref s.heap.objs.size)) (PIE X pins σ tg R) E { s with heap:=s.heap.push { cls := .type "range",data := .fields #[.int lo t,.int hi u,.int 1 v] },toks:=tk }:=by
 refine wpAny_pyIter_range (IsRange.new ..) (small_one h1 h2 h3 h4) ?_
 have I1:Inv X pins σ H { s with heap:=s.heap.push { cls := .type "range",data := .fields #[.int lo t,.int hi u,.int 1 v] },toks:=tk }:=I.kept λ b o e=>Heap.get?_push_of_some _ e
 refine ⟨(s.heap.push { cls := .type "range",data := .fields #[.int lo t,.int hi u,.int 1 v] }).objs.size,[(s.heap.push { cls := .type "range",data := .fields #[.int lo t,.int hi u,.int 1 v] }).objs.size],_,_,H,rfl,
  I1.kept (t':=tk) λ b o e=>Heap.get?_push_of_some _ e,zkk _ lo (hi - lo).toNat,?_,λ b hb=>?_,q⟩
 ·have e1:lo+((0:Nat):Int) * 1=lo:=by simp
  have e2:(((hi - lo).toNat:Nat):Int) - ((0:Nat):Int)=Builtin.Range.rangeSize lo hi 1:=by rw [rangeSize_one];split <;> omega
  show IsRangeIter _ _ (lo+((0:Nat):Int) * 1) ((((hi - lo).toNat:Nat):Int) - ((0:Nat):Int)) 1
  rw [e1,e2]
  exact Heap.get?_push_size _ rfl
 ·have e:b=(s.heap.push { cls := .type "range",data := .fields #[.int lo t,.int hi u,.int 1 v] }).objs.size:=by simpa using hb
  subst e
  exact I1.fpOk (Nat.le_refl _) (I1.hok.fresh (Nat.le_refl _))
noncomputable def zl1 (ta:TA):TI:=λ σ H R=>ta σ H λ vs H1=>∃ j:Int,vs=[.int j] ∧ -(2 ^ 62)≤j∧j<2 ^ 62∧R (Itr 0 j.toNat) H1
theorem zso {a:Expr} {ta:TA} {p pos:Pos} (hg:Gl X "range") (hm:X.mg "range" = none) (ha:PA X [a] ta) (hs:starEach [a] X.env=[(false,eval a X.env)]:=by rfl):PI X tg (.Call (.Name "range" p) [a] [] pos) (zl1 ta) := .mk <| by
 intro pins s σ H R I h
 refine Call_ (zjj I hg hm boot_range (PyProof.Rows.callWith_type1 (thn (ha pos pins s σ H _ I h) λ us s1 ⟨vs,H1,I1,r1,q1⟩=>?_) hs rfl))
 obtain ⟨j,e,q1,q2,q⟩:=q1
 subst e
 cases r1 with
 | cons r rr =>
  cases rr
  obtain ⟨t,rfl⟩:=r
  exact call_range_1 (zor I1 (by omega) (by omega) q1 q2 (by simpa using q))
noncomputable def tFor (wi:TI) (g:TG) (tb:TS):TS:=λ D σ H=>wi σ H λ J H1=>∃ W:Nat→Nat→St→Hp→Prop,(∃ m,W 0 m σ H1)∧∀ i m σ H,W i m σ H →
 (J.stop i H∧D.nx σ H) ∨ (J.go i H∧∃ N:St→Hp→Prop,(∀ σ' H',N σ' H'→∃ m',m'<m∧W (i+1) m' σ' H')∧∀ x H',J.yld i H x H'→g x σ H' λ σ2 H2=>tb { D with nx:=N,ct:=N,bk:=D.nx } σ2 H2)
noncomputable def zlj (fp:List Addr) (h:Heap):List (Addr×Obj):=fp.filterMap λ b=>(h.get? b).map λ o=>(b,o)
theorem zmb {fp:List Addr} {h:Heap} {b:Addr} {o:Obj} (hb:b∈fp) (e:h.get? b=some o):(b,o)∈zlj fp h:=List.mem_filterMap.mpr ⟨b,hb,by rw [e];rfl⟩
theorem zgo {fp:List Addr} {h:Heap} {p:Addr×Obj} (hp:p∈zlj fp h):p.1∈fp∧h.get? p.1=some p.2:=by
 obtain ⟨b,hb,e⟩:=List.mem_filterMap.mp hp
 cases q:h.get? b with
 | none=>rw [q] at e;cases e
 | some o =>
  rw [q] at e
  have e':(b,o)=p:=Option.some.inj e
  subst e'
  exact ⟨hb,q⟩
theorem Inv.pinned {pins:List (Addr×Obj)} {σ:St} {H:Hp} {s:Shared} {fp:List Addr} (I:Inv X pins σ H s) (hf:∀ b∈fp,FpOk X pins H b) (ho:∀ b∈fp,∃ o,s.heap.get? b=some o∧∀ v,o.data ≠ .cell v):Inv X (pins++zlj fp s.heap) σ H s :=
 I.pins_of λ p hp=>(List.mem_append.mp hp).elim (λ z=>I.pin p (List.mem_append_right _ z)) λ z=>by
  obtain ⟨hb,e⟩:=zgo z
  obtain ⟨f0,f1,f2,_⟩:=hf p.1 hb
  obtain ⟨o,e',d⟩:=ho p.1 hb
  rw [e] at e';cases e'
  exact ⟨e,f0,f1,f2,d⟩
theorem Inv.unpinned {pins pl:List (Addr×Obj)} {σ:St} {H:Hp} {s:Shared} (I:Inv X (pins++pl) σ H s):Inv X pins σ H s:=I.pins_of λ p hp=>I.pin p (List.mem_append_right _ (List.mem_append_left _ hp))
theorem zbp {iter:Expr} {body:List Stmt} {wi:TI} {g:TG} {tb:TS} {pos:Pos} (hp:PassesOwn (model X.prog X.w) X.A X.env X.xe) (hc:X.calm=true) (hi:PI X tg iter wi) (hg:PG X tg g) (hb:PSs X body tb)
  (hs:∀ x,foldedSetIterable iter X.env x=pure x:=by intro _;rfl):PS X (.For tg iter body [] pos) (tFor wi g tb) := .mk <| by
 intro pins s σ H D I h
 refine wpAny_For (thn (hi pins s σ H _ I h) λ v s1 h1=>thn h1 λ itv s2 h2=>?_) hs
 obtain ⟨it,fp,tn,J,H2,e,I2,T,st2,f2,W,⟨m0,w0⟩,turn⟩:=h2
 subst e
 have stat:∀ {H':Hp},(∀ b∈fp,H' b=none)→∀ b∈fp,FpOk X pins H' b:=λ hn b hb=>⟨hn b hb,(f2 b hb).2⟩
 refine codeAny_forLoop_any (λ n s'=>∃ i σ' H',Inv X pins σ' H' s'∧tn i s'.heap∧(∀ b∈fp,H' b=none)∧W i n σ' H') ?_ m0 ⟨0,σ,H2,I2,st2,λ b hb=>(f2 b hb).1,w0⟩
 rintro n s3 ⟨i,σ3,H3,I3,st3,fr3,w3⟩
 rcases turn i n σ3 H3 w3 with ⟨stop,qn⟩ | ⟨go,N,hN,step⟩
 ·refine wpAny_passesOwn hp (thn (T.done X rfl rfl rfl hc i pins s3 σ3 H3 X.xe I3 (stat fr3) st3 stop) λ r s4 ⟨hr,I4⟩=>?_)
  subst hr
  exact wpAny_execs_nil ⟨σ3,H3,I4,qn⟩
 ·refine wpAny_passesOwn hp (thn (T.item X rfl rfl rfl hc i pins s3 σ3 H3 X.xe I3 (stat fr3) st3 go) λ r s4 ⟨u,hr,h4⟩=>?_)
  subst hr
  refine wpAny_passesOwn hp (thn h4 λ _ s5 ⟨x,H5,I5,r5,y5,st5,fr5⟩=>?_)
  have I5':=I5.pinned (stat fr5) (T.obj _ _ st5)
  refine wpAny_passesOwn hp (thn (hg _ s5 σ3 H5 x u _ I5' r5 (step x H5 y5)) λ _ s6 ⟨σ6,H6,I6,q6⟩=>?_)
  refine wpAny_passesOwn hp (thn (hb _ s6 σ6 H6 _ I6 q6) λ f s7 q7=>?_)
  have again:∀ {σ7:St} {H7:Hp},Inv X (pins++zlj fp s5.heap) σ7 H7 s7→N σ7 H7→∃ m,m<n∧∃ i σ' H',Inv X pins σ' H' s7∧tn i s7.heap∧(∀ b∈fp,H' b=none)∧W i m σ' H':=fun {σ7 H7} I7 n7=>by
   obtain ⟨m',hm,w7⟩:=hN σ7 H7 n7
   refine ⟨m',hm,i+1,σ7,H7,I7.unpinned,T.keep _ _ _ st5 λ b hb o e=>(I7.pin (b,o) (List.mem_append_right _ (List.mem_append_right _ (zmb hb e)))).1,λ b hb=>?_,w7⟩
   obtain ⟨o,e,d⟩:=T.obj _ _ st5 b hb
   exact (I7.pin (b,o) (List.mem_append_right _ (List.mem_append_right _ (zmb hb e)))).2.1
  cases f with
  | next=>obtain ⟨σ7,H7,I7,n7⟩:=q7;exact again I7 n7
  | cont=>obtain ⟨σ7,H7,I7,n7⟩:=q7;exact again I7 n7
  | brk=>obtain ⟨σ7,H7,I7,q7⟩:=q7;exact ⟨σ7,H7,I7.unpinned,q7⟩
  | ret v=>obtain ⟨x7,σ7,H7,I7,r7,q7⟩:=q7;exact ⟨x7,σ7,H7,I7.unpinned,r7,q7⟩
end
theorem zrs {K:W.Frag} {a:Addr} {xs:List V} {g:TG} {tb:TS} {D:Ends} {σ:St} {H:Hp} (Pv:Nat→St→Hp→Prop) (h0:Pv 0 σ H) (hl:∀ i σ H,i≤xs.length→Pv i σ H→SqL K H a xs)
  (hs:∀ i x σ H,xs[i]? = some x→Pv i σ H→g x σ H λ σ2 H2=>tb { D with nx:=Pv (i+1),ct:=Pv (i+1),bk:=D.nx } σ2 H2) (hd:∀ σ H,Pv xs.length σ H→D.nx σ H) :
  ∃ W:Nat→Nat→St→Hp→Prop,(∃ m,W 0 m σ H)∧∀ i m σ H,W i m σ H →
   ((Itl K a).stop i H∧D.nx σ H) ∨ ((Itl K a).go i H∧∃ N:St→Hp→Prop,(∀ σ' H',N σ' H'→∃ m',m'<m∧W (i+1) m' σ' H')∧∀ x H',(Itl K a).yld i H x H'→g x σ H' λ σ2 H2=>tb { D with nx:=N,ct:=N,bk:=D.nx } σ2 H2):=by
 refine ⟨λ i m σ H=>m=xs.length - i∧i≤xs.length∧Pv i σ H,⟨xs.length,by simp,Nat.zero_le _,h0⟩,?_⟩
 rintro i m σ H ⟨rfl,hi,p⟩
 have q:=hl i σ H hi p
 by_cases hlt:i<xs.length
 ·refine .inr ⟨⟨xs,xs[i],q,by simp [hlt]⟩,Pv (i+1),λ σ' H' p'=>⟨xs.length - (i+1),by omega,rfl,hlt,p'⟩,λ x H' y=>?_⟩
  obtain ⟨e,y⟩:=y
  subst e
  exact hs i x σ _ (y xs q) p
 ·have e:i=xs.length:=by omega
  subst e
  exact .inl ⟨⟨xs,q,Nat.le_refl _⟩,hd σ H p⟩
theorem zin {lo:Int} {n:Nat} {g:TG} {tb:TS} {D:Ends} {σ:St} {H:Hp} (Pv:Nat→St→Hp→Prop) (h0:Pv 0 σ H)
  (hs:∀ i σ H,i<n→Pv i σ H→g (.int (lo+i)) σ H λ σ2 H2=>tb { D with nx:=Pv (i+1),ct:=Pv (i+1),bk:=D.nx } σ2 H2) (hd:∀ σ H,Pv n σ H→D.nx σ H) :
  ∃ W:Nat→Nat→St→Hp→Prop,(∃ m,W 0 m σ H)∧∀ i m σ H,W i m σ H →
   ((Itr lo n).stop i H∧D.nx σ H) ∨ ((Itr lo n).go i H∧∃ N:St→Hp→Prop,(∀ σ' H',N σ' H'→∃ m',m'<m∧W (i+1) m' σ' H')∧∀ x H',(Itr lo n).yld i H x H'→g x σ H' λ σ2 H2=>tb { D with nx:=N,ct:=N,bk:=D.nx } σ2 H2):=by
 refine ⟨λ i m σ H=>m=n - i∧i≤n∧Pv i σ H,⟨n,by simp,Nat.zero_le _,h0⟩,?_⟩
 rintro i m σ H ⟨rfl,hi,p⟩
 by_cases hlt:i<n
 ·refine .inr ⟨hlt,Pv (i+1),λ σ' H' p'=>⟨n - (i+1),by omega,rfl,hlt,p'⟩,λ x H' y=>?_⟩
  obtain ⟨e,y⟩:=y
  subst e y
  exact hs i σ _ hlt p
 ·have e:i=n:=by omega
  subst e
  exact .inl ⟨Nat.le_refl _,hd σ H p⟩
end L2
namespace L2
open PySem PySem.Spec PyProof.Rows
noncomputable abbrev R2:=V→V→Hp→VK→Prop
noncomputable def OpR (X:Cx) (f:Value→Value→Sem Value) (r:R2):Prop :=
 ∀ (pins:List (Addr×Obj)) (s:Shared) (σ:St) (H:Hp) (x y:V) (v u:Value) (Q:VK),Inv X pins σ H s→RelV x v→RelV y u→r x y H Q →
  wpAny (model X.prog X.w) X.A (f v u) (EP X pins σ Q) X.xe s
noncomputable def UnR (X:Cx) (f:Value→Sem Value) (r:V→Hp→VK→Prop):Prop :=
 ∀ (pins:List (Addr×Obj)) (s:Shared) (σ:St) (H:Hp) (x:V) (v:Value) (Q:VK),Inv X pins σ H s→RelV x v→r x H Q →
  wpAny (model X.prog X.w) X.A (f v) (EP X pins σ Q) X.xe s
noncomputable def zrj (X:Cx) (f:Value) (r:List V→Hp→VK→Prop):Prop :=
 ∀ (pins:List (Addr×Obj)) (s:Shared) (σ:St) (H:Hp) (xs:List V) (us:List Value) (Q:VK),Inv X pins σ H s→Vals xs us→r xs H Q →
  wpAny (model X.prog X.w) X.A (call f us) (EP X pins σ Q) X.xe s
noncomputable def tOp (r:R2) (ta tb:TE):TE:=λ σ H Q=>ta σ H λ x H1=>tb σ H1 λ y H2=>r x y H2 Q
noncomputable def tUn (r:V→Hp→VK→Prop) (ta:TE):TE:=λ σ H Q=>ta σ H λ x H1=>r x H1 Q
noncomputable def rI (C:Int→Int→Prop) (g:Int→Int→V):R2:=λ x y H Q=>∃ i j,x = .int i∧y = .int j∧C i j∧Q (g i j) H
noncomputable def rI0 (g:Int→Int→V):R2:=λ x y H Q=>∃ i j,x = .int i∧y = .int j∧Q (g i j) H
noncomputable def rU (g:Int→V):V→Hp→VK→Prop:=λ x H Q=>∃ i,x = .int i∧Q (g i) H
section
variable {X:Cx} {a b c:Expr} {ta tb tc:TE} {pos:Pos}
theorem binT (ha:PE X a ta) (hb:PE X b tb) {pins:List (Addr×Obj)} {s:Shared} {σ:St} {H:Hp} {R:V→V→Hp→Prop} (I:Inv X pins σ H s)
  (h:ta σ H λ x H1=>tb σ H1 λ y H2=>R x y H2) {Q:Value→Shared→Prop} {f:Value→Value→Sem Value}
  (hf:∀ v u s2 x y H2,Inv X pins σ H2 s2→RelV x v→RelV y u→R x y H2→wpAny (model X.prog X.w) X.A (f v u) Q X.xe s2) :
  wpAny (model X.prog X.w) X.A (eval a X.env) (λ v s₁=>wpAny (model X.prog X.w) X.A (eval b X.env) (λ u s₂=>wpAny (model X.prog X.w) X.A (f v u) Q X.xe s₂) X.xe s₁) X.xe s:=by
 refine thn (ha pins s σ H _ I h) λ v s1 ⟨x,H1,I1,r1,q1⟩=>?_
 refine thn (hb pins s1 σ H1 _ I1 q1) λ u s2 ⟨y,H2,I2,r2,q2⟩=>?_
 exact hf v u s2 x y H2 I2 r1 r2 q2
theorem zqa {op:Operator} {r:R2} (ho:OpR X (binaryOp op) r) (ha:PE X a ta) (hb:PE X b tb):PE X (.BinOp a op b pos) (tOp r ta tb) := .mk <| by
 intro pins s σ H Q I h
 exact wpAny_BinOp (binT ha hb I h λ v u s2 x y H2 I2 rx ry q=>ho pins s2 σ H2 x y v u Q I2 rx ry q)
theorem zp0 {op:UnaryOp} {r:V→Hp→VK→Prop} (ho:UnR X (unaryOp op) r) (ha:PE X a ta):PE X (.UnaryOp op a pos) (tUn r ta) := .mk <| by
 intro pins s σ H Q I h
 exact UnaryOp_ (thn (ha pins s σ H _ I h) λ v s1 ⟨x,H1,I1,r1,q1⟩=>ho pins s1 σ H1 x v Q I1 r1 q1)
theorem opI {f:Value→Value→Sem Value} {C:Int→Int→Prop} {g:Int→Int→Int}
  (rule:∀ (i j:Int) (t u:Tok) (s:Shared) (Q:Value→Shared→Prop) (E:Value→Shared→Prop),C i j→Q (.int (g i j) s.toks) { s with toks:=s.toks+1 }→wpAny (model X.prog X.w) X.A (f (.int i t) (.int j u)) Q E s) :
  OpR X f (rI C λ i j=>.int (g i j)):=by
 intro pins s σ H x y v u Q I rx ry h
 obtain ⟨i,j,rfl,rfl,hc,q⟩:=h
 obtain ⟨t,rfl⟩:=rx
 obtain ⟨t',rfl⟩:=ry
 exact rule i j t t' s _ _ hc ⟨.int (g i j),H,I.tok _,⟨_,rfl⟩,q⟩
theorem opI0 {f:Value→Value→Sem Value} {g:Int→Int→Int}
  (rule:∀ (i j:Int) (t u:Tok) (s:Shared) (Q:Value→Shared→Prop) (E:Value→Shared→Prop),Q (.int (g i j) s.toks) { s with toks:=s.toks+1 }→wpAny (model X.prog X.w) X.A (f (.int i t) (.int j u)) Q E s) :
  OpR X f (rI0 λ i j=>.int (g i j)):=by
 intro pins s σ H x y v u Q I rx ry h
 obtain ⟨i,j,rfl,rfl,q⟩:=h
 obtain ⟨t,rfl⟩:=rx
 obtain ⟨t',rfl⟩:=ry
 exact rule i j t t' s _ _ ⟨.int (g i j),H,I.tok _,⟨_,rfl⟩,q⟩
theorem opB0 {f:Value→Value→Sem Value} {g:Int→Int→Bool}
  (rule:∀ (i j:Int) (t u:Tok) (s:Shared) (Q:Value→Shared→Prop) (E:Value→Shared→Prop),Q (.bool (g i j)) s→wpAny (model X.prog X.w) X.A (f (.int i t) (.int j u)) Q E s) :
  OpR X f (rI0 λ i j=>.bl (g i j)):=by
 intro pins s σ H x y v u Q I rx ry h
 obtain ⟨i,j,rfl,rfl,q⟩:=h
 obtain ⟨t,rfl⟩:=rx
 obtain ⟨t',rfl⟩:=ry
 exact rule i j t t' s _ _ ⟨.bl (g i j),H,I,rfl,q⟩
noncomputable def CDiv (i j:Int):Prop:=0<j∧j<1073741824
noncomputable def CPow (i j:Int):Prop:=0≤j∧j≤1000000∧i.natAbs<2 ^ 64
noncomputable def CMul (i j:Int):Prop:=(-(2 ^ 64)<i∧i<2 ^ 64) ∨ (-(2 ^ 64)<j∧j<2 ^ 64)
theorem CMul.ok {i j:Int} (h:CMul i j):IntMulOk i j:=by
 rcases h with ⟨h1,h2⟩ | ⟨h1,h2⟩
 ·exact .of_left (intBits_le_64 h1 h2)
 ·exact .of_right (intBits_le_64 h1 h2)
theorem zyb:OpR X (binaryOp .Add) (rI0 λ i j=>.int (i+j)):=opI0 λ _ _ _ _ _ _ _ q=>add_int q
theorem zij:OpR X (binaryOp .Sub) (rI0 λ i j=>.int (i - j)):=opI0 λ _ _ _ _ _ _ _ q=>sub_int q
theorem zry:OpR X (binaryOp .Mult) (rI CMul λ i j=>.int (i * j)):=opI λ _ _ _ _ _ _ _ hc q=>mul_int q hc.ok
theorem zeb:OpR X (binaryOp .FloorDiv) (rI CDiv λ i j=>.int (i / j)):=opI λ i j _ _ _ _ _ hc q=>by
 have h1:(0:Int)<j:=hc.1
 have h2:j<1073741824:=hc.2
 exact floordiv_int (by omega) (by rw [Int.fdiv_eq_ediv_of_nonneg i (by omega)];exact q) (.inl (PyProof.noPylong_small (by omega)))
theorem zhb:OpR X (binaryOp .Mod) (rI (λ _ j=>0<j) λ i j=>.int (i % j)):=opI λ i j _ _ _ _ _ hc q=>by
 have h1:(0:Int)<j:=hc
 exact mod_int' (by omega) (by rw [Int.fmod_eq_emod_of_nonneg i (by omega)];exact q)
theorem zko:OpR X (binaryOp .Pow) (rI CPow λ i j=>.int (i ^ j.toNat)):=opI λ _ _ _ _ _ _ _ hc q=>pow_int_small hc.1 hc.2.1 hc.2.2 q
theorem unI {f:Value→Sem Value} {g:Int→Int}
  (rule:∀ (i:Int) (t:Tok) (s:Shared) (Q:Value→Shared→Prop) (E:Value→Shared→Prop),Q (.int (g i) s.toks) { s with toks:=s.toks+1 }→wpAny (model X.prog X.w) X.A (f (.int i t)) Q E s) :
  UnR X f (rU λ i=>.int (g i)):=by
 intro pins s σ H x v Q I rx h
 obtain ⟨i,rfl,q⟩:=h
 obtain ⟨t,rfl⟩:=rx
 exact rule i t s _ _ ⟨.int (g i),H,I.tok _,⟨_,rfl⟩,q⟩
theorem zby:UnR X (unaryOp .USub) (rU λ i=>.int (-i)):=unI λ _ _ _ _ _ q=>neg_int q
end
noncomputable def scal:V→V→Bool
 | .non,.non=>true | .non,.int _=>true | .int _,.non=>true | .non,.bl _=>true | .bl _,.non=>true | .non,.str _=>true | .str _,.non=>true
 | .int _,.int _=>true | .bl _,.bl _=>true | .str _,.str _=>true | .byt _,.byt _=>true
 | .int _,.str _=>true | .str _,.int _=>true | .bl _,.str _=>true | .str _,.bl _=>true
 | _,_=>false
noncomputable def rEq:R2:=λ x y H Q=>scal x y=true∧Q (.bl (decide (x=y))) H
noncomputable def rNe:R2:=λ x y H Q=>scal x y=true∧Q (.bl (!decide (x=y))) H
theorem zgq {i j:Int}:decide (V.int i=V.int j)=(i == j):=by
 rw [Bool.eq_iff_iff]
 simp
theorem zrt {i j:Bool}:decide (V.bl i=V.bl j)=(i == j):=by
 rw [Bool.eq_iff_iff]
 simp
theorem zaq {i j:Str}:decide (V.str i=V.str j)=(i == j):=by
 rw [Bool.eq_iff_iff]
 simp
theorem zxp {i j:Array UInt8}:decide (V.byt i=V.byt j)=(i.toList == j.toList):=by
 rw [Bool.eq_iff_iff]
 cases i
 cases j
 simp
section
variable {X:Cx} {a b c:Expr} {ta tb tc:TE} {pos:Pos}
theorem zza {pins:List (Addr×Obj)} {σ:St} {H:Hp} {s:Shared} {Q:VK} {k k':Bool} (I:Inv X pins σ H s) (q:Q (.bl k) H) (e:k=k'):EP X pins σ Q (.bool k') s:=by
 subst e
 exact ⟨.bl k,H,I,rfl,q⟩
theorem zcl:OpR X (compareOp .Eq) rEq:=by
 intro pins s σ H x y v u Q I rx ry h
 obtain ⟨hs,q⟩:=h
 cases x with
 | non =>
  cases rx
  cases y with
  | non=>cases ry;exact PySem.EqNone.eq_none_none (zza I q (by simp))
  | bl j=>cases ry;exact PySem.EqNone.eq_none_bool (zza I q (by simp))
  | int j=>obtain ⟨t',rfl⟩:=ry;exact PySem.EqNone.eq_none_int (zza I q (by simp))
  | str j=>obtain ⟨t',rfl⟩:=ry;exact PySem.EqNone.eq_none_str (zza I q (by simp))
  | _=>exact absurd (show false=true from hs) Bool.false_ne_true
 | bl i =>
  cases rx
  cases y with
  | non=>cases ry;exact PySem.EqNone.eq_bool_none (zza I q (by simp))
  | bl j=>cases ry;exact eq_bool (zza I q zrt)
  | str j=>obtain ⟨t',rfl⟩:=ry;exact PySem.EqMixed.eq_bool_str (zza I q (by simp))
  | _=>exact absurd (show false=true from hs) Bool.false_ne_true
 | int i =>
  obtain ⟨t,rfl⟩:=rx
  cases y with
  | non=>cases ry;exact PySem.EqNone.eq_int_none (zza I q (by simp))
  | int j=>obtain ⟨t',rfl⟩:=ry;exact eq_int (zza I q zgq)
  | str j=>obtain ⟨t',rfl⟩:=ry;exact PySem.EqMixed.eq_int_str (zza I q (by simp))
  | _=>exact absurd (show false=true from hs) Bool.false_ne_true
 | str i =>
  obtain ⟨t,rfl⟩:=rx
  cases y with
  | non=>cases ry;exact PySem.EqNone.eq_str_none (zza I q (by simp))
  | bl j=>cases ry;exact PySem.EqMixed.eq_str_bool (zza I q (by simp))
  | int j=>obtain ⟨t',rfl⟩:=ry;exact PySem.EqMixed.eq_str_int (zza I q (by simp))
  | str j=>obtain ⟨t',rfl⟩:=ry;exact eq_str (zza I q zaq)
  | _=>exact absurd (show false=true from hs) Bool.false_ne_true
 | byt i =>
  obtain ⟨t,rfl⟩:=rx
  cases y with
  | byt j=>obtain ⟨t',rfl⟩:=ry;exact W.eq_bytes (zza I q zxp)
  | _=>exact absurd (show false=true from hs) Bool.false_ne_true
 | _=>cases y <;> exact absurd (show false=true from hs) Bool.false_ne_true
theorem zaz:OpR X (compareOp .NotEq) rNe:=by
 intro pins s σ H x y v u Q I rx ry h
 obtain ⟨hs,q⟩:=h
 cases x with
 | non =>
  cases rx
  cases y with
  | non=>cases ry;exact PySem.EqNone.ne_none_none (zza I q (by simp))
  | bl j=>cases ry;exact PySem.EqNone.ne_none_bool (zza I q (by simp))
  | int j=>obtain ⟨t',rfl⟩:=ry;exact PySem.EqNone.ne_none_int (zza I q (by simp))
  | str j=>obtain ⟨t',rfl⟩:=ry;exact PySem.EqNone.ne_none_str (zza I q (by simp))
  | _=>exact absurd (show false=true from hs) Bool.false_ne_true
 | bl i =>
  cases rx
  cases y with
  | non=>cases ry;exact PySem.EqNone.ne_bool_none (zza I q (by simp))
  | bl j=>cases ry;exact ne_bool (zza I q (congrArg not zrt))
  | str j=>obtain ⟨t',rfl⟩:=ry;exact PySem.EqMixed.ne_bool_str (zza I q (by simp))
  | _=>exact absurd (show false=true from hs) Bool.false_ne_true
 | int i =>
  obtain ⟨t,rfl⟩:=rx
  cases y with
  | non=>cases ry;exact PySem.EqNone.ne_int_none (zza I q (by simp))
  | int j=>obtain ⟨t',rfl⟩:=ry;exact ne_int (zza I q (congrArg not zgq))
  | str j=>obtain ⟨t',rfl⟩:=ry;exact PySem.EqMixed.ne_int_str (zza I q (by simp))
  | _=>exact absurd (show false=true from hs) Bool.false_ne_true
 | str i =>
  obtain ⟨t,rfl⟩:=rx
  cases y with
  | non=>cases ry;exact PySem.EqNone.ne_str_none (zza I q (by simp))
  | bl j=>cases ry;exact PySem.EqMixed.ne_str_bool (zza I q (by simp))
  | int j=>obtain ⟨t',rfl⟩:=ry;exact PySem.EqMixed.ne_str_int (zza I q (by simp))
  | str j=>obtain ⟨t',rfl⟩:=ry;exact ne_str (zza I q (congrArg not zaq))
  | _=>exact absurd (show false=true from hs) Bool.false_ne_true
 | byt i =>
  obtain ⟨t,rfl⟩:=rx
  cases y with
  | byt j=>obtain ⟨t',rfl⟩:=ry;exact W.ne_bytes (zza I q (congrArg not zxp))
  | _=>exact absurd (show false=true from hs) Bool.false_ne_true
 | _=>cases y <;> exact absurd (show false=true from hs) Bool.false_ne_true
theorem zm1:OpR X (compareOp .Lt) (rI0 λ i j=>.bl (decide (i<j))):=opB0 λ _ _ _ _ _ _ _ q=>lt_int q
theorem zl0:OpR X (compareOp .Gt) (rI0 λ i j=>.bl (decide (j<i))):=opB0 λ _ _ _ _ _ _ _ q=>gt_int q
theorem zit:OpR X (compareOp .Is) (λ x y H Q=>y = .non∧Q (.bl (decide (x = .non))) H):=by
 intro pins s σ H x y v u Q I rx ry h
 obtain ⟨rfl,q⟩:=h
 cases ry
 refine is_none_gen (zza I q ?_)
 cases x <;> first
  | (cases rx;rfl)
  | (obtain ⟨t,rfl⟩:=rx;rfl)
theorem zsp:OpR X (compareOp .IsNot) (λ x y H Q=>y = .non∧Q (.bl (!decide (x = .non))) H):=by
 intro pins s σ H x y v u Q I rx ry h
 obtain ⟨rfl,q⟩:=h
 cases ry
 refine isnot_none_gen (zza I q ?_)
 cases x <;> first
  | (cases rx;rfl)
  | (obtain ⟨t,rfl⟩:=rx;rfl)
theorem zua (b:Expr) {op:CmpOp} (h:op ≠ .In:=by decide) (h2:op ≠ .NotIn:=by decide):behindInMarks op b=false:=by
 have e1:(op == CmpOp.In)=false:=by cases op <;> first | rfl | exact absurd rfl h
 have e2:(op == CmpOp.NotIn)=false:=by cases op <;> first | rfl | exact absurd rfl h2
 cases b <;> simp [behindInMarks,e1,e2]
theorem zgg {op:CmpOp} {r:R2} (ho:OpR X (compareOp op) r) (ha:PE X a ta) (hb:PE X b tb) (hm:behindInMarks op b=false):PE X (.Compare a [op] [b] pos) (tOp r ta tb) := .mk <| by
 intro pins s σ H Q I h
 exact wpAny_Compare1 (binT ha hb I h λ v u s2 x y H2 I2 rx ry q=>ho pins s2 σ H2 x y v u Q I2 rx ry q) hm
noncomputable def zg1 (t:TE):TT:=λ σ H Q=>t σ H λ x H'=>∃ k,x = .bl k∧Q k H'
theorem zla {op:CmpOp} {r:R2} (ho:OpR X (compareOp op) r) (ha:PE X a ta) (hb:PE X b tb) (hm:behindInMarks op b=false):PT X (.Compare a [op] [b] pos) (zg1 (tOp r ta tb)) := .mk <| by
 intro pins s σ H Q I h
 refine wpAny_isTrue_Compare1 (thn (ha pins s σ H _ I h) λ v s1 ⟨x,H1,I1,r1,q1⟩=>thn (hb pins s1 σ H1 _ I1 q1) λ u s2 ⟨y,H2,I2,r2,q2⟩ =>
  thn (ho pins s2 σ H2 x y v u _ I2 r1 r2 q2) λ c s3 ⟨z,H3,I3,r3,k,e,q3⟩=>?_) hm
 subst e
 cases r3
 exact wpAny_truthy_bool ⟨H3,I3,q3⟩
theorem zio:(sizeLine:Nat)<2 ^ 63:=by rw [sizeLine_eq];decide
theorem zzm:OpR X (binaryOp .Add) (λ x y H Q=>∃ i j,x = .str i∧y = .str j∧i.length+j.length≤sizeLine∧Q (.str (i++j)) H):=by
 intro pins s σ H x y v u Q I rx ry h
 obtain ⟨i,j,rfl,rfl,hz,q⟩:=h
 obtain ⟨t,rfl⟩:=rx
 obtain ⟨t',rfl⟩:=ry
 exact add_str (λ t' tk=>⟨.str (i++j),H,I.tok _,⟨_,rfl⟩,q⟩) hz
theorem zil {x:V} {us:List Value} (r:Vals [x] us):∃ u,us=[u]∧RelV x u:=by
 cases r with
 | cons r1 r2=>cases r2;exact ⟨_,rfl,r1⟩
theorem zri:zrj X (.type "int") (λ xs H Q=>(∃ i,xs=[.int i]∧Q (.int i) H) ∨ ∃ k,xs=[.bl k]∧Q (.int (if k then 1 else 0)) H):=by
 intro pins s σ H xs us Q I r h
 rcases h with ⟨i,rfl,q⟩ | ⟨k,rfl,q⟩
 ·obtain ⟨u,rfl,t,rfl⟩:=zil r
  exact call_int_int ⟨.int i,H,I,⟨_,rfl⟩,q⟩
 ·obtain ⟨u,rfl,r1⟩:=zil r
  cases r1
  exact call_int_bool ⟨.int (if k then 1 else 0),H,I.tok _,⟨_,rfl⟩,q⟩
end
end L2
namespace L2
open PySem PySem.Spec PyProof.Rows
structure ObjM (h:Heap) (x dx C:Addr) (mA:Str→Option Value):Prop where
 obj:h.get? x=some (W.instObj C dx)
 ns:h.Ns1 dx mA
 ne:dx≠x
theorem zcp {h:Heap} {dx:Addr} {mA:Str→Option Value} (n:h.Ns1 dx mA):∃ od,h.get? dx=some od∧∀ name,W.lookIn name od=some (mA name):=by
 obtain ⟨o,es,ep,ho,hd,hk,_,hm⟩:=n
 refine ⟨o,ho,λ name=>?_⟩
 have e:=hm name
 unfold nsFind findBy at e
 rw [← Array.find?_toList] at e
 unfold W.lookIn
 rw [hd]
 dsimp only
 split
 ·rename_i y q
  rw [q] at e
  exact congrArg some e
 ·rename_i q
  rw [q] at e
  have a:es.toList.any (·.refKey)=false:=by
   rw [List.any_eq_false]
   intro y hy
   obtain ⟨z,t,hkey⟩:=hk y (Array.mem_toList_iff.mp hy)
   simp [DictEntry.refKey,hkey]
  have a':¬ es.toList.any (·.refKey)=true:=by rw [a];exact Bool.false_ne_true
  rw [if_neg a']
  exact congrArg some e
theorem ObjM.look {h:Heap} {x dx C:Addr} {mA:Str→Option Value} (I:ObjM h x dx C mA):∃ od,W.InstAt h x (W.instObj C dx) C (some od)∧∀ name,W.lookIn name od=some (mA name) :=
 let ⟨od,ho,hl⟩:=zcp I.ns
 ⟨od,⟨I.obj,rfl,rfl,ho⟩,hl⟩
section
variable {prog:Program} {w:World} {A:Around} {E:Value→Shared→Prop} {s:Shared} {K:W.Frag} {x dx C f:Addr} {mA:Str→Option Value} {name:Str} {v:Value}
theorem zbv {expr:Bool} {Q:Value→Shared→Prop} (X:K.In s.heap) (I:ObjM s.heap x dx C mA) (hg:W.plainGet K C name=true) (hh:W.hasDictIn K C=true)
  (ha:W.findIn K (.ref C) name=some none) (hv:mA name=some v) (hv':W.handedIn v=true) (h:Q v { s with toks:=s.toks+1 }) :
  wpAny (model prog w) A (getAttr (.ref x) name expr) Q E s:=by
 obtain ⟨od,J,hl⟩:=I.look
 exact W.get_value X J (W.plainGet_of hg).1 (W.findObj_own hh ha rfl (by rw [hl,hv])) hv' h
theorem zjr {pl:Sem Bool} {Q:Value×List Value→Shared→Prop} (X:K.In s.heap) (I:ObjM s.heap x dx C mA) (hg:W.plainGet K C name=true)
  (hf:W.findIn K (.ref C) name=some (some (.ref f))) (ht:W.isFn K (.ref f)=true) (hv:mA name=none) (h:Q (.ref f,[.ref x]) s) :
  wpAny (model prog w) A (getMethod (.ref x) name pl) Q E s:=by
 obtain ⟨od,J,hl⟩:=I.look
 exact W.method_fn X J (W.plainGet_of hg).1 (W.plainGet_of hg).2 hf (beq_iff_eq.mp ht) (by show (W.lookIn name od).map (·.isSome)=some false;rw [hl,hv];rfl) h
theorem zzs {ns:List Str} {Q:Unit→Shared→Prop} (X:K.In s.heap) (I:ObjM s.heap x dx C mA)
  (hs:W.findIn K (.ref C) "__setattr__" = some (some (.builtin "object.__setattr__"))) (hp:W.plainOver K C=true) (ht:W.takerIn K C name=some none) (hh:W.hasDictIn K C=true)
  (hw:PySem.Within mA ns) (hsz:ns.length≤sizeLine)
  (h:∀ h',ObjM h' x dx C (λ y=>if y=name then some v else mA y)→Heap.SameBut dx s.heap h'→Q () { s with heap:=h',toks:=s.toks+2 }) :
  wpAny (model prog w) A (setAttr (.ref x) name v) Q E s:=by
 obtain ⟨od,J,hl⟩:=I.look
 refine W.set_plain X J hs (W.osa_open (s:={ s with toks:=s.toks+1 }) (r:=none) X J hp ht λ b=>?_)
 obtain ⟨cd,hc,hd'⟩:=W.any_some hh
 have hx:s.heap.get? x=some ⟨.ref C,some dx,.plain, #[]⟩:=I.obj
 refine wpAny_bind (wpAny_pure (wpAny_bind (wpAny_bind (wpAny_loadPart hx (wpAny_bind (W.Looks.here (s:={ s with toks:=s.toks+1 }) (W.looks_clsIn X hc) ?_))))))
 rw [hd']
 refine wpAny_pure (a:=some dx) (wpAny_bind (wpAny_pure (wpAny_bind ?_)))
 refine wpAny_nsSet1 (s:={ s with toks:=s.toks+1 }) I.ns λ h' hn2 hs2=>?_
 obtain ⟨oD,esD,epD,hoD,hdD,hcD⟩:=hn2.count (PySem.Within.cons name v hw)
 refine wpAny_bind (wpAny_lookBehind hoD (by rw [hdD];exact pastItsLine_dict (Nat.le_trans hcD (by rw [List.length_cons];omega))) ?_)
 exact wpAny_pure (h _ ⟨(hs2.2 _ (Ne.symm I.ne)).trans I.obj,hn2,I.ne⟩ hs2)
theorem zar {R:Result→Shared→Prop} {vs:List Value} {kw:List (Str×Value)} (X:K.In s.heap) (hm:W.makesIn K C=true)
  (hi:W.findIn K (.ref C) "__init__" = some (some (.ref f))) (hf:W.typeIn K (.ref f)=some (.type "function"))
  (h:codeAny (model prog w) (A.under (.builtin "type.__call__" ⟨.ref C::vs,kw⟩)) (.call (.ref f) ⟨.ref (s.heap.objs.size+1)::vs,kw⟩) (W.InitBack (s.heap.objs.size+1) R)
   { s with heap:=(s.heap.push W.emptyDict).push (W.instObj C s.heap.objs.size) }) :
  codeAny (model prog w) A (.call (.ref C) ⟨vs,kw⟩) R s:=by
 obtain ⟨hh,g,d,t,os⟩:=s
 exact W.make_core (W.makes_of X hm) (W.looks_findIn X hi) (λ self=>W.bind_fn X self hf) (.inl rfl) h
end
noncomputable def putF (f:Str) (v:V):List (Str×V)→List (Str×V)
 | []=>[(f,v)]
 | (g,x)::r=>if g=f then (g,v)::r else (g,x)::putF f v r
theorem zhe (f g:Str) (v:V):∀ fs:List (Str×V),(putF f v fs).lookup g=if g=f then some v else fs.lookup g
 | []=>by
  show List.lookup g [(f,v)]=_
  by_cases h:g=f
  ·have hb:(g == f)=true:=beq_iff_eq.mpr h
   simp only [List.lookup,hb,if_pos h]
  ·have hb:(g == f)=false:=beq_eq_false_iff_ne.mpr h
   simp only [List.lookup,hb,if_neg h]
 | (k,x)::r=>by
  have ih:=zhe f g v r
  rw [show putF f v ((k,x)::r)=(if k=f then (k,v)::r else (k,x)::putF f v r) from rfl]
  by_cases hk:k=f
  ·rw [if_pos hk]
   by_cases h:g=k
   ·have hb:(g == k)=true:=beq_iff_eq.mpr h
    simp only [List.lookup,hb,if_pos (h.trans hk)]
   ·have hb:(g == k)=false:=beq_eq_false_iff_ne.mpr h
    simp only [List.lookup,hb,if_neg (λ e:g=f=>h (e.trans hk.symm))]
  ·rw [if_neg hk]
   by_cases h:g=k
   ·have hb:(g == k)=true:=beq_iff_eq.mpr h
    simp only [List.lookup,hb,if_neg (λ e:g=f=>hk (h.symm.trans e))]
   ·have hb:(g == k)=false:=beq_eq_false_iff_ne.mpr h
    simp only [List.lookup,hb]
    exact ih
theorem zlf (f:Str) (v:V):∀ fs:List (Str×V),f∈(putF f v fs).map (·.1)∧∀ g,g∈fs.map (·.1)→g∈(putF f v fs).map (·.1)
 | []=>⟨by simp [putF],λ g h=>by simp at h⟩
 | (k,x)::r=>by
  obtain ⟨i1,i2⟩:=zlf f v r
  rw [show putF f v ((k,x)::r)=(if k=f then (k,v)::r else (k,x)::putF f v r) from rfl]
  by_cases hk:k=f
  ·rw [if_pos hk]
   subst hk
   exact ⟨by simp,λ g h=>by simpa using h⟩
  ·rw [if_neg hk]
   refine ⟨?_,λ g h=>?_⟩
   ·rw [List.map_cons]
    exact List.mem_cons_of_mem _ i1
   ·rw [List.map_cons] at h ⊢
    rcases List.mem_cons.mp h with e | e
    ·exact List.mem_cons.mpr (.inl e)
    ·exact List.mem_cons_of_mem _ (i2 g e)
theorem zke (f:Str) (v:V):∀ fs:List (Str×V),(putF f v fs).length≤fs.length+1
 | []=>by simp [putF]
 | (k,x)::r=>by
  have ih:=zke f v r
  rw [show putF f v ((k,x)::r)=(if k=f then (k,v)::r else (k,x)::putF f v r) from rfl]
  by_cases hk:k=f
  ·rw [if_pos hk,List.length_cons,List.length_cons];omega
  ·rw [if_neg hk,List.length_cons,List.length_cons];omega
theorem RelO.some_of {v:V} {o:Option Value} (r:RelO (some v) o):∃ u,o=some u∧RelV v u:=by
 cases o with
 | none=>exact (show False from r).elim
 | some u=>exact ⟨u,rfl,r⟩
theorem RelO.none_of {o:Option Value} (r:RelO none o):o=none:=by
 cases o with
 | none=>rfl
 | some u=>exact (show False from r).elim
theorem zpp {v:V} {u:Value} (r:RelV v u):W.handedIn u=true:=by
 cases v with
 | non=>cases (show u=Value.none from r);rfl
 | bl b=>cases (show u=Value.bool b from r);rfl
 | int i=>obtain ⟨t,e⟩:=(show ∃ t,u=Value.int i t from r);cases e;rfl
 | str x=>obtain ⟨t,e⟩:=(show ∃ t,u=Value.str x t from r);cases e;rfl
 | byt b=>obtain ⟨t,e⟩:=(show ∃ t,u=Value.bytes b t from r);cases e;rfl
 | flt b=>obtain ⟨t,e⟩:=(show ∃ t,u=Value.float b t from r);cases e;rfl
 | ref a=>cases (show u=Value.ref a from r);rfl
 | ty n=>cases (show u=Value.type n from r);rfl
section
variable {P:Program} {w:World} {H H':Hp} {h h':Heap} {a C dx:Addr} {fs fs':List (Str×V)}
theorem zmm (hok:HOk P w H h) (e:H a=some (.ins C dx fs)):∃ mA,ObjM h a dx C mA∧(∀ f,RelO (fs.lookup f) (mA f))∧PySem.Within mA (fs.map (·.1))∧fs.length≤1000∧H dx=some (.own a):=by
 obtain ⟨d,z,ne,ob,mA,n,r,q⟩:=(show ObjOk P w H h a (.ins C dx fs) from hok a _ e)
 exact ⟨mA,⟨ob,n,ne⟩,r,q,z,d⟩
end
structure Cls (K:W.Frag) (C:Addr):Prop where
 pg:W.plainGet K C Str.empty=true
 hd:W.hasDictIn K C=true
 po:W.plainOver K C=true
 sa:W.findIn K (.ref C) "__setattr__" = some (some (.builtin "object.__setattr__"))
theorem Cls.get {K:W.Frag} {C:Addr} (c:Cls K C) (f:Str):W.plainGet K C f=true:=c.pg
noncomputable def NoAttr (K:W.Frag) (C:Addr) (f:Str):Prop:=W.findIn K (.ref C) f=some none
theorem NoAttr.taker {K:W.Frag} {C:Addr} {f:Str} (n:NoAttr K C f):W.takerIn K C f=some none:=by
 unfold W.takerIn
 rw [show W.findIn K (.ref C) f=some none from n]
 rfl
structure Meth (K:W.Frag) (C:Addr) (m:Str) (f:Addr):Prop where
 at_:W.findIn K (.ref C) m=some (some (.ref f))
 fn:W.isFn K (.ref f)=true
 kp:W.keepIn K (.ref f)=true
section
variable {X:Cx} {pins:List (Addr×Obj)} {σ:St} {H:Hp} {s:Shared} {a C dx:Addr} {fs:List (Str×V)} {f:Str} {v:V} {A:Around} {E:Value→Shared→Prop}
theorem zbl {b:Bool} {Q:Value→Shared→Prop} (I:Inv X pins σ H s) (e:H a=some (.ins C dx fs)) (c:Cls X.K C) (n:NoAttr X.K C f) (l:fs.lookup f=some v)
  (h:∀ u s',Inv X pins σ H s'→RelV v u→Q u s'):wpAny (model X.prog X.w) A (getAttr (.ref a) f b) Q E s:=by
 obtain ⟨mA,O,r,_,_,_⟩:=zmm I.hok e
 obtain ⟨u,hu,ru⟩:=RelO.some_of (v:=v) (o:=mA f) (by rw [← l];exact r f)
 exact zbv I.kIn O (c.get f) c.hd n hu (zpp ru) (h u _ (I.tok _) ru)
theorem zsf {m:Str} {g:Addr} {pl:Sem Bool} {Q:Value×List Value→Shared→Prop} (I:Inv X pins σ H s) (e:H a=some (.ins C dx fs)) (c:Cls X.K C) (k:Meth X.K C m g) (l:fs.lookup m=none)
  (h:Q (.ref g,[.ref a]) s):wpAny (model X.prog X.w) A (getMethod (.ref a) m pl) Q E s:=by
 obtain ⟨mA,O,r,_,_,_⟩:=zmm I.hok e
 have hn:mA m=none:=RelO.none_of (by rw [← l];exact r m)
 exact zjr I.kIn O (c.get m) k.at_ k.fn hn h
theorem zim {y:V} {u:Value} {Q:Unit→Shared→Prop} (I:Inv X pins σ H s) (e:H a=some (.ins C dx fs)) (c:Cls X.K C) (n:NoAttr X.K C f) (hl:fs.length<1000) (ry:RelV y u)
  (h:∀ s',Inv X pins σ (upd H a (.ins C dx (putF f y fs))) s'→Q () s'):wpAny (model X.prog X.w) A (setAttr (.ref a) f u) Q E s:=by
 obtain ⟨mA,O,r,wi,_,ho⟩:=zmm I.hok e
 have hz:(fs.map (·.1)).length≤sizeLine:=by rw [List.length_map,sizeLine_eq];omega
 refine zzs I.kIn O c.sa c.po n.taker c.hd wi hz λ h' O' sb=>h _ ?_
 have hd:∃ o,h'.get? dx=some o:=let ⟨o,_,_,e',_⟩:=O'.ns; ⟨o,e'⟩
 refine I.write (x:=a) (e:=dx) (by rw [e];exact True.intro) (.inr ho) (λ b q hb z=>(sb.2 b hb).trans z) hd ?_
 refine ⟨by rw [zja O.ne];exact ho,?_,O.ne,O'.obj,_,O'.ns,λ g=>?_,λ g hg=>?_⟩
 ·have:=zke f y fs;omega
 ·show RelO ((putF f y fs).lookup g) (if g=f then some u else mA g)
  rw [zhe]
  by_cases q:g=f
  ·rw [if_pos q,if_pos q];exact ry
  ·rw [if_neg q,if_neg q];exact r g
 ·by_cases q:g=f
  ·rw [q];exact (zlf f y fs).1
  ·refine (zlf f y fs).2 g (wi g λ z=>hg ?_)
   show (if g=f then some u else mA g)=none
   rw [if_neg q];exact z
theorem Inv.made (I:Inv X pins σ H s):Inv X pins σ (upd (upd H s.heap.objs.size (.own (s.heap.objs.size+1))) (s.heap.objs.size+1) (.ins C s.heap.objs.size []))
  { s with heap:=(s.heap.push W.emptyDict).push (W.instObj C s.heap.objs.size) }:=by
 have e1:(s.heap.push W.emptyDict).get? s.heap.objs.size=some W.emptyDict:=Heap.get?_push_size s.heap rfl
 have e2:((s.heap.push W.emptyDict).push (W.instObj C s.heap.objs.size)).get? (s.heap.objs.size+1)=some (W.instObj C s.heap.objs.size):=by
  have:=Heap.get?_push_size (s.heap.push W.emptyDict) (o:=W.instObj C s.heap.objs.size) rfl
  rwa [Heap.size_push] at this
 have e3:(s.heap.push W.emptyDict).Ns s.heap.objs.size (λ _=>none):=⟨W.emptyDict, #[],_,e1,rfl,(λ e he=>absurd he (by simp)),λ _=>rfl⟩
 have I1:=I.laid (a:=s.heap.objs.size) (o := .own (s.heap.objs.size+1)) (h':=s.heap.push W.emptyDict) (t':=s.toks) (λ b u q=>Heap.get?_push_of_some _ q) (Nat.le_refl _) ⟨_,e1⟩
 refine I1.laid (a:=s.heap.objs.size+1) (o := .ins C s.heap.objs.size []) (t':=s.toks) (λ b u q=>Heap.get?_push_of_some _ q) (Nat.le_of_eq (Heap.size_push _ _)) ?_
 have ne:s.heap.objs.size≠s.heap.objs.size+1:=Nat.ne_of_lt (Nat.lt_succ_self _)
 refine ⟨by rw [zja ne,upd_same],Nat.zero_le _,ne,e2,λ _=>none,(Heap.Ns1.of_empty e3).at λ o q=>Heap.get?_push_of_some _ q,λ _=>True.intro,λ y hy=>absurd rfl hy⟩
theorem zqu {prog:Program} {w:World} {env:Env} {e:Expr} {f:Str} {pos:Pos} {s:Shared} {Q:Value→Shared→Prop} (hb:attributeBase e f env (eval e env)=eval e env)
  (h:wpAny (model prog w) A (eval e env) (λ o s₁=>wpAny (model prog w) A (getAttr o f true) Q E s₁) E s):wpAny (model prog w) A (eval (.Attribute e f pos) env) Q E s :=
 Attribute_any_ h (by rw [arm_eval_Attribute,hb])
end
noncomputable def tFld (K:W.Frag) (ta:TE) (f:Str):TE:=λ σ H Q=>ta σ H λ x H1=>∃ a C dx fs v,x = .ref a∧H1 a=some (.ins C dx fs)∧Cls K C∧NoAttr K C f∧fs.lookup f=some v∧Q v H1
noncomputable def sFld (K:W.Frag) (ta tv:TE) (f:Str):TS:=λ D σ H=>tv σ H λ y H1=>ta σ H1 λ x H2=>∃ a C dx fs,x = .ref a∧H2 a=some (.ins C dx fs)∧Cls K C∧NoAttr K C f∧fs.length<1000 ∧
 D.nx σ (upd H2 a (.ins C dx (putF f y fs)))
section
variable {X:Cx} {o e value:Expr} {f:Str} {pos pos' tpos:Pos} {ta tv:TE}
theorem znn (he:PE X e ta) (hb:attributeBase e f X.env (eval e X.env)=eval e X.env):PE X (.Attribute e f pos) (tFld X.K ta f) := .mk <| by
 intro pins s σ H Q I h
 refine zqu hb (thn (he pins s σ H _ I h) λ u s1 ⟨x,H1,I1,rx,a,C,dx,fs,v,ex,ea,c,n,l,q⟩=>?_)
 subst ex
 obtain rfl:u=Value.ref a:=rx
 exact zbl I1 ea c n l λ u' s2 I2 ru=>⟨v,H1,I2,ru,q⟩
theorem zey (ha:PE X o ta) (hv:PE X value tv) (hs:swapsWith value (some (.Attribute o f pos')) pos.line X.env=pure false):PS X (.Assign [.Attribute o f pos'] value pos) (sFld X.K ta tv f) := .mk <| by
 intro pins s σ H D I h
 refine plainObj_wpAny_Assign_Attribute (thn (hv pins s σ H _ I h) λ u s1 ⟨y,H1,I1,ry,q⟩=>thn (ha pins s1 σ H1 _ I1 q) λ ov s2 ⟨x,H2,I2,rx,a,C,dx,fs,ex,ea,c,n,l,q2⟩=>?_) hs
 subst ex
 obtain rfl:ov=Value.ref a:=rx
 exact zim I2 ea c n l ry λ s3 I3=>⟨σ,_,I3,q2⟩
end
section
variable {X:Cx} {pins:List (Addr×Obj)} {σ:St} {H:Hp} {s:Shared} {A:Around} {E:Value→Shared→Prop} {Q:Value→Shared→Prop} {c:Value} {b:Bool}
end
end L2
namespace L2
open PySem PySem.Spec PyProof.Rows
structure Room (k:Nat) (A:Around):Prop where
 hd:A.handled=none
 dp:A.depth+3 * k+5<recursionLimit
 un:A.units+16 * k+200<cLine
theorem Room.mono {j k:Nat} {A:Around} (r:Room k A) (h:j≤k):Room j A:=⟨r.hd,by have:=r.dp;omega,by have:=r.un;omega⟩
theorem Room.deeper {k:Nat} {A:Around} (r:Room (k+1) A) (env:Env):Room k (A.deeper env) :=
 ⟨r.hd,by have:=r.dp;show A.depth+1+3 * k+5<_;omega,by have:=r.un;show A.units+3+16 * k+200<_;omega⟩
theorem zdl {A:Around} {C:Addr} {us:List Value} {kw:List (Str×Value)}:(A.under (.builtin "type.__call__" ⟨.ref C::us,kw⟩)).depth=A.depth+1:=by
 first | rfl | simp [Around.under,Code.weight,Code.isCreation,Code.isGuard,Code.isCaller,Code.frames,Code.isFrame,guardIds]
theorem zgl {A:Around} {C:Addr} {us:List Value} {kw:List (Str×Value)}:(A.under (.builtin "type.__call__" ⟨.ref C::us,kw⟩)).units=A.units+1:=by
 first | rfl | simp [Around.under,Code.cUnits,Code.frames,Code.isFrame]
theorem Room.make {k:Nat} {A:Around} (r:Room (k+1) A) (C:Addr) (us:List Value) (kw:List (Str×Value)):Room k (A.under (.builtin "type.__call__" ⟨.ref C::us,kw⟩)) :=
 ⟨r.hd,by have:=r.dp;rw [zdl];omega,by have:=r.un;rw [zgl];omega⟩
theorem Room.depth {k:Nat} {A:Around} (r:Room k A):A.depth<recursionLimit:=by have:=r.dp;omega
theorem Room.units {k:Nat} {A:Around} (r:Room k A):A.units+64<cLine:=by have:=r.un;omega
noncomputable def tNil:TA:=λ _ H Q=>Q [] H
noncomputable def zt1 (ta:TE) (tr:TA):TA:=λ σ H Q=>ta σ H λ x H1=>tr σ H1 λ xs H2=>Q (x::xs) H2
section
variable {X:Cx} {e:Expr} {es:List Expr} {te:TE} {t:TA} {pos:Pos}
theorem zda:PA X [] tNil := .mk <| λ _ _ _ _ H Q I h=>Calls.spliced_nil ⟨[],H,I,.nil,h⟩
theorem zaa (ha:PE X e te) (hr:PA X es t) (hs:starEach (e::es) X.env=(false,eval e X.env)::starEach es X.env:=by rfl):PA X (e::es) (zt1 te t) := .mk <| by
 intro pos pins s σ H Q I h
 rw [hs]
 show wpAny _ _ (spliced ((false,eval e X.env)::backTo pos (starEach es X.env))) _ _ s
 refine Calls.spliced_cons (thn (ha pins s σ H _ I h) λ u s1 ⟨x,H1,I1,r1,q1⟩=>?_)
 exact thn (hr pos pins s1 σ H1 _ I1 q1) λ us s2 ⟨xs,H2,I2,r2,q2⟩=>⟨x::xs,H2,I2,.cons r1 r2,q2⟩
noncomputable def tTup (t:TA):TE:=λ σ H Q=>t σ H λ xs H1=>xs.length≤sizeLine∧∀ p,H1 p=none→Q (.ref p) (upd H1 p (.tup xs))
noncomputable def tLst (t:TA):TE:=λ σ H Q=>t σ H λ xs H1=>xs.length≤sizeLine∧∀ p,H1 p=none→Q (.ref p) (upd H1 p (.lst xs))
theorem zoa {x1} (h:PA X es t):PE X (.Tuple es x1 pos) (tTup t) := .mk <| by
 intro pins s σ H Q I hq
 refine wpAny_Tuple_spliced (thn (h pos pins s σ H _ I hq) λ us s1 ⟨xs,H1,I1,r,z,q⟩=>⟨by rw [← r.length];exact z,?_⟩)
 have hf:H1 s1.heap.objs.size=none:=I1.hok.fresh (Nat.le_refl _)
 refine ⟨.ref s1.heap.objs.size,upd H1 s1.heap.objs.size (.tup xs),I1.laid (t':=s1.toks) (λ b u e=>Heap.get?_push_of_some _ e) (Nat.le_refl _) ?_,rfl,q _ hf⟩
 exact ⟨z,us,r,⟨_,Heap.get?_push_size _ rfl,rfl,_,rfl⟩⟩
theorem zgc (h:PA X es t):PE X (.List es pos) (tLst t) := .mk <| by
 intro pins s σ H Q I hq
 refine wpAny_List_spliced (thn (h pos pins s σ H _ I hq) λ us s1 ⟨xs,H1,I1,r,z,q⟩=>⟨by rw [← r.length];exact z,?_⟩)
 have hf:H1 s1.heap.objs.size=none:=I1.hok.fresh (Nat.le_refl _)
 refine ⟨.ref s1.heap.objs.size,upd H1 s1.heap.objs.size (.lst xs),I1.laid (t':=s1.toks) (λ b u e=>Heap.get?_push_of_some _ e) (Nat.le_refl _) ?_,rfl,q _ hf⟩
 exact ⟨z,us,0,r,Heap.get?_push_size _ rfl⟩
end
noncomputable abbrev Sp:=List V→Hp→VK→XK→Prop
noncomputable abbrev CXT:=List Env→Hp→Shared→XK→Value→Shared→Prop
structure Env0 (P:Program) (w:World) (K:W.Frag) (mg:Str→Option Value) (base:Heap) (A:Around) (outer:List Env) (s:Shared) (H:Hp):Prop where
 frames:A.frames=some outer
 mod:Mod K mg base
 bs:∀ b o,base.get? b=some o→s.heap.get? b=some o∧H b=none
 bsz:base.objs.size≤s.heap.objs.size
 funs:s.heap.FunFrames base outer
 frf:∀ b∈frs outer,H b=none
 hok:HOk P w H s.heap
 bare:AllBare s.gens
noncomputable def CE (outer:List Env) (P:Program) (w:World) (H:Hp) (s:Shared) (Q:VK) (u:Value) (s':Shared):Prop :=
 ∃ v H',s'.os=s.os∧AllBare s'.gens∧Un (frs outer) [] H H' s.heap s'.heap∧HOk P w H' s'.heap∧RelV v u∧Q v H'
noncomputable def CR (CX:CXT) (outer:List Env) (P:Program) (w:World) (H:Hp) (s:Shared) (Q:VK) (E:XK) (r:Result) (s':Shared):Prop :=
 match r with
 | .ok (.ret u)=>CE outer P w H s Q u s'
 | .ok _=>False
 | .error e=>CX outer H s E e s'
structure FnOk (P:Program) (w:World) (K:W.Frag) (mg:Str→Option Value) (base:Heap) (CX:CXT) (k:Nat) (f:Addr) (fd:FuncData) (ps:List Str) (sp:Sp):Prop where
 len:∀ vs H Q E,sp vs H Q E→vs.length=ps.length
 run:∀ (A:Around) (outer:List Env) (s:Shared) (H:Hp) (args:Args) (us:List Value) (vs:List V) (Q:VK) (E:XK),Room k A→Env0 P w K mg base A outer s H→BindsTo s fd args (ps.zip us)→Vals vs us→sp vs H Q E →
  codeAny (model P w) A (.call (.ref f) args) (CR CX outer P w H s Q E) s
theorem Env0.make {P:Program} {w:World} {K:W.Frag} {mg:Str→Option Value} {base:Heap} {A:Around} {outer:List Env} {s:Shared} {H:Hp} (e:Env0 P w K mg base A outer s H) (C:Addr) (us:List Value) (kw:List (Str×Value)) :
  Env0 P w K mg base (A.under (.builtin "type.__call__" ⟨.ref C::us,kw⟩)) outer s H:=⟨by first | exact e.frames | (simpa [Around.under,Code.envs,Code.isFrame,pushEnvs] using e.frames),e.mod,e.bs,e.bsz,e.funs,e.frf,e.hok,e.bare⟩
section
variable {X:Cx} {pins:List (Addr×Obj)} {σ:St} {H:Hp} {s s':Shared}
theorem Inv.env0 (I:Inv X pins σ H s):Env0 X.prog X.w X.K X.mg X.base X.A X.stack s H :=
 ⟨I.ok.frames,I.ok.mod,I.bs,Nat.le_trans I.ok.bsz I.sz,I.stack,I.stkFree,I.hok,I.bare⟩
theorem Inv.after {Q:VK} {u:Value} (I:Inv X pins σ H s) (h:CE X.stack X.prog X.w H s Q u s'):EP X pins σ Q u s':=by
 obtain ⟨v,H',os,bare,un,hok,r,q⟩:=h
 obtain ⟨hh,g,d,t,os'⟩:=s'
 obtain rfl:os'=s.os:=os
 exact ⟨v,H',I.call (h':=hh) (g':=g) (d':=d) (t':=t) (ch:=[]) un hok bare (λ b z=>absurd z (by simp)),r,q⟩
end
noncomputable def zrz (sp:Sp) (dvs:List V) (E:XK) (t:TA):TE:=λ σ H Q=>t σ H λ vs H1=>sp (vs++dvs) H1 Q E
noncomputable def zcz (C:Addr) (m:Str) (sp:Sp) (dvs:List V) (E:XK) (ta:TE) (t:TA):TE:=λ σ H Q=>ta σ H λ x H1=>∃ a dx fs,x = .ref a∧H1 a=some (.ins C dx fs)∧fs.lookup m=none ∧
 t σ H1 λ vs H2=>sp (x::(vs++dvs)) H2 Q E
noncomputable def zxz (C:Addr) (sp:Sp) (dvs:List V) (E:XK) (t:TA):TE:=λ σ H Q=>t σ H λ vs H1=>∀ x dx,H1 x=none→H1 dx=none→dx≠x →
 sp (.ref x::(vs++dvs)) (upd (upd H1 dx (.own x)) x (.ins C dx [])) (λ v H2=>v = .non∧Q (.ref x) H2) E
noncomputable def Binds (K:W.Frag) (fd:FuncData) (ps:List Str) (ds:List Value):Prop :=
 ∀ (s:Shared) (us:List Value),K.In s.heap→(us++ds).length=ps.length→BindsTo s fd ⟨us,[]⟩ (ps.zip (us++ds))
theorem Binds.all {K:W.Frag} {fd:FuncData} {ps:List Str} (h:∀ us:List Value,us.length=ps.length→bindArgs fd ⟨us,[]⟩=pure (ps.zip us)):Binds K fd ps []:=λ s us _ hl=>by
 rw [List.append_nil] at hl ⊢
 exact .of_eq (h us hl)
noncomputable def ztf (CX:CXT) (X:Cx) (E:XK):Prop:=∀ (pins:List (Addr×Obj)) (σ:St) (H:Hp) (s:Shared) (e:Value) (s':Shared),Inv X pins σ H s→CX X.stack H s E e s'→X.xe e s'
section
variable {X:Cx} {CX:CXT} {k:Nat} {f C:Addr} {fd:FuncData} {ps:List Str} {sp:Sp} {dvs:List V} {ds:List Value} {E:XK} {x m:Str} {p pos apos:Pos} {e o:Expr} {es:List Expr} {ta:TE} {t:TA}
theorem zbr {pins:List (Addr×Obj)} {σ:St} {H:Hp} {s:Shared} {Q:VK} {us:List Value} {vs:List V} (F:FnOk X.prog X.w X.K X.mg X.base CX k f fd ps sp) (hr:Room k X.A) (hb:Binds X.K fd ps ds) (hd:Vals dvs ds) (hx:ztf CX X E)
  (I:Inv X pins σ H s) (r:Vals vs us) (h:sp (vs++dvs) H Q E):wpAny (model X.prog X.w) X.A (call (.ref f) us) (EP X pins σ Q) X.xe s:=by
 have r2:Vals (vs++dvs) (us++ds):=r.append hd
 have hl:(us++ds).length=ps.length:=by rw [← r2.length];exact F.len _ _ _ _ h
 refine wpAny_call (codeAny_mono (F.run X.A X.stack s H ⟨us,[]⟩ (us++ds) (vs++dvs) Q E hr I.env0 (hb s us I.kIn hl) r2 h) λ r s' hq=>?_)
 cases r with
 | error e=>exact hx pins σ H s e s' I hq
 | ok fl =>
  cases fl with
  | ret u=>exact I.after hq
  | next=>exact False.elim hq
  | brk=>exact False.elim hq
  | cont=>exact False.elim hq
theorem zra (F:FnOk X.prog X.w X.K X.mg X.base CX k f fd ps sp) (hr:Room k X.A) (hg:Gl X x) (hm:X.mg x=some (.ref f)) (hk:W.keepIn X.K (.ref f)=true) (hb:Binds X.K fd ps ds) (hd:Vals dvs ds) (hx:ztf CX X E)
  (ha:PA X (e::es) t) (hdb:(x == ("__debug__" : Str))=false:=by decide) (he:starEach (e::es) X.env=(false,eval e X.env)::starEach es X.env:=by rfl) (hpl:(backTo pos (starEach es X.env)).any (·.1)=false:=by rfl) :
  PE X (.Call (.Name x p) (e::es) [] pos) (zrz sp dvs E t) := .mk <| by
 intro pins s σ H Q I h
 refine wpAny_Call_Name_kw (zde I hg hm ?_ hdb)
 refine W.callWith_K (h₀:=X.base) I.ok.mod.kin hk (thn (ha pos pins s σ H _ I h) λ us s1 ⟨vs,H1,I1,r,q⟩=>⟨I1.kIn,?_⟩) he hpl
 exact zbr F hr hb hd hx I1 r q
theorem zvt {pl:Sem Bool} (he:PE X o ta) (c:Cls X.K C) (hm:Meth X.K C m f) (F:FnOk X.prog X.w X.K X.mg X.base CX k f fd ps sp) (hr:Room k X.A) (hb:Binds X.K fd ps ds) (hd:Vals dvs ds) (hx:ztf CX X E) (ha:PA X (e::es) t)
  (hst:starEach (e::es) X.env=(false,eval e X.env)::starEach es X.env:=by rfl) (hpl:(backTo pos (starEach es X.env)).any (·.1)=false:=by rfl)
  (ht:eval (.Call (.Attribute o m apos) (e::es) [] pos) X.env=(do
   let ov ← eval o X.env
   standAt apos.atName
   let (f,first) ← holding [ov] (getMethod ov m pl)
   callWith pos f first (backTo pos (starEach (e::es) X.env)) (backToKw pos (keywordEach [] X.env))):=by rfl) :
  PE X (.Call (.Attribute o m apos) (e::es) [] pos) (zcz C m sp dvs E ta t) := .mk <| by
 intro pins s σ H Q I h
 refine W.methodCall_KW (pl:=pl) (thn (he pins s σ H _ I h) λ u s1 ⟨x,H1,I1,rx,a,dx,fs,ex,ea,l,q⟩=>?_) ht
 subst ex
 obtain rfl:u=Value.ref a:=rx
 refine zsf I1 ea c hm l ?_
 refine W.callWith_K (first:=[.ref a]) (h₀:=X.base) I.ok.mod.kin hm.kp (thn (ha pos pins s1 σ H1 _ I1 q) λ us s2 ⟨vs,H2,I2,r,q2⟩=>⟨I2.kIn,?_⟩) hst hpl
 exact zbr (us := .ref a::us) (vs := .ref a::vs) F hr hb hd hx I2 (.cons rfl r) q2
theorem zoh {pl:Sem Bool} (he:PE X o ta) (c:Cls X.K C) (hm:Meth X.K C m f) (F:FnOk X.prog X.w X.K X.mg X.base CX k f fd ps sp) (hr:Room k X.A) (hb:Binds X.K fd ps ds) (hd:Vals dvs ds) (hx:ztf CX X E)
  (ht:eval (.Call (.Attribute o m apos) [] [] pos) X.env=(do
   let ov ← eval o X.env
   standAt apos.atName
   let (f,first) ← holding [ov] (getMethod ov m pl)
   callWith pos f first (backTo pos (starEach [] X.env)) (backToKw pos (keywordEach [] X.env))):=by rfl) :
  PE X (.Call (.Attribute o m apos) [] [] pos) (zcz C m sp dvs E ta tNil) := .mk <| by
 intro pins s σ H Q I h
 refine W.methodCall_KW (pl:=pl) (thn (he pins s σ H _ I h) λ u s1 ⟨x,H1,I1,rx,a,dx,fs,ex,ea,l,q⟩=>?_) ht
 subst ex
 obtain rfl:u=Value.ref a:=rx
 refine zsf I1 ea c hm l ?_
 exact W.callWith_K0 (first:=[.ref a]) I1.kIn hm.kp (zbr (us:=[.ref a]) (vs:=[.ref a]) F hr hb hd hx I1 (.cons rfl .nil) q)
structure Mk (K:W.Frag) (C f:Addr):Prop where
 makes:W.makesIn K C=true
 init:W.findIn K (.ref C) "__init__" = some (some (.ref f))
 fn:W.isFn K (.ref f)=true
 kp:W.keepIn K (.ref C)=true
theorem zbs {pins:List (Addr×Obj)} {σ:St} {H:Hp} {s:Shared} {Q:VK} {us:List Value} {vs:List V} (M:Mk X.K C f) (F:FnOk X.prog X.w X.K X.mg X.base CX k f fd ps sp) (hr:Room (k+1) X.A) (hb:Binds X.K fd ps ds) (hd:Vals dvs ds)
  (hx:ztf CX X E) (I:Inv X pins σ H s) (r:Vals vs us)
  (h:∀ x dx,H x=none→H dx=none→dx≠x→sp (.ref x::(vs++dvs)) (upd (upd H dx (.own x)) x (.ins C dx [])) (λ v H2=>v = .non∧Q (.ref x) H2) E) :
  wpAny (model X.prog X.w) X.A (call (.ref C) us) (EP X pins σ Q) X.xe s:=by
 have hq:=h (s.heap.objs.size+1) s.heap.objs.size (I.hok.fresh (Nat.le_succ _)) (I.hok.fresh (Nat.le_refl _)) (Nat.ne_of_lt (Nat.lt_succ_self _))
 have I2:=Inv.made (C:=C) I
 have r2:Vals (V.ref (s.heap.objs.size+1)::(vs++dvs)) (Value.ref (s.heap.objs.size+1)::(us++ds)) := .cons rfl (r.append hd)
 have hl:(Value.ref (s.heap.objs.size+1)::us++ds).length=ps.length:=by
  have e:=r2.length
  rw [F.len _ _ _ _ hq] at e
  exact e.symm
 refine wpAny_call (zar (f:=f) I.kIn M.makes M.init (beq_iff_eq.mp M.fn) (codeAny_mono (F.run _ X.stack _ _ ⟨Value.ref (s.heap.objs.size+1)::us,[]⟩ (Value.ref (s.heap.objs.size+1)::(us++ds)) _ _ E (hr.make C us [])
  (I2.env0.make C us []) (hb _ (Value.ref (s.heap.objs.size+1)::us) I2.kIn hl) r2 hq) λ r s' hq'=>?_))
 cases r with
 | error e=>exact hx pins σ _ _ e s' I2 hq'
 | ok fl =>
  cases fl with
  | ret u =>
   obtain ⟨v,H',I3,rv,ev,q3⟩:=I2.after hq'
   subst ev
   exact ⟨rv,⟨V.ref (s.heap.objs.size+1),H',I3,rfl,q3⟩⟩
  | next=>exact False.elim hq'
  | brk=>exact False.elim hq'
  | cont=>exact False.elim hq'
theorem zen (M:Mk X.K C f) (F:FnOk X.prog X.w X.K X.mg X.base CX k f fd ps sp) (hr:Room (k+1) X.A) (hg:Gl X x) (hm:X.mg x=some (.ref C)) (hb:Binds X.K fd ps ds) (hd:Vals dvs ds) (hx:ztf CX X E)
  (ha:PA X (e::es) t) (hdb:(x == ("__debug__" : Str))=false:=by decide) (he:starEach (e::es) X.env=(false,eval e X.env)::starEach es X.env:=by rfl) (hpl:(backTo pos (starEach es X.env)).any (·.1)=false:=by rfl) :
  PE X (.Call (.Name x p) (e::es) [] pos) (zxz C sp dvs E t) := .mk <| by
 intro pins s σ H Q I h
 refine wpAny_Call_Name_kw (zde I hg hm ?_ hdb)
 refine W.callWith_K (h₀:=X.base) I.ok.mod.kin M.kp (thn (ha pos pins s σ H _ I h) λ us s1 ⟨vs,H1,I1,r,q⟩=>⟨I1.kIn,?_⟩) he hpl
 exact zbs M F hr hb hd hx I1 r q
end
section
variable {X:Cx} {CX:CXT} {k:Nat} {f C:Addr} {fd:FuncData} {ps ks:List Str} {sp:Sp} {E:XK} {x m:Str} {p pos apos kpos:Pos} {e o:Expr} {es:List Expr} {kws:List Keyword} {te ta:TE} {t tk:TA} {nm:Option Str}
variable {g:List Value→List Value→List Value} {gV:List V→List V→List V}
end
structure FnScope (N P:List Str) (sc:Scope):Prop where
 kind:sc.kind = .function
 co:sc.isCoroutine=false
 gen:sc.isGenerator=false
 nd:N.Nodup
 pre:N.take P.length=P
 par:∀ x∈P,sc.names.lookup x=some .local ∨ sc.names.lookup x=some .cell
 nofree:∀ y∈sc.names,y.2 ≠ .free
theorem zni {kindOf:Str→Option NameKind} {x:Str}:∀ {binds:List (Str×Value)} {m:Str→Option Value},(∀ v,(x,v)∉binds)→bindL kindOf binds m x=m x
 | [],_,_=>rfl
 | (n,v)::r,m,h=>by
  unfold bindL
  rw [zni λ w hw=>h w (List.mem_cons_of_mem _ hw)]
  split
  ·have:x≠n:=by rintro rfl;exact h v List.mem_cons_self
   simp [this]
  ·rfl
theorem zyh {kindOf:Str→Option NameKind} {x:Str}:∀ {binds:List (Str×Value)} {m:Str→Option Value},(∀ v,(x,v)∉binds)→bindC kindOf binds m x=m x
 | [],_,_=>rfl
 | (n,v)::r,m,h=>by
  unfold bindC
  rw [zyh λ w hw=>h w (List.mem_cons_of_mem _ hw)]
  split
  ·rfl
  ·have:x≠n:=by rintro rfl;exact h v List.mem_cons_self
   simp [this]
theorem zgj {kindOf:Str→Option NameKind} {x:Str} {v:Value}:∀ {P:List Str} {vs:List Value} {i:Nat} {m:Str→Option Value},P.Nodup→P[i]? = some x→vs[i]? = some v→kindOf x=some .local →
  bindL kindOf (P.zip vs) m x=some v
 | [],_,_,_,_,h,_,_=>by simp at h
 | _::_,[],_,_,_,_,h,_=>by simp at h
 | p::P,w::vs,0,m,nd,h1,h2,hk=>by
  simp at h1 h2;subst h1;subst h2
  show bindL kindOf ((p,w)::P.zip vs) m p=_
  unfold bindL
  rw [zni λ v hv=>(List.nodup_cons.mp nd).1 (List.of_mem_zip hv).1,if_pos hk]
  simp
 | p::P,w::vs,i+1,m,nd,h1,h2,hk=>by
  show bindL kindOf ((p,w)::P.zip vs) m x=_
  unfold bindL
  exact zgj (i:=i) (List.nodup_cons.mp nd).2 (by simpa using h1) (by simpa using h2) hk
theorem zdi {kindOf:Str→Option NameKind} {x:Str} {v:Value}:∀ {P:List Str} {vs:List Value} {i:Nat} {m:Str→Option Value},P.Nodup→P[i]? = some x→vs[i]? = some v→kindOf x≠some .local →
  bindC kindOf (P.zip vs) m x=some v
 | [],_,_,_,_,h,_,_=>by simp at h
 | _::_,[],_,_,_,_,h,_=>by simp at h
 | p::P,w::vs,0,m,nd,h1,h2,hk=>by
  simp at h1 h2;subst h1;subst h2
  show bindC kindOf ((p,w)::P.zip vs) m p=_
  unfold bindC
  rw [zyh λ v hv=>(List.nodup_cons.mp nd).1 (List.of_mem_zip hv).1,if_neg hk]
  simp
 | p::P,w::vs,i+1,m,nd,h1,h2,hk=>by
  show bindC kindOf ((p,w)::P.zip vs) m x=_
  unfold bindC
  exact zdi (i:=i) (List.nodup_cons.mp nd).2 (by simpa using h1) (by simpa using h2) hk
noncomputable def start (N:List Str) (vs:List V):St:=vs.map some++List.replicate (N.length - vs.length) none
noncomputable def cxOf (CX:CXT) (P:Program) (w:World) (K:W.Frag) (mg:Str→Option Value) (base:Heap) (N:List Str) (qual:Str) (scope:Scope) (f:Addr) (cd:Value) (A:Around) (outer:List Env) (s:Shared) (H:Hp) (E:XK):Cx where
 prog:=P
 w:=w
 K:=K
 mg:=mg
 base:=base
 A:=A.deeper (envOfC qual scope s.heap.objs.size f cd)
 N:=N
 s₀:=s
 H₀:=H
 env:=envOfC qual scope s.heap.objs.size f cd
 outer:=outer
 stack:=envOfC qual scope s.heap.objs.size f cd::outer
 ex:=[]
 calm:=true
 fn:=λ _=>true
 pn:=[]
 xe:=λ e s'=>wpAny (model P w) (A.deeper (envOfC qual scope s.heap.objs.size f cd)) (leaving (envOfC qual scope s.heap.objs.size f cd) e) (λ _ s''=>CX outer H s E e s'') (λ e' s''=>CX outer H s E e' s'') s'
theorem zdm {sc:Scope} {n:Nat} {x:Str} (h:sc.names.lookup x=some .cell):∃ c,(cellsFrom n sc.names []).lookup x=some c:=by
 have q:=W.cellsFrom_some sc.names n [] (.inl h)
 exact Option.isSome_iff_exists.mp q
theorem zxo {CX:CXT} {P:Program} {w:World} {K:W.Frag} {mg:Str→Option Value} {base:Heap} {N ps:List Str} {qual:Str} {scope:Scope} {f:Addr} {cd:Value} {A:Around} {outer:List Env} {s s1:Shared} {H:Hp} {E:XK} {us:List Value} {vs:List V}
  (S:FnScope N ps scope) (hd:A.handled=none) (e0:Env0 P w K mg base A outer s H) (hl:vs.length=ps.length) (r:Vals vs us)
  (x:InCallC s s.heap.objs.size (bindL (envOfC qual scope s.heap.objs.size f cd).kindOf (ps.zip us) λ _=>none) (cellsFrom (s.heap.objs.size+1) scope.names []) (bindC (envOfC qual scope s.heap.objs.size f cd).kindOf (ps.zip us) λ _=>none) s1) :
  Inv (cxOf CX P w K mg base N qual scope f cd A outer s H E) [] (start N vs) H s1:=by
 have hpl:ps.length≤N.length:=by have:=congrArg List.length S.pre;rw [List.length_take] at this;omega
 obtain ⟨h1,tk,rfl,hk⟩:=x.done
 have noA:∀ b:Addr,b∉(cxOf CX P w K mg base N qual scope f cd A outer s H E).ex:=λ b z=>absurd (show b∈([]:List Addr) from z) (by simp)
 refine ⟨⟨e0.mod,S.kind,rfl,rfl,Nat.le_refl _,λ y z c h1 h2=>?_,λ y hy=>?_,λ y c _ h=>?_,λ _=>hd,Around.frames_deeper e0.frames,.inr ⟨rfl,rfl⟩,λ b z=>absurd z (noA b),e0.bs,e0.bsz,λ b _ _=>noA b,λ b z=>absurd z (noA b),e0.funs,e0.frf⟩,
  rfl,e0.bare,Un.kept hk,⟨_,x.toInCall.ns,λ i y v h1 h2 h3=>?_⟩,λ y c h=>⟨_,x.cell y c h⟩,e0.hok.fresh (Nat.le_refl _),λ y c h=>?_,λ p hp=>absurd (show p∈([]:List (Addr×Obj)) from hp) (by simp),e0.hok.kept hk,?_⟩
 ·exact name_of_addr x.apart (PySem.mem_of_lookup h1) (PySem.mem_of_lookup h2)
 ·have hy:scope.names.lookup y=some .cell ∨ scope.names.lookup y=some .free:=hy
  rcases hy with hy | hy
  ·exact zdm hy
  ·exact absurd rfl (S.nofree _ (PySem.mem_of_lookup hy))
 ·exact Nat.le_of_lt (x.above y c (PySem.mem_of_lookup h))
 ·have hi:i<vs.length:=by
   unfold start at h2
   by_cases hi:i<vs.length
   ·exact hi
   ·rw [List.getElem?_append_right (by simpa using hi)] at h2
    rw [List.getElem?_replicate] at h2
    split at h2 <;> cases h2
  have ha:vs[i]? = some v:=by
   unfold start at h2
   rw [List.getElem?_append_left (by simpa using hi),List.getElem?_map] at h2
   cases e:vs[i]? with
   | none=>rw [e] at h2;cases h2
   | some a=>rw [e] at h2;cases h2;rfl
  obtain ⟨u,hu,rv⟩:=r.get ha
  have hp:ps[i]? = some y:=by
   rw [← S.pre,List.getElem?_take_of_lt (by omega)];exact h1
  have ndP:ps.Nodup:=by rw [← S.pre];exact S.nd.sublist (List.take_sublist _ _)
  refine ⟨u,rv,?_⟩
  rcases S.par y (List.mem_of_getElem? hp) with k | k
  ·exact .inl ⟨k,zgj ndP hp hu k⟩
  ·obtain ⟨c,e⟩:=zdm (n:=s.heap.objs.size+1) k
   refine .inr ⟨.inl k,c,e,?_⟩
   have q:=x.cell y c e
   rw [zdi ndP hp hu (by show scope.names.lookup y≠_;rw [k];decide)] at q
   exact q
 ·exact e0.hok.fresh (Nat.le_of_lt (x.above y c (PySem.mem_of_lookup h)))
 ·unfold start
  show _=N.length
  rw [List.length_append,List.length_map,List.length_replicate]
  omega
theorem zx0 {CX:CXT} {P:Program} {w:World} {K:W.Frag} {mg:Str→Option Value} {base:Heap} {k:Nat} {f:Addr} {name qual:Str} {params:Arguments} {body:List Stmt} {scope:Scope} {dV kV doc pm cdv ct oc:Value} {an od:Option Addr}
  {osl:Array (Option Value)} {N ps:List Str} {sp:Sp} (lk:K.lookup f=some ⟨oc,od,.func (W.fnOf name qual params body scope dV kV doc pm an cdv ct),osl⟩) (hcd:W.codeIn K cdv qual=true) (S:FnScope N ps scope)
  (len:∀ vs H Q E,sp vs H Q E→vs.length=ps.length)
  (hbody:∀ (A:Around) (outer:List Env) (s:Shared) (H:Hp) (vs:List V) (Q:VK) (E:XK),Room k (A.deeper (envOfC qual scope s.heap.objs.size f cdv))→sp vs H Q E →
   ∃ t,PSs (cxOf CX P w K mg base N qual scope f cdv A outer s H E) body t∧t { nx:=λ _ H'=>Q .non H',rt:=Q } (start N vs) H) :
  FnOk P w K mg base CX (k+1) f (W.fnOf name qual params body scope dV kV doc pm an cdv ct) ps sp:=by
 refine ⟨len,λ A outer s H args us vs Q E hr e0 hb r hsp=>?_⟩
 have hl:=len _ _ _ _ hsp
 have KX:K.In s.heap:=e0.mod.kin.keeps λ b o e=>(e0.bs b o e).1
 have lim:s.heap.NoLimit:=e0.mod.nolimit.keeps λ b o e=>(e0.bs b o e).1
 have hkind:∀ y∈ps.zip us,scope.names.lookup y.1=some .local ∨ (scope.names.lookup y.1=some .cell∧((cellsFrom (s.heap.objs.size+1) scope.names []).lookup y.1).isSome=true):=λ ⟨n,v⟩ hy=>by
  rcases S.par n (List.of_mem_zip hy).1 with q | q
  ·exact .inl q
  ·exact .inr ⟨q,W.cellsFrom_some _ _ _ (.inl q)⟩
 refine codeAny_call_function hr.depth (KX _ _ lk) rfl S.co S.gen rfl (W.codeRec_of KX hcd) (hb _ _ _ _ ?_)
 refine wpAny_newFunctionEnv_cells S.kind hkind λ env he s1 x=>?_
 subst he
 refine ⟨lim.keeps x.toInCall.keep,codeAny_func ?_⟩
 obtain ⟨t,ht,hq⟩:=hbody A outer s H vs Q E (hr.deeper _) hsp
 have I:Inv (cxOf CX P w K mg base N qual scope f cdv A outer s H E) [] (start N vs) H s1:=zxo S hr.hd e0 hl r x
 refine wpAny_mono (ht [] s1 (start N vs) H _ I hq) (λ fl s' hs=>?_) λ e s' hs=>hs
 have fin:∀ {σ':St} {H':Hp} {v:V} {u:Value},Inv (cxOf CX P w K mg base N qual scope f cdv A outer s H E) [] σ' H' s'→RelV v u→Q v H'→CE outer P w H s Q u s' :=
  fun {σ' H' v u} J rv q=>⟨v,H',J.os,J.bare,J.base,J.hok,rv,q⟩
 cases fl with
 | ret u =>
  obtain ⟨v,σ',H',J,rv,q⟩:=hs
  exact fin J rv q
 | next =>
  obtain ⟨σ',H',J,q⟩:=hs
  exact fin (v:=V.non) (u:=Value.none) J rfl q
 | brk =>
  obtain ⟨_,_,_,q⟩:=hs
  exact False.elim q
 | cont =>
  obtain ⟨_,_,_,q⟩:=hs
  exact False.elim q
end L2
namespace L2
open PySem PySem.Spec PyProof.Rows
section
variable {X:Cx} {x:Str} {p pos:Pos} {e:Expr} {es:List Expr} {t:TA} {id T:String} {r:List V→Hp→VK→Prop}
noncomputable def tCB (r:List V→Hp→VK→Prop) (t:TA):TE:=λ σ H Q=>t σ H λ vs H1=>r vs H1 Q
theorem zma (hc:zrj X (.builtin id) r) (hg:Gl X x) (hm:X.mg x=none) (hv:bootBuiltins x=some (.builtin id)) (ha:PA X (e::es) t) (hn:x ≠ "__name__" := by decide) (hdb:(x == ("__debug__" : Str))=false:=by decide)
  (he:starEach (e::es) X.env=(false,eval e X.env)::starEach es X.env:=by rfl) (hpl:(backTo pos (starEach es X.env)).any (·.1)=false:=by rfl):PE X (.Call (.Name x p) (e::es) [] pos) (tCB r t) := .mk <| by
 intro pins s σ H Q I h
 refine wpAny_Call_Name_kw (zjj I hg hm hv ?_ hn hdb)
 exact PyProof.Rows.callWith_builtin1 (thn (ha pos pins s σ H _ I h) λ us s1 ⟨vs,H1,I1,r1,q1⟩=>hc pins s1 σ H1 vs us Q I1 r1 q1) he hpl
theorem zrb (hc:zrj X (.type T) r) (hg:Gl X x) (hm:X.mg x=none) (hv:bootBuiltins x=some (.type T)) (ha:PA X (e::es) t) (hn:x ≠ "__name__" := by decide) (hdb:(x == ("__debug__" : Str))=false:=by decide)
  (he:starEach (e::es) X.env=(false,eval e X.env)::starEach es X.env:=by rfl) (hpl:(backTo pos (starEach es X.env)).any (·.1)=false:=by rfl):PE X (.Call (.Name x p) (e::es) [] pos) (tCB r t) := .mk <| by
 intro pins s σ H Q I h
 refine wpAny_Call_Name_kw (zjj I hg hm hv ?_ hn hdb)
 exact PyProof.Rows.callWith_type1 (thn (ha pos pins s σ H _ I h) λ us s1 ⟨vs,H1,I1,r1,q1⟩=>hc pins s1 σ H1 vs us Q I1 r1 q1) he hpl
end
end L2
namespace HT
open PySem PyProof.Rows
section
open PySem.SeqAt
open PySem.AutoSeq1 (wpAny_loadPart')
open PySem.MeetsSeq PySem.MeetsSeq2 PySem.MeetsSeq3
end
section
variable {prog:Program} {w:World} {A:Around} {E:Value→Shared→Prop} {s:Shared}
theorem cat_tup {t b:Addr} {vs ws:List Value} {Q:Value→Shared→Prop} (ht:IsTup s.heap t vs.toArray) (hb:IsTup s.heap b ws.toArray) (hv:vs≠[])
  (h1:ws=[]→Q (.ref t) s) (h2:ws≠[]→Q (.ref s.heap.objs.size) { s with heap:=s.heap.push { cls := .type "tuple",data := .seq (vs++ws).toArray } })
  (hsz:vs.length+ws.length≤sizeLine):wpAny (model prog w) A (binaryOp .Add (.ref t) (.ref b)) Q E s:=by
 obtain ⟨⟨cls,dd,data,sl⟩,ho,hc,n,hd⟩:=id ht
 obtain ⟨⟨cls2,dd2,data2,sl2⟩,ho2,hc2,n2,hd2⟩:=id hb
 simp only at hc hd hc2 hd2
 subst hc hd hc2 hd2
 have e:vs.toArray++ws.toArray=(vs++ws).toArray:=by simp
 by_cases hw:ws=[]
 ·exact concat_meets ⟨_,ho,rfl⟩ ⟨_,ho2,rfl⟩ noFill_tuple_add seq_tuple_add PySem.F.slot_tuple_add PySem.F.entry_tuple_add (PySem.F.args_tuple_add_2 _ _)
   (tuple_addW1 t b vs.toArray ws.toArray n n2 dd dd2 sl sl2 (by simpa using hv) (by simp [hw])) ⟨ho,ho2,h1 hw⟩
 ·refine concat_meets ⟨_,ho,rfl⟩ ⟨_,ho2,rfl⟩ noFill_tuple_add seq_tuple_add PySem.F.slot_tuple_add PySem.F.entry_tuple_add (PySem.F.args_tuple_add_2 _ _)
   (tuple_addW2 t b vs.toArray ws.toArray n n2 dd dd2 sl sl2 (by simpa using hv) (by simpa using hw) (by rw [List.size_toArray,List.size_toArray];exact hsz)) ⟨ho,ho2,?_⟩
  rw [e]
  exact h2 hw
noncomputable def sIx (n d:Nat):Option Int→Nat
 | none=>d
 | some v=>if v<0 then (v+(n:Int)).toNat else min v.toNat n
theorem sIx_none (n d:Nat):sIx n d none=d:=rfl
theorem sIx_nat (n d k:Nat):sIx n d (some (k:Int))=min k n:=by
 show (if (k:Int)<0 then ((k:Int)+(n:Int)).toNat else min (k:Int).toNat n)=min k n
 rw [if_neg (by omega),Int.toNat_natCast]
theorem sIx_le (n d:Nat) (hd:d≤n) (o:Option Int):sIx n d o≤n:=by
 cases o with
 | none=>exact hd
 | some v =>
  show (if v<0 then (v+(n:Int)).toNat else min v.toNat n)≤n
  by_cases hv:v<0
  ·rw [if_pos hv];omega
  ·rw [if_neg hv];exact Nat.min_le_right _ _
theorem zbq (v:Int) (n d:Nat):(if v<0 then max (v+(n:Int)) 0 else min v (n:Int))=((sIx n d (some v):Nat):Int):=by
 show (if v<0 then max (v+(n:Int)) 0 else min v (n:Int))=(((if v<0 then (v+(n:Int)).toNat else min v.toNat n):Nat):Int)
 by_cases hv:v<0
 ·simp only [if_pos hv];omega
 ·simp only [if_neg hv];omega
theorem zam (lo hi:Option Int) (n:Nat):Builtin.Slice.sliceAdjust lo hi 1 (n:Int)=(((sIx n 0 lo:Nat):Int),((sIx n n hi:Nat):Int)):=by
 have h1:¬ ((1:Int)<0):=by omega
 unfold Builtin.Slice.sliceAdjust
 simp only [h1,if_false]
 refine Prod.ext ?_ ?_
 ·cases lo with
  | none=>rfl
  | some v=>exact zbq v n 0
 ·cases hi with
  | none=>rfl
  | some v=>exact zbq v n n
theorem zck (i j:Nat):Builtin.Slice.slicePlaces (i:Int) (j:Int) 1=j - i:=by
 unfold Builtin.Slice.slicePlaces
 have h1:(1:Int) > 0:=by omega
 simp only [h1,if_true,Int.ediv_one]
 split <;> omega
theorem zzf {v:Value} {o:Option Int} {Q:Option Int→Shared→Prop} (p:IsPart v o) (h:Q o s):wpAny (model prog w) A (Builtin.Slice.slicePartIndex v) Q E s:=by
 cases p with
 | none=>exact slicePart_none h
 | int i t=>exact slicePart_int h
theorem zub {sl:Addr} {vl vu:Value} {lo hi:Option Int} {n:Nat} {Q:Int×Int×Nat→Shared→Prop} (hs:s.heap.IsSliceOf sl vl vu .none) (pl:IsPart vl lo) (pu:IsPart vu hi)
  (h:Q (((sIx n 0 lo:Nat):Int),1,sIx n n hi - sIx n 0 lo) s):wpAny (model prog w) A (Builtin.Slice.sliceApplied (.ref sl) (pure (n:Int))) Q E s:=by
 obtain ⟨os,hos,hcs,hds⟩:=id hs
 unfold Builtin.Slice.sliceApplied Builtin.Slice.sliceFields
 refine wpAny_bind (wpAny_bind (wpAny_field hos hds (x:=vl) rfl (wpAny_bind (wpAny_field hos hds (x:=vu) rfl (wpAny_bind (wpAny_field hos hds (x := .none) rfl (wpAny_pure ?_)))))))
 refine wpAny_bind (slicePart_none ?_)
 show wpAny _ _ (if ((1:Int) == 0)=true then _ else _) _ _ s
 rw [if_neg (by decide)]
 refine wpAny_bind (zzf pl (wpAny_bind (zzf pu (wpAny_bind (wpAny_pure ?_)))))
 show wpAny _ _ (match Builtin.Slice.sliceAdjust lo hi 1 (n:Int) with | (lo,hi)=>pure (lo,(1:Int),Builtin.Slice.slicePlaces lo hi 1)) _ _ s
 rw [zam lo hi n]
 show wpAny _ _ (pure (((sIx n 0 lo:Nat):Int),(1:Int),Builtin.Slice.slicePlaces ((sIx n 0 lo:Nat):Int) ((sIx n n hi:Nat):Int) 1)) _ _ s
 rw [zck]
 exact wpAny_pure h
theorem zjs (xs:Array Value) (i k:Nat):((List.range k).filterMap λ (m:Nat)=>xs[((i:Int)+(m:Int) * 1).toNat]?).toArray=((xs.toList.drop i).take k).toArray:=by
 have e:(λ (m:Nat)=>xs[((i:Int)+(m:Int) * 1).toNat]?)=λ m=>xs[i+m]?:=by
  funext m
  have:((i:Int)+(m:Int) * 1).toNat=i+m:=by omega
  rw [this]
 rw [e]
 have:=pick_run xs i k
 rw [List.filterMap_map] at this
 have e2:((λ x=>xs[x]?) ∘ λ x=>i+x)=λ m=>xs[i+m]?:=rfl
 rw [e2] at this
 rw [this]
theorem getItem_tuple_cut {t sl:Addr} {items:Array Value} {vl vu:Value} {lo hi:Option Int} {Q:Value→Shared→Prop} (ht:IsTup s.heap t items) (hs:s.heap.IsSliceOf sl vl vu .none) (pl:IsPart vl lo) (pu:IsPart vu hi)
  (hw:¬ (sIx items.size 0 lo=0∧sIx items.size items.size hi=items.size))
  (h:Q (.ref s.heap.objs.size) { s with heap:=s.heap.push { cls := .type "tuple",data := .seq ((items.toList.drop (sIx items.size 0 lo)).take (sIx items.size items.size hi - sIx items.size 0 lo)).toArray } })
  (hsz:items.size≤sizeLine):wpAny (model prog w) A (getItem (.ref t) (.ref sl)) Q E s:=by
 have htake:sizeOk (.seq ((items.toList.drop (sIx items.size 0 lo)).take (sIx items.size items.size hi - sIx items.size 0 lo)).toArray):=by
  show ((items.toList.drop (sIx items.size 0 lo)).take (sIx items.size items.size hi - sIx items.size 0 lo)).toArray.size≤sizeLine
  rw [List.size_toArray,List.length_take,List.length_drop,Array.length_toList]
  omega
 have hj:sIx items.size items.size hi≤items.size:=sIx_le _ _ (Nat.le_refl _) hi
 obtain ⟨os,hos,hcs,hds⟩:=id hs
 have hTs:s.TypeIs (.ref sl) "slice" := ⟨os,hos,hcs⟩
 unfold getItem
 try with_reducible refine wpAny_holding ?_
 first | refine wpAny_bind (wpAny_pure ?_) | skip
 refine wpAny_bind (wpAny_sequenceKey ht.typeIs (by decide) ?_)
 refine wpAny_bind (wpAny_callSpecial?_slot (name:=Str.ofString "__getitem__") ht.typeIs PyProof.Rows.slot_tuple_getitem
  (wpAny_call_entry PyProof.Rows.slot_tuple_getitem ht.typeIs entry_tuple_getitem ?_ (args_tuple_getitem _ _)))
 show wpAny _ _ (Builtin.Tuple.tupleItemsOf (.ref t) >>= _) _ _ s
 refine wpAny_bind (tupleItemsOf_ ht ?_)
 refine wpAny_bind (wpAny_typeOf hTs ?_)
 rw [if_pos (by decide)]
 refine wpAny_bind (zub hs pl pu ?_)
 have hno:¬ ((((sIx items.size 0 lo:Nat):Int) == 0 && (1:Int) == 1 && (sIx items.size items.size hi - sIx items.size 0 lo) == items.size)=true):=by
  intro q
  rw [Bool.and_eq_true,Bool.and_eq_true] at q
  have q1:((sIx items.size 0 lo:Nat):Int)=0:=eq_of_beq q.1.1
  have q2:sIx items.size items.size hi - sIx items.size 0 lo=items.size:=eq_of_beq q.2
  exact hw ⟨by omega,by omega⟩
 show wpAny _ _ (if (((sIx items.size 0 lo:Nat):Int) == 0 && (1:Int) == 1 && (sIx items.size items.size hi - sIx items.size 0 lo) == items.size)=true then _ else _) _ _ s
 rw [if_neg hno,zjs]
 first
  | exact wpAny_bind (m:=Builtin.Tuple.tupleExact _) (wpAny_newObj_type (wpAny_pure ⟨_,rfl,wpAny_pure h⟩) htake)
  | exact wpAny_bind (m:=Builtin.Tuple.tupleExact _) (wpAny_newObj_type (wpAny_bind (wpAny_pure (wpAny_pure ⟨_,rfl,wpAny_pure h⟩))) htake)
  | exact wpAny_bind (wpAny_bind (m:=Builtin.Tuple.tupleExact _) (wpAny_newObj_type (wpAny_pure (wpAny_pure ⟨_,rfl,wpAny_pure h⟩)) htake))
  | exact wpAny_bind (wpAny_bind (m:=Builtin.Tuple.tupleExact _) (wpAny_newObj_type (wpAny_pure ⟨_,rfl,wpAny_pure h⟩) htake))
end
end HT
namespace L2
open PySem PySem.Spec PyProof.Rows
noncomputable abbrev TO:=St→Hp→(Option Int→Hp→Prop)→Prop
noncomputable def PO (X:Cx) (e:Option Expr) (t:TO):Prop :=
 ∀ (pins:List (Addr×Obj)) (s:Shared) (σ:St) (H:Hp) (Q:Option Int→Hp→Prop),Inv X pins σ H s→t σ H Q →
  wpAny (model X.prog X.w) X.A (evalPart e X.env) (λ u s'=>∃ o H',Inv X pins σ H' s'∧IsPart u o∧Q o H') X.xe s
noncomputable def ziv:TO:=λ _ H Q=>Q none H
noncomputable def zq0 (t:TE):TO:=λ σ H Q=>t σ H λ x H1=>∃ i,x = .int i∧Q (some i) H1
theorem zuf {ns:List Int}:∀ {us:List Value},Vals (ns.map V.int) us→IntsAre us ns:=by
 induction ns with
 | nil=>intro us r;rw [List.map_nil] at r;cases r;exact .nil
 | cons n ns ih =>
  intro us r
  rw [List.map_cons] at r
  cases r with
  | cons r1 r2 =>
   obtain ⟨t,e⟩:=r1
   subst e
   exact .cons n t (ih r2)
section
variable {X:Cx} {e:Expr} {te:TE} {lo hi:Option Expr} {tl th:TO} {pos p2:Pos}
theorem zpc:PO X none ziv:=by
 intro pins s σ H Q I h
 rw [evalPart_none]
 exact wpAny_pure ⟨none,H,I,.none,h⟩
theorem zxb (h:PE X e te):PO X (some e) (zq0 te):=by
 intro pins s σ H Q I hw
 rw [evalPart_some]
 refine thn (h pins s σ H _ I hw) λ u s1 ⟨x,H1,I1,r1,q1⟩=>?_
 obtain ⟨i,rfl,q⟩:=q1
 obtain ⟨t,rfl⟩:=r1
 exact ⟨some i,H1,I1,.int i t,q⟩
noncomputable def SlR (X:Cx) (r:V→Option Int→Option Int→Hp→VK→Prop):Prop :=
 ∀ (pins:List (Addr×Obj)) (s:Shared) (σ:St) (H:Hp) (x:V) (v vl vu:Value) (lo hi:Option Int) (sl:Addr) (Q:VK),Inv X pins σ H s→RelV x v→s.heap.IsSliceOf sl vl vu .none→IsPart vl lo→IsPart vu hi→r x lo hi H Q →
  ∃ T id,typeLookup (.type T) "__getitem__" = pure (some (.builtin id))∧s.TypeIs v T∧wpAny (model X.prog X.w) X.A (getItem v (.ref sl)) (EP X pins σ Q) X.xe s
noncomputable def tSl (r:V→Option Int→Option Int→Hp→VK→Prop) (te:TE) (tl th:TO):TE:=λ σ H Q=>te σ H λ x H1=>tl σ H1 λ l H2=>th σ H2 λ u H3=>r x l u H3 Q
theorem zpb {r:V→Option Int→Option Int→Hp→VK→Prop} (hr:SlR X r) (he:PE X e te) (hl:PO X lo tl) (hu:PO X hi th):PE X (.Subscript e (.Slice lo hi none p2) pos) (tSl r te tl th) := .mk <| by
 intro pins s σ H Q I h
 refine Subscript_ (thn (he pins s σ H _ I h) λ v s1 ⟨x,H1,I1,r1,q1⟩=>?_)
 refine wpAny_Slice (thn (hl pins s1 σ H1 _ I1 q1) λ vl s2 ⟨l,H2,I2,pl,q2⟩=>thn (hu pins s2 σ H2 _ I2 q2) λ vu s3 ⟨u,H3,I3,pu,q3⟩=>?_)
 rw [evalPart_none]
 refine wpAny_pure ?_
 have I4:Inv X pins σ H3 { s3 with heap:=s3.heap.push { cls := .type "slice",data := .fields #[vl,vu,.none] } }:=I3.kept (t':=s3.toks) λ b ob q=>Heap.get?_push_of_some _ q
 obtain ⟨T,id,hT,ht,hg⟩:=hr pins { s3 with heap:=s3.heap.push { cls := .type "slice",data := .fields #[vl,vu,.none] } } σ H3 x v vl vu l u s3.heap.objs.size Q I4 r1 (Heap.IsSliceOf.new ..) pl pu q3
 show wpAny (model X.prog X.w) X.A (subscriptTail e (.Slice lo hi none p2) v (.ref s3.heap.objs.size)) (EP X pins σ Q) X.xe { s3 with heap:=s3.heap.push { cls := .type "slice",data := .fields #[vl,vu,.none] } }
 exact tail_any (ops:=[.ref s3.heap.objs.size,v]) ht hT hg (by with_unfolding_all rfl)
noncomputable def cutV (xs:List V) (lo hi:Option Int):List V:=(xs.drop (HT.sIx xs.length 0 lo)).take (HT.sIx xs.length xs.length hi - HT.sIx xs.length 0 lo)
theorem zee (xs:List V) (lo hi:Option Int):(cutV xs lo hi).length≤xs.length:=by
 unfold cutV
 rw [List.length_take,List.length_drop]
 omega
noncomputable def rSlT (K:W.Frag):V→Option Int→Option Int→Hp→VK→Prop:=λ x lo hi H Q=>∃ a xs,x = .ref a∧SqT K H a xs ∧
 ¬ (HT.sIx xs.length 0 lo=0∧HT.sIx xs.length xs.length hi=xs.length)∧∀ p,H p=none→Q (.ref p) (upd H p (.tup (cutV xs lo hi)))
theorem zlw:SlR X (rSlT X.K):=by
 intro pins s σ H x v vl vu lo hi sl Q I rx hs pl pu h
 obtain ⟨a,xs,rfl,hx,hw,q⟩:=h
 cases rx
 obtain ⟨its,r,ht,hz⟩:=I.tuple hx
 have hlen:its.toArray.size=xs.length:=by rw [List.size_toArray];exact r.length.symm
 refine ⟨"tuple",_,PyProof.Rows.slot_tuple_getitem.lookup,ht.typeIs,?_⟩
 refine HT.getItem_tuple_cut ht hs pl pu (by rw [hlen];exact hw) ?_ (by rw [hlen];exact hz)
 rw [hlen]
 refine ⟨.ref s.heap.objs.size,_,I.laid (t':=s.toks) (o := .tup (cutV xs lo hi)) (λ b ob q=>Heap.get?_push_of_some _ q) (Nat.le_refl _) ?_,rfl,q _ (I.hok.fresh (Nat.le_refl _))⟩
 exact ⟨Nat.le_trans (zee xs lo hi) hz,_,(r.drop (HT.sIx xs.length 0 lo)).take (HT.sIx xs.length xs.length hi - HT.sIx xs.length 0 lo),IsTup.new _ _⟩
noncomputable def zi0 (K:W.Frag):R2:=λ x y H Q=>∃ a b xs ys,x = .ref a∧y = .ref b∧SqT K H a xs∧SqT K H b ys∧xs≠[]∧xs.length+ys.length≤sizeLine ∧
 (ys=[]→Q (.ref a) H)∧(ys≠[]→∀ p,H p=none→Q (.ref p) (upd H p (.tup (xs++ys))))
theorem Vals.nil_iff {xs:List V} {us:List Value} (r:Vals xs us):us=[]↔xs=[]:=by
 cases r with
 | nil=>simp
 | cons _ _=>simp
theorem zou:OpR X (binaryOp .Add) (zi0 X.K):=by
 intro pins s σ H x y v u Q I rx ry h
 obtain ⟨a,b,xs,ys,rfl,rfl,ha,hb,hx,hz,q1,q2⟩:=h
 cases rx
 cases ry
 obtain ⟨its,r1,p1,_⟩:=I.tuple ha
 obtain ⟨its2,r2,p2,_⟩:=I.tuple hb
 refine HT.cat_tup p1 p2 (λ z=>hx (r1.nil_iff.mp z)) (λ z=>⟨.ref a,H,I,rfl,q1 (r2.nil_iff.mp z)⟩) (λ z=>?_) (by rw [← r1.length,← r2.length];exact hz)
 refine ⟨.ref s.heap.objs.size,_,I.laid (t':=s.toks) (o := .tup (xs++ys)) (λ b ob q=>Heap.get?_push_of_some _ q) (Nat.le_refl _) ?_,rfl,q2 (λ w=>z (r2.nil_iff.mpr w)) _ (I.hok.fresh (Nat.le_refl _))⟩
 exact ⟨by rw [List.length_append];exact hz,_,r1.append r2,IsTup.new _ _⟩
end
end L2
namespace L2
open PySem PySem.Spec PyProof.Rows
noncomputable def ixN (n:Nat) (i:Int):Option Nat:=if 0≤i then (if i<n then some i.toNat else none) else if -(n:Int)≤i then some (i+n).toNat else none
noncomputable def atI {α:Type} (xs:List α) (i:Int):Option α:=(ixN xs.length i).bind λ j=>xs[j]?
theorem zwp {n:Nat} {i:Int} {j:Nat} (h:ixN n i=some j):seqIndex? i n=some j∧j<n ∧ -(n:Int)≤i∧i<n:=by
 unfold ixN at h
 by_cases h0:0≤i
 ·rw [if_pos h0] at h
  by_cases h1:i<n
  ·rw [if_pos h1] at h
   have e:i.toNat=j:=Option.some.inj h
   exact ⟨by rw [seqIndex_of h0 h1,e],by omega,by omega,h1⟩
  ·rw [if_neg h1] at h;cases h
 ·rw [if_neg h0] at h
  by_cases h1 : -(n:Int)≤i
  ·rw [if_pos h1] at h
   have e:(i+n).toNat=j:=Option.some.inj h
   exact ⟨by rw [seqIndex_neg (by omega) h1,e],by omega,h1,by omega⟩
  ·rw [if_neg h1] at h;cases h
theorem zuq {α:Type} {xs:List α} {i:Int} {v:α} (h:atI xs i=some v):∃ j,seqIndex? i xs.length=some j∧xs[j]? = some v∧j<xs.length ∧ -(xs.length:Int)≤i∧i<xs.length:=by
 unfold atI at h
 cases e:ixN xs.length i with
 | none=>rw [e] at h;cases h
 | some j =>
  rw [e] at h
  obtain ⟨h1,h2,h3,h4⟩:=zwp e
  exact ⟨j,h1,h,h2,h3,h4⟩
theorem zoi {α:Type} {xs:List α} {j:Nat} {v:α} (h:xs[j]? = some v):atI xs (j:Int)=some v:=by
 have hj:j<xs.length:=(List.getElem?_eq_some_iff.mp h).1
 have e:ixN xs.length (j:Int)=some j:=by
  unfold ixN
  rw [if_pos (by omega),if_pos (by omega)];simp
 unfold atI;rw [e];exact h
noncomputable def zjv (b:Expr):Prop:=∀ o i,subscripted b false o i=operate [o,i] (getItem o i)
noncomputable def IxR (X:Cx) (r:R2):Prop :=
 ∀ (value slice:Expr) (pins:List (Addr×Obj)) (s:Shared) (σ:St) (H:Hp) (x y:V) (v u:Value) (Q:VK),Inv X pins σ H s→RelV x v→RelV y u→r x y H Q →
  subscripted slice false v u=operate [v,u] (getItem v u)→wpAny (model X.prog X.w) X.A (subscriptTail value slice v u) (EP X pins σ Q) X.xe s
noncomputable def MtR (X:Cx) (id:String) (r:V→List V→Hp→VK→Prop):Prop :=
 ∀ (pins:List (Addr×Obj)) (s:Shared) (σ:St) (H:Hp) (x:V) (xs:List V) (v:Value) (us:List Value) (Q:VK),Inv X pins σ H s→RelV x v→Vals xs us→r x xs H Q →
  wpAny (model X.prog X.w) X.A (call (.builtin id) (v::us)) (EP X pins σ Q) X.xe s
section
variable {X:Cx} {a b:Expr} {ta tb:TE} {pos:Pos}
theorem zib {r:R2} (hr:IxR X r) (ha:PE X a ta) (hb:PE X b tb) (hs:zjv b):PE X (.Subscript a b pos) (tOp r ta tb) := .mk <| by
 intro pins s σ H Q I h
 exact Subscript_ (binT ha hb I h λ v u s2 x y H2 I2 rx ry q=>hr a b pins s2 σ H2 x y v u Q I2 rx ry q (hs _ _))
noncomputable def rIxL (K:W.Frag):R2:=λ x y H Q=>∃ p xs i v,x = .ref p∧y = .int i∧SqL K H p xs∧atI xs i=some v∧Q v H
noncomputable def rIxT (K:W.Frag):R2:=λ x y H Q=>∃ p xs i v,x = .ref p∧y = .int i∧SqT K H p xs∧atI xs i=some v∧Q v H
theorem zme:IxR X (rIxL X.K):=by
 intro value slice pins s σ H x y v u Q I rx ry h hs
 obtain ⟨p,xs,i,z,rfl,rfl,hq,he,q⟩:=h
 cases rx
 obtain ⟨t,rfl⟩:=ry
 obtain ⟨its,r,pl,hz⟩:=I.list hq
 obtain ⟨j,h1,h2,h3,h4,h5⟩:=zuq he
 obtain ⟨w,ew,rw'⟩:=r.get h2
 have hl:=r.length
 have hn:=zio
 have fin:EP X pins σ Q w s:=⟨z,H,I,rw',q⟩
 by_cases h0:0≤i
 ·have hj:i.toNat=j:=by
   rw [seqIndex_of h0 h5] at h1
   exact Option.some.inj h1
  exact item_listR pl.isList h0 (by omega) (by rw [hj];simpa using ew) fin hs
 ·have hj:(i+(its.toArray.size:Int)).toNat=j:=by
   rw [seqIndex_neg (by omega) h4] at h1
   rw [List.size_toArray,← hl]
   exact Option.some.inj h1
  exact subscriptTail_builtinR (x:=w) pl.isList.typeIs slot_list_getitem.lookup
   (wpAny_getItem_list_neg (Q:=λ r s'=>r=w∧EP X pins σ Q r s') pl.isList (by omega) (by rw [List.size_toArray] <;> omega) (by omega) (by rw [hj];simpa using ew) ⟨rfl,fin⟩) hs
theorem zxa:IxR X (rIxT X.K):=by
 intro value slice pins s σ H x y v u Q I rx ry h hs
 obtain ⟨p,xs,i,z,rfl,rfl,hq,he,q⟩:=h
 cases rx
 obtain ⟨t,rfl⟩:=ry
 obtain ⟨its,r,pl,hz⟩:=I.tuple hq
 obtain ⟨j,h1,h2,h3,h4,h5⟩:=zuq he
 obtain ⟨w,ew,rw'⟩:=r.get h2
 have hl:=r.length
 have hn:=zio
 have fin:EP X pins σ Q w s:=⟨z,H,I,rw',q⟩
 exact subscriptTail_builtinR (x:=w) pl.typeIs slot_tuple_getitem.lookup
  (getItem_tuple (j:=j) (Q:=λ r s'=>r=w∧EP X pins σ Q r s') pl (by omega) (by omega) (by rw [List.size_toArray,← hl];exact h1) (by simpa using ew) ⟨rfl,fin⟩) hs
theorem zul (its:List Value) (n j:Nat) (u:Value):Obj.mapSeq (·.setIfInBounds j u) { cls := .type "list",data := .seq its.toArray n }={ cls := .type "list",data := .seq (its.set j u).toArray n }:=by
 simp [Obj.mapSeq]
theorem Inv.lst {pins:List (Addr×Obj)} {σ:St} {H:Hp} {s:Shared} {p:Addr} {xs:List V} (I:Inv X pins σ H s) (h:H p=some (.lst xs)) :
  ∃ (its:List Value) (n:Nat),Vals xs its∧s.heap.get? p=some { cls := .type "list",data := .seq its.toArray n }∧xs.length≤sizeLine:=by
 obtain ⟨z,its,n,r,e⟩:=I.hok p _ h
 exact ⟨its,n,r,e,z⟩
theorem Inv.lstUpd {pins:List (Addr×Obj)} {σ:St} {H:Hp} {s:Shared} {p:Addr} {xs ys:List V} {its its':List Value} {n n':Nat} {f:Obj→Obj} (I:Inv X pins σ H s) (h:H p=some (.lst xs))
  (ho:s.heap.get? p=some { cls := .type "list",data := .seq its.toArray n }) (hf:f { cls := .type "list",data := .seq its.toArray n }={ cls := .type "list",data := .seq its'.toArray n' }) (r:Vals ys its') (hz:ys.length≤sizeLine) (t:Nat) :
  Inv X pins σ (upd H p (.lst ys)) { s with heap:=s.heap.update p f,toks:=t }:=by
 have e:(s.heap.update p f).get? p=some { cls := .type "list",data := .seq its'.toArray n' }:=by
  rw [Heap.get?_update_self f ho (by rw [hf] <;> rfl),hf]
 refine I.write (x:=p) (e:=p) (by rw [h];trivial) (.inl rfl) (λ b u hb q=>(Heap.get?_update_other _ _ (Ne.symm hb)).trans q) ⟨_,e⟩ ?_
 exact ⟨hz,its',n',r,e⟩
noncomputable def ze0:V→V→V→Hp→(Hp→Prop)→Prop:=λ o i v H Q=>∃ p xs k j,o = .ref p∧i = .int k∧H p=some (.lst xs)∧ixN xs.length k=some j∧Q (upd H p (.lst (xs.set j v)))
theorem zns:PSet X ze0:=by
 intro pins s σ H o i v ov iv u Q I ro ri rv h
 obtain ⟨p,xs,k,j,rfl,rfl,hp,hj,q⟩:=h
 cases ro
 obtain ⟨t,rfl⟩:=ri
 obtain ⟨its,n,r,ho,hz⟩:=I.lst hp
 obtain ⟨h1,h2,h3,h4⟩:=zwp hj
 have hl:=r.length
 have hn:=zio
 have I':Inv X pins σ (upd H p (.lst (xs.set j v))) { s with heap:=s.heap.update p (Obj.mapSeq (·.setIfInBounds j u)) } :=
  I.lstUpd hp ho (zul its n j u) (r.set rv j) (by rw [List.length_set];exact hz) s.toks
 by_cases h0:0≤k
 ·have hk:k.toNat=j:=by
   rw [seqIndex_of h0 h4] at h1
   exact Option.some.inj h1
  exact W.ki_setAt ho h0 (by omega) (by rw [List.size_toArray,← hl];exact h4) (by rw [hk];exact ⟨_,I',q⟩)
 ·have hk:(k+(its.toArray.size:Int)).toNat=j:=by
   rw [seqIndex_neg (by omega) h3] at h1
   rw [List.size_toArray,← hl]
   exact Option.some.inj h1
  exact W.ki_setBack ho (by omega) (by rw [List.size_toArray,← hl];exact h3) (by omega) (by rw [hk];exact ⟨_,I',q⟩)
theorem zph (lo hi:Option Int) (n:Nat):(sliceBounds lo hi none n).1=((HT.sIx n 0 lo:Nat):Int)∧(sliceBounds lo hi none n).2.1=((HT.sIx n n hi:Nat):Int)∧(sliceBounds lo hi none n).2.2=1:=by
 refine ⟨?_,?_,rfl⟩
 ·cases lo with
  | none=>simp [sliceBounds,HT.sIx]
  | some i =>
   simp only [sliceBounds,HT.sIx,Option.getD_none,show (1:Int) > 0 by decide,if_true]
   by_cases h:i<0
   ·simp only [h,if_true] <;> omega
   ·simp only [h,if_false] <;> omega
 ·cases hi with
  | none=>simp [sliceBounds,HT.sIx]
  | some i =>
   simp only [sliceBounds,HT.sIx,Option.getD_none,show (1:Int) > 0 by decide,if_true]
   by_cases h:i<0
   ·simp only [h,if_true] <;> omega
   ·simp only [h,if_false] <;> omega
theorem zvf (its:List Value) (lo hi:Option Int):slicePick its.toArray lo hi none=((its.drop (HT.sIx its.length 0 lo)).take (HT.sIx its.length its.length hi - HT.sIx its.length 0 lo)).toArray:=by
 obtain ⟨h1,h2,h3⟩:=zph lo hi its.toArray.size
 unfold slicePick
 rw [h1,h2,h3]
 simp only [sliceRange_one,pick_run,List.size_toArray] <;> rfl
noncomputable def rSlL (K:W.Frag):V→Option Int→Option Int→Hp→VK→Prop:=λ x lo hi H Q=>∃ a xs,x = .ref a∧SqL K H a xs∧∀ p,H p=none→Q (.ref p) (upd H p (.lst (cutV xs lo hi)))
theorem zik:SlR X (rSlL X.K):=by
 intro pins s σ H x v vl vu lo hi sl Q I rx hs pl pu h
 obtain ⟨a,xs,rfl,hx,q⟩:=h
 cases rx
 obtain ⟨its,r,ht,hz⟩:=I.list hx
 have hlen:=r.length
 refine ⟨"list",_,slot_list_getitem.lookup,ht.isList.typeIs,?_⟩
 refine wpAny_getItem_list_slice ht.isList hs pl pu .none (by simp) ?_ (by rw [List.size_toArray] <;> omega)
 rw [zvf,← hlen]
 refine ⟨.ref s.heap.objs.size,_,I.laid (t':=s.toks) (o := .lst (cutV xs lo hi)) (λ b ob q=>Heap.get?_push_of_some _ q) (Nat.le_refl _) ?_,rfl,q _ (I.hok.fresh (Nat.le_refl _))⟩
 exact ⟨Nat.le_trans (zee xs lo hi) hz,_,0,(r.drop (HT.sIx xs.length 0 lo)).take (HT.sIx xs.length xs.length hi - HT.sIx xs.length 0 lo),Heap.get?_push_size _ rfl⟩
noncomputable def ztq:V→Bool
 | .non=>true
 | .bl _=>true
 | .int _=>true
 | .str _=>true
 | _=>false
noncomputable def eqV:V→V→Bool
 | .non,.non=>true
 | .bl a,.bl b=>a == b
 | .bl a,.int b=>(if a then 1 else 0) == b
 | .int a,.bl b=>a == (if b then 1 else 0)
 | .int a,.int b=>a == b
 | .str a,.str b=>a == b
 | _,_=>false
theorem zjw {A:Around} {s:Shared} {y x:V} {u v:Value} (ry:RelV y u) (rx:RelV x v) (fy:ztq y=true) (fx:ztq x=true):SeqAt.EqAt A s u v (eqV y x):=by
 cases y with
 | non =>
  cases ry
  cases x with
  | non=>cases rx;exact SeqAt.EqAt.same _
  | bl b=>cases rx;exact SeqAt.EqAt.none_bool b
  | int b=>obtain ⟨t,rfl⟩:=rx;exact SeqAt.EqAt.none_int b t
  | str b=>obtain ⟨t,rfl⟩:=rx;exact SeqAt.EqAt.none_str b t
  | _=>exact absurd (show false=true from fx) Bool.false_ne_true
 | bl a =>
  cases ry
  cases x with
  | non=>cases rx;exact SeqAt.EqAt.bool_none a
  | bl b=>cases rx;exact SeqAt.EqAt.bool_bool a b
  | int b=>obtain ⟨t,rfl⟩:=rx;exact SeqAt.EqAt.bool_int a b t
  | str b=>obtain ⟨t,rfl⟩:=rx;exact SeqAt.EqAt.bool_str a b t
  | _=>exact absurd (show false=true from fx) Bool.false_ne_true
 | int a =>
  obtain ⟨t',rfl⟩:=ry
  cases x with
  | non=>cases rx;exact SeqAt.EqAt.int_none a t'
  | bl b=>cases rx;exact SeqAt.EqAt.int_bool a t' b
  | int b=>obtain ⟨t,rfl⟩:=rx;exact SeqAt.EqAt.int_int a t' b t
  | str b=>obtain ⟨t,rfl⟩:=rx;exact SeqAt.EqAt.int_str a t' b t
  | _=>exact absurd (show false=true from fx) Bool.false_ne_true
 | str a =>
  obtain ⟨t',rfl⟩:=ry
  cases x with
  | non=>cases rx;exact SeqAt.EqAt.str_none a t'
  | bl b=>cases rx;exact SeqAt.EqAt.str_bool a t' b
  | int b=>obtain ⟨t,rfl⟩:=rx;exact SeqAt.EqAt.str_int a t' b t
  | str b=>obtain ⟨t,rfl⟩:=rx;exact SeqAt.EqAt.str_str a t' b t
  | _=>exact absurd (show false=true from fx) Bool.false_ne_true
 | _=>exact absurd (show false=true from fy) Bool.false_ne_true
noncomputable def eqU (x:V) (u:Value):Bool:=match u with
 | .none=>eqV .non x
 | .bool b=>eqV (.bl b) x
 | .int i _=>eqV (.int i) x
 | .str z _=>eqV (.str z) x
 | _=>false
theorem zot {x y:V} {u:Value} (r:RelV y u) (f:ztq y=true):eqU x u=eqV y x:=by
 cases y with
 | non=>cases r;rfl
 | bl b=>cases r;rfl
 | int i=>obtain ⟨t,rfl⟩:=r;rfl
 | str z=>obtain ⟨t,rfl⟩:=r;rfl
 | _=>exact absurd (show false=true from f) Bool.false_ne_true
theorem zem {x:V}:∀ {xs:List V} {us:List Value},Vals xs us→xs.all ztq=true→us.any (eqU x)=xs.any λ y=>eqV y x
 | _,_,.nil,_=>rfl
 | y::xs,u::us,.cons r t,f=>by
  rw [List.all_cons,Bool.and_eq_true] at f
  rw [List.any_cons,List.any_cons,zot r f.1,zem t f.2]
theorem zdh {A:Around} {s:Shared} {x:V} {v:Value} (rx:RelV x v) (fx:ztq x=true):∀ {xs:List V} {us:List Value},Vals xs us→xs.all ztq=true→∀ u∈us,SeqAt.EqAt A s u v (eqU x u)
 | _,_,.nil,_=>λ u hu=>by cases hu
 | y::xs,u::us,.cons r t,f=>λ u' hu=>by
  rw [List.all_cons,Bool.and_eq_true] at f
  rcases List.mem_cons.mp hu with rfl | hu
  ·rw [zot r f.1];exact zjw r rx f.1 fx
  ·exact zdh rx fx t f.2 u' hu
noncomputable def inV (x:V) (xs:List V):Bool:=xs.any λ y=>eqV y x
noncomputable def rIn (K:W.Frag) (neg:Bool):R2:=λ x y H Q=>∃ p xs,y = .ref p∧(SqL K H p xs ∨ SqT K H p xs)∧ztq x=true∧xs.all ztq=true∧Q (.bl (if neg then !inV x xs else inV x xs)) H
theorem zth:OpR X (compareOp .NotIn) (rIn X.K true):=by
 intro pins s σ H x y v u Q I rx ry h
 obtain ⟨p,xs,rfl,hq,fx,fs,q⟩:=h
 cases ry
 rcases hq with hq | hq
 ·obtain ⟨its,r,pl,hz⟩:=I.list hq
  refine SeqAt.notIn_listAt (eqU x) pl.isList (λ w hw=>zdh rx fx r fs w (by simpa using hw)) ⟨.bl _,H,I,rfl,?_⟩
  rw [show its.toArray.any (eqU x)=its.any (eqU x) by simp,zem r fs]
  exact q
 ·obtain ⟨its,r,pl,hz⟩:=I.tuple hq
  refine SeqAt.notIn_tupleAt (eqU x) pl (λ w hw=>zdh rx fx r fs w (by simpa using hw)) ⟨.bl _,H,I,rfl,?_⟩
  rw [show its.toArray.any (eqU x)=its.any (eqU x) by simp,zem r fs]
  exact q
theorem zka:zrj X (.builtin "len") (λ xs H Q=>∃ p ys,xs=[.ref p]∧(SqL X.K H p ys ∨ SqT X.K H p ys)∧Q (.int ys.length) H):=by
 intro pins s σ H xs us Q I r h
 obtain ⟨p,ys,rfl,hq,q⟩:=h
 obtain ⟨u,rfl,rx⟩:=zil r
 cases rx
 have hn:=zio
 rcases hq with hq | hq
 ·obtain ⟨its,r',pl,hz⟩:=I.list hq
  have hlen:=r'.length
  exact Calls.call_len_list pl.isList (by simp only [List.size_toArray] <;> omega) ⟨.int ys.length,H,I.tok _,⟨s.toks+1,by rw [List.size_toArray,hlen]⟩,q⟩
 ·obtain ⟨its,r',pl,hz⟩:=I.tuple hq
  have hlen:=r'.length
  exact len_tuple pl (by simp only [List.size_toArray] <;> omega) ⟨.int ys.length,H,I.tok _,⟨s.toks+1,by rw [List.size_toArray,hlen]⟩,q⟩
theorem zbd:zrj X (.type "list") (λ xs H Q=>∃ p ys,xs=[.ref p]∧(SqL X.K H p ys ∨ SqT X.K H p ys)∧∀ l,H l=none→Q (.ref l) (upd H l (.lst ys))):=by
 intro pins s σ H xs us Q I r h
 obtain ⟨p,ys,rfl,hq,q⟩:=h
 obtain ⟨u,rfl,rx⟩:=zil r
 cases rx
 have fin:∀ (its:List Value),Vals ys its→ys.length≤sizeLine→∀ (h':Heap) (c':Nat),(∀ b o',s.heap.get? b=some o'→h'.get? b=some o') →
   h'.get? s.heap.objs.size=some { cls := .type "list",dict:=none,data := .seq its.toArray c',slots := #[] }→EP X pins σ Q (.ref s.heap.objs.size) { s with heap:=h' }:=λ its r' hz h' c' kp e =>
  ⟨.ref s.heap.objs.size,_,I.laid (t':=s.toks) kp (Nat.le_refl _) (show ObjOk X.prog X.w _ h' _ (.lst ys) from ⟨hz,its,c',r',e⟩),rfl,q _ (I.hok.fresh (Nat.le_refl _))⟩
 rcases hq with hq | hq
 ·obtain ⟨its,r',pl,hz⟩:=I.list hq
  have hlen:=r'.length
  obtain ⟨o,ho,hc,n,hd⟩:=pl.isList
  exact call_list_seq p (.inl rfl) ho hc hd (λ h' c' kp e=>fin its r' hz h' c' kp e) (by simp only [List.size_toArray] <;> omega)
 ·obtain ⟨its,r',pl,hz⟩:=I.tuple hq
  have hlen:=r'.length
  obtain ⟨o,ho,hc,n,hd⟩:=pl
  exact call_list_seq p (.inr rfl) ho hc hd (λ h' c' kp e=>fin its r' hz h' c' kp e) (by simp only [List.size_toArray] <;> omega)
theorem zeg:zrj X (.type "tuple") (λ xs H Q=>∃ p ys,xs=[.ref p]∧((SqL X.K H p ys∧∀ l,H l=none→Q (.ref l) (upd H l (.tup ys))) ∨ (SqT X.K H p ys∧Q (.ref p) H))):=by
 intro pins s σ H xs us Q I r h
 obtain ⟨p,ys,rfl,h⟩:=h
 obtain ⟨u,rfl,rx⟩:=zil r
 cases rx
 rcases h with ⟨hq,q⟩ | ⟨hq,q⟩
 ·obtain ⟨its,r',pl,hz⟩:=I.list hq
  have hlen:=r'.length
  refine call_tuple_list pl.isList (λ h' kp=>?_) (by simp only [List.size_toArray] <;> omega)
  have I1:Inv X pins σ H { s with heap:=h' }:=I.kept (t':=s.toks) kp
  have I2:Inv X pins σ (upd H h'.objs.size (.tup ys)) { s with heap:=h'.push { cls := .type "tuple",data := .seq its.toArray } } :=
   I1.laid (t':=s.toks) (λ b o e=>Heap.get?_push_of_some _ e) (Nat.le_refl _) (show ObjOk X.prog X.w _ _ _ (.tup ys) from ⟨hz,its,r',IsTup.new _ _⟩)
  exact ⟨.ref h'.objs.size,_,I2,rfl,q _ (I1.hok.fresh (Nat.le_refl _))⟩
 ·obtain ⟨its,r',pl,hz⟩:=I.tuple hq
  exact call_tuple_same pl ⟨.ref p,H,I,rfl,q⟩
noncomputable def tyV (K:W.Frag) (T:String) (x:V) (H:Hp):Prop:=match x with
 | .str _=>T = "str"
 | .int _=>T = "int"
 | .ref p=>(T = "list" ∧ ∃ xs,SqL K H p xs) ∨ (T = "tuple" ∧ ∃ o,K.lookup p=some o∧o.cls = .type "tuple" ∧ o.dict=none) ∨
   (T = "dict" ∧ ((∃ kvs,H p=some (.dK kvs)) ∨ ∃ kvs,H p=some (.dT kvs))) ∨ (T = "set" ∧ ∃ S n,H p=some (.set S n))
 | _=>False
theorem zfu {pins:List (Addr×Obj)} {σ:St} {H:Hp} {s:Shared} {T:String} {x:V} {v:Value} (I:Inv X pins σ H s) (r:RelV x v) (ty:tyV X.K T x H) :
  s.TypeIs v T∧∀ a,v = .ref a→∃ ob,s.heap.get? a=some ob∧ob.dict=none:=by
 cases x with
 | str z =>
  obtain ⟨t,rfl⟩:=r
  cases (show T = "str" from ty)
  exact ⟨typeIs_str s z t,λ _ e=>nomatch e⟩
 | int i =>
  obtain ⟨t,rfl⟩:=r
  cases (show T = "int" from ty)
  exact ⟨typeIs_int s i t,λ _ e=>nomatch e⟩
 | ref p =>
  cases r
  rcases ty with ⟨rfl,xs,hq⟩ | ⟨rfl,o,hk,hc,hd⟩ | ⟨rfl,hk⟩ | ⟨rfl,S,n,hk⟩
  ·obtain ⟨its,_,pl,_⟩:=I.list hq
   refine ⟨pl.isList.typeIs,λ a e=>?_⟩
   cases e
   obtain ⟨o,n,e,c,hd,_⟩:=pl
   exact ⟨o,e,hd⟩
  ·refine ⟨⟨o,I.kIn p o hk,hc⟩,λ a e=>?_⟩
   cases e
   exact ⟨o,I.kIn _ o hk,hd⟩
  ·have z:∃ o,s.heap.get? p=some o∧o.ExactDict:=by
    rcases hk with ⟨kvs,hk⟩ | ⟨kvs,hk⟩
    ·obtain ⟨_,_,_,_,o,_,_,e,ex,_⟩:=I.hok p _ hk
     exact ⟨o,e,ex⟩
    ·obtain ⟨_,_,_,_,o,_,_,e,ex,_⟩:=I.hok p _ hk
     exact ⟨o,e,ex⟩
   obtain ⟨o,e,ex⟩:=z
   refine ⟨⟨o,e,ex.1⟩,λ a e2=>?_⟩
   cases e2
   exact ⟨o,e,ex.2.1⟩
  ·obtain ⟨o,_,_,_,e,ex,_⟩:=I.hok p _ hk
   refine ⟨⟨o,e,ex.1⟩,λ a e2=>?_⟩
   cases e2
   exact ⟨o,e,ex.2.1⟩
 | _=>exact False.elim ty
noncomputable def tBM0 (K:W.Frag) (T:String) (r:V→List V→Hp→VK→Prop) (to:TE):TE:=λ σ H Q=>to σ H λ x H1=>tyV K T x H1∧r x [] H1 Q
noncomputable def tBM (K:W.Frag) (T:String) (r:V→List V→Hp→VK→Prop) (to:TE) (t:TA):TE:=λ σ H Q=>to σ H λ x H1=>tyV K T x H1∧t σ H1 λ xs H2=>r x xs H2 Q
variable {o e:Expr} {es:List Expr} {to:TE} {t:TA} {name:Str} {apos cpos:Pos} {T id:String} {r:V→List V→Hp→VK→Prop}
theorem zdw (pa:PlainAttrs T) (slot:Slot T name id) (hty:typeOf (.builtin id)=pure (.type "method_descriptor")) (hm:MtR X id r) (ho:PE X o to)
  (hbase:attributeBase o name X.env (eval o X.env)=eval o X.env:=by rfl) (hline:(apos.endLine == cpos.line)=true:=by rfl):PE X (.Call (.Attribute o name apos) [] [] cpos) (tBM0 X.K T r to) := .mk <| by
 intro pins s σ H Q I h
 refine wpAny_Call_method0_late hbase hline (thn (ho pins s σ H _ I h) λ v s1 ⟨x,H1,I1,r1,ty,q1⟩=>?_)
 obtain ⟨h1,h2⟩:=zfu I1 r1 ty
 exact ⟨T,id,pa,slot,hty,h1,h2,Calls.callWith_builtin rfl (PySem.evalArgs_none (hm pins s1 σ H1 x [] v [] Q I1 r1 .nil q1))⟩
theorem zez (pa:PlainAttrs T) (slot:Slot T name id) (hty:typeOf (.builtin id)=pure (.type "method_descriptor")) (hm:MtR X id r) (ho:PE X o to) (ha:PA X (e::es) t)
  (hbase:attributeBase o name X.env (eval o X.env)=eval o X.env:=by rfl)
  (hfew:((backTo cpos (starEach (e::es) X.env)).all (λ x => !x.1) && (backToKw cpos (keywordEach [] X.env)).all (λ x=>x.1.isSome)
   && decide ((e::es).length+([]:List Keyword).length+(if ([]:List Keyword).isEmpty then 0 else 1)<30))=true:=by rfl)
  (hline:(apos.endLine == cpos.line)=true:=by rfl) (hs:starEach (e::es) X.env=(false,eval e X.env)::starEach es X.env:=by rfl) (hplain:(backTo cpos (starEach es X.env)).any (·.1)=false:=by rfl) :
  PE X (.Call (.Attribute o name apos) (e::es) [] cpos) (tBM X.K T r to t) := .mk <| by
 intro pins s σ H Q I h
 refine wpAny_Call_method_late hbase hfew hline rfl (thn (ho pins s σ H _ I h) λ v s1 ⟨x,H1,I1,r1,ty,q1⟩=>?_)
 obtain ⟨h1,h2⟩:=zfu I1 r1 ty
 refine ⟨T,id,pa,slot,hty,h1,h2,?_⟩
 have hA:=ha cpos pins s1 σ H1 _ I1 q1
 rw [hs] at hA ⊢
 refine Calls.callWith_builtin (by show (false || (backTo cpos (starEach es X.env)).any (·.1))=false;rw [hplain] <;> rfl) (Calls.evalArgs_plain ?_)
 exact thn hA λ us s2 ⟨vs,H2,I2,r2,q2⟩=>hm pins s2 σ H2 x vs v us Q I2 r1 r2 q2
/- xs.append(e),list.index on a module's tuple .. are MtR facts of 06m -/
end
end L2
namespace L2
open PySem PySem.Spec PyProof.Rows
noncomputable def MtM (X:Cx) (id:String) (r:V→List V→Hp→VK→Prop):Prop :=
 ∀ (pins:List (Addr×Obj)) (s:Shared) (σ:St) (H:Hp) (x:V) (xs:List V) (v:Value) (us:List Value) (Q:VK),Inv X pins σ H s→RelV x v→Vals xs us→r x xs H Q →
  wpAny (model X.prog X.w) X.A (call (.builtin id) (v::us)) (EP X pins σ Q) X.xe s
theorem Vals.one:∀ {x:V} {us:List Value},Vals [x] us→∃ u,us=[u]∧RelV x u
 | _,_,.cons r .nil=>⟨_,rfl,r⟩
theorem Vals.two:∀ {x y:V} {us:List Value},Vals [x,y] us→∃ u v,us=[u,v]∧RelV x u∧RelV y v
 | _,_,_,.cons r (.cons q .nil)=>⟨_,_,rfl,r,q⟩
theorem Vals.zero:∀ {us:List Value},Vals [] us→us=[]
 | _,.nil=>rfl
section
variable {X:Cx} {pins:List (Addr×Obj)} {σ:St} {H:Hp} {s:Shared} {l b:Addr} {xs ys zs:List V}
theorem Inv.lset {its its':List Value} {n:Nat} {f:Array Value→Array Value} {t':Nat} (I:Inv X pins σ H s) (hH:H l=some (.lst xs))
  (e:s.heap.get? l=some { cls := .type "list",data := .seq its.toArray n }) (hf:f its.toArray=its'.toArray) (hv:Vals ys its') (hz:ys.length≤sizeLine) :
  Inv X pins σ (upd H l (.lst ys)) { s with heap:=s.heap.update l (Obj.mapSeq f),toks:=t' }:=by
 have q:=PySem.IsL.update e f
 rw [hf] at q
 refine I.write (x:=l) (e:=l) (by rw [hH];exact trivial) (.inl rfl) (λ b' u hb hu=>(Heap.get?_update_other s.heap (Obj.mapSeq f) (Ne.symm hb)).trans hu) ⟨_,q⟩ ?_
 exact ⟨hz,its',_,hv,q⟩
theorem Inv.lnew {its:List Value} {t':Nat} (I:Inv X pins σ H s) (hv:Vals ys its) (hz:ys.length≤sizeLine) :
  Inv X pins σ (upd H s.heap.objs.size (.lst ys)) { s with heap:=s.heap.push { cls := .type "list",data := .seq its.toArray },toks:=t' } :=
 I.laid (λ _ _ q=>Heap.get?_push_of_some _ q) (Nat.le_refl _) ⟨hz,its,0,hv,Heap.get?_push_size _ rfl⟩
theorem Inv.fresh (I:Inv X pins σ H s):H s.heap.objs.size=none:=I.hok.fresh (Nat.le_refl _)
theorem Inv.lstM (I:Inv X pins σ H s) (hH:H l=some (.lst xs)):xs.length≤sizeLine∧∃ (its:List Value) (n:Nat),Vals xs its∧xs.length=its.length∧s.heap.get? l=some { cls := .type "list",data := .seq its.toArray n }:=by
 obtain ⟨z,its,n,r,e⟩:=I.hok l _ hH
 exact ⟨z,its,n,r,r.length,e⟩
end
section
variable {X:Cx}
noncomputable def znv:V→List V→Hp→VK→Prop:=λ x vs H Q=>∃ l xs y,x = .ref l∧vs=[y]∧H l=some (.lst xs)∧xs.length<sizeLine∧Q .non (upd H l (.lst (xs++[y])))
theorem zad:MtM X "list.append" znv:=by
 intro pins s σ H x vs v us Q I rx rv h
 obtain ⟨l,xs,y,rfl,rfl,hH,hz,q⟩:=h
 cases rx
 obtain ⟨u,rfl,ru⟩:=rv.one
 obtain ⟨z,its,n,r,hl,e⟩:=I.lstM hH
 refine call_meets F.slot_list_append ⟨_,e,rfl⟩ F.entry_list_append (F.args_list_append_2 _ _) (PySem.list_append l its.toArray n u (by rw [List.size_toArray];omega)) ⟨e,?_⟩
 refine ⟨.non,_,I.lset (its':=its++[u]) hH e (by simp) (r.append (.cons ru .nil)) ?_,rfl,q⟩
 rw [List.length_append,List.length_singleton]
 omega
noncomputable def zmy:V→List V→Hp→VK→Prop:=λ x vs H Q=>∃ l xs,x = .ref l∧vs=[]∧H l=some (.lst xs)∧Q .non (upd H l (.lst []))
theorem zwr:MtM X "list.clear" zmy:=by
 intro pins s σ H x vs v us Q I rx rv h
 obtain ⟨l,xs,rfl,rfl,hH,q⟩:=h
 cases rx
 have hus:=rv.zero
 subst hus
 obtain ⟨z,its,n,r,hl,e⟩:=I.lstM hH
 refine call_meets F.slot_list_clear ⟨_,e,rfl⟩ F.entry_list_clear (F.args_list_clear_1 _) (AutoSeq1.list_clear_list_0 l its.toArray n (by rw [List.size_toArray];omega)) ⟨e,?_⟩
 exact ⟨.non,_,I.lset (its':=[]) (ys:=[]) hH e rfl .nil (Nat.zero_le _),rfl,q⟩
noncomputable def rCat:R2:=λ x y H Q=>∃ l b xs zs,x = .ref l∧y = .ref b∧H l=some (.lst xs)∧H b=some (.lst zs)∧xs.length+zs.length≤sizeLine∧∀ p,H p=none→Q (.ref p) (upd H p (.lst (xs++zs)))
theorem zgp:OpR X (binaryOp .Add) rCat:=by
 intro pins s σ H x y v u Q I rx ry h
 obtain ⟨l,b,xs,zs,rfl,rfl,hH,hB,hz,q⟩:=h
 cases rx
 cases ry
 obtain ⟨z,its,n,r,hl,e⟩:=I.lstM hH
 obtain ⟨z2,its2,n2,r2,hl2,e2⟩:=I.lstM hB
 refine PySem.P.add_list e e2 ?_ (by rw [List.size_toArray,List.size_toArray];omega)
 have ea:its.toArray++its2.toArray=(its++its2).toArray:=by simp
 rw [ea]
 exact ⟨.ref _,_,I.lnew (t':=s.toks) (r.append r2) (by rw [List.length_append];omega),rfl,q _ I.fresh⟩
end
section
variable {prog:Program} {w:World} {A:Around} {E:Value→Shared→Prop} {s:Shared}
end
section
variable {X:Cx}
end
end L2
namespace Att
open PySem PySem.W PySem.Calls PyProof.Rows
theorem zce {P:Params} {h:Heap}:∀ (ns:List Int) (vs:List Value),WellAll P h vs (ns.map WData.int)→IntsAre vs ns:=by
 intro ns
 induction ns with
 | nil =>
  intro vs w
  rw [List.map_nil] at w
  cases w
  exact .nil
 | cons n ns ih =>
  intro vs w
  rw [List.map_cons] at w
  cases w with
  | cons a b =>
   cases a
   exact .cons _ _ (ih _ b)
theorem zho {l:OpenLaw} {n:Nat} (hn:l.most=some n) {P:Params} {h:Heap} {args:List WData} {vals:List Value}
  (hpre:l.row.toRowW.claim.pre args=true) (hwl:WellAll P h vals args) :
  ∃ a vs ns,vals=[Value.ref a]∧args=[WData.list (ns.map WData.int)]∧h.get? a=some { cls := .type "list",data := .seq vs.toArray }∧IntsAre vs ns∧ns.length≤n:=by
 have hsh:WShape.hasAll [] args [.list .int]=true:=(pre_splitW hpre).1
 have hc:l.pre.holds [] { args:=args }=true:=(pre_splitW hpre).2
 obtain ⟨d,r,rfl,h1,h2⟩:=hasAllW_cons hsh
 obtain rfl:=hasAllW_nil h2
 obtain ⟨xs,rfl,h3⟩:=hasW_list h1
 obtain ⟨ns,rfl⟩:=items_int h3
 have hlen:ns.length≤n:=by
  unfold OpenLaw.pre at hc
  have h4:(WTm.not (.lt (.lit (.int (n:Int))) (.len (.arg 0)))).holds [] { args:=[.list (ns.map .int)] }=true:=by
   have h4:=(holds_andW hc).1
   rw [hn] at h4
   exact h4
  have h5:=condW_of h4 (w_not (w_lt w_lit (w_len_list (w_arg rfl))))
  rw [List.length_map] at h5
  refine Nat.le_of_not_lt λ q=>?_
  have q':(n:Int)<((ns.length:Nat):Int):=by omega
  first
   | (rw [decide_eq_true q'] at h5;exact absurd h5 (by decide))
   | (simp at h5;omega)
 cases hwl with
 | cons w1 w2 =>
  cases w2
  cases w1 with
  | list ho hall=>exact ⟨_,_,ns,rfl,rfl,ho,zce ns _ hall,hlen⟩
theorem zeo (l:OpenLaw) (args:List WData):l.row.toRowW.claim.post args (.bool true) args=true :=
 postW_of (r:=l.row.toRowW) (X:=(true == true))
  (show WShape.has [] (.bool true) .bool=true by first | rfl | decide | simp [WShape.has,WShape.arms,WShape.armsAll])
  (show (WTm.eq .res (.lit (.bool true))).value [] { args:=args,res:=some (.bool true),after:=args }=some (.bool (true == true)) from w_eq_bool (w_res rfl) w_lit) rfl
theorem attach_call {l:OpenLaw} {n:Nat} {q:Program} {loose:List Str} {XP:(Str→Option Value)→Heap→Prop} {YP:World→Heap→Prop} {d:DefRec}
  (hn:l.most=some n) (hdf:d.params.defaults=[])
  (call:∀ (w:World) (s₀ s₁:Shared) (mg mb:Str→Option Value) (fa:Addr) (o:Obj) (pm cd doc:Value) (a:Addr) (vs:List Value) (ns:List Int),
   Ground q loose [] XP w s₀ mg mb s₁.heap→YP w s₁.heap →
   s₁.heap.get? fa=some o→o.data = .func (docDef d.name d.params d.body d.scope pm cd doc)→s₁.heap.CodeRec cd d.name→mg d.name=some (.ref fa) →
   s₁.heap.get? a=some { cls := .type "list",data := .seq vs.toArray }→IntsAre vs ns→ns.length≤n→s₁.gens = #[] →
   codeAny (model l.prog w) callerA (.call (.ref fa) ⟨[.ref a],[]⟩) (λ r s'=>r = .ok (.ret (.bool true))∧OldK s₁.heap s'.heap∧s'.os=s₁.os∧AllBare s'.gens) s₁) :
  WalkO q loose XP YP l.row.toRowW d [] (λ f vs=>PySem.call f vs):=by
 intro w s₀ s₁ mg mb G Y fa o pm cd doc dV kV ho hd hcd hD hmg hg args vals as hpre hlay hrd hwl hlo
 obtain rfl:dV = .none:=Dflts.none hD hdf
 obtain rfl:kV = .none:=Dflts.noKw hD
 obtain ⟨a,vs,ns,rfl,rfl,hobj,hints,hlen⟩:=zho hn hpre hwl
 refine enter_call (codeAny_mono (call w s₀ s₁ mg mb fa o pm cd doc a vs ns G Y ho (fd_plain hd) hcd hmg hobj hints hlen hg) λ r s' hq=>?_)
 obtain ⟨rfl,h2,h3,h4⟩:=hq
 exact ⟨.inl ⟨.bool true,.bool true,[],rfl,λ _=>rfl,.bool true,zeo l _,λ _=>⟨List.Pairwise.nil,λ _ hm=>(nomatch hm)⟩⟩,h2,h3,h4⟩
section
variable {prog:Program} {w:World} {A:Around} {E:Value→Shared→Prop} {s:Shared} {K:Frag}
end
end Att
namespace L2
open PySem PySem.Spec PyProof.Rows
theorem zqi:∀ {vs:List Value} {ns:List Int},IntsAre vs ns→Vals (ns.map V.int) vs
 | _,_,.nil=>.nil
 | _,_,.cons n t h=>.cons ⟨t,rfl⟩ (zqi h)
noncomputable def Only (H:Hp):Prop:=∀ b,H b=none ∨ ∃ o xs,H b=some (.frz o (.lst xs))
theorem zzr {P:Program} {w:World} {K:W.Frag} {mg mb:Str→Option Value} {CX:CXT} {k:Nat} {fa a:Addr} {fd:FuncData} {x:Str} {sp:Sp} {s₁:Shared} {vs:List Value} {ns:List Int}
  (KX:K.In s₁.heap) (hns:s₁.heap.Ns mainGlobals mg) (hb:s₁.heap.Ns builtinsNs mb) (hbb:∀ x:Str,x ≠ "__name__" → mb x=bootBuiltins x) (hlim:s₁.heap.NoLimit) (hg:s₁.gens = #[])
  (ha:s₁.heap.get? a=some { cls := .type "list",data := .seq vs.toArray }) (hi:IntsAre vs ns) (hl:ns.length≤sizeLine) (hr:Room k callerA)
  (F:∀ base:Heap,K.In base→base.Ns mainGlobals mg→FnOk P w K mg base CX k fa fd [x] sp) (hbind:∀ (s:Shared) (u:Value),BindsTo s fd ⟨[u],[]⟩ [(x,u)])
  (hsp:∀ H:Hp,Only H→SqL K H a (ns.map V.int)→sp [.ref a] H (λ v _=>v = .bl true) λ _ _ _=>False)
  (hCX:∀ H e s',CX [] H s₁ (λ _ _ _=>False) e s'→False) :
  codeAny (model P w) callerA (.call (.ref fa) ⟨[.ref a],[]⟩) (λ r s'=>r = .ok (.ret (.bool true))∧OldK s₁.heap s'.heap∧s'.os=s₁.os∧AllBare s'.gens) s₁:=by
 have rv:=zqi hi
 have lenV:=hi.length
 have core:∀ H:Hp,Only H→SqL K H a (ns.map V.int)→HOk P w H s₁.heap→(∀ b,H b≠none→b=a)→(H a≠none→K.lookup a=none) →
   codeAny (model P w) callerA (.call (.ref fa) ⟨[.ref a],[]⟩) (λ r s'=>r = .ok (.ret (.bool true))∧OldK s₁.heap s'.heap∧s'.os=s₁.os∧AllBare s'.gens) s₁:=by
  intro H hO hS hok hA hK
  have base_of:∀ {b:Addr} {o:Obj},s₁.heap.get? b=some o→H b=none→(hidT s₁.heap H).get? b=some o:=λ e n=>zas e n
  have noA:∀ {b:Addr} {o:Obj} {es:Array DictEntry} {ep:Nat},s₁.heap.get? b=some o→o.data = .dict es ep→H b=none:=fun {b o es ep} e d=>by
   cases q:H b with
   | none=>rfl
   | some u =>
    have e':b=a:=hA b (by rw [q];simp)
    subst e'
    rw [ha] at e;cases e
    have d':Data.seq vs.toArray _=Data.dict es ep:=d
    cases d'
  have nsK:∀ {b:Addr} {m:Str→Option Value},s₁.heap.Ns b m→(hidT s₁.heap H).Ns b m:=fun {b m} ⟨o,es,ep,e,d,r⟩=>⟨o,es,ep,base_of e (noA e d),d,r⟩
  have hKb:K.In (hidT s₁.heap H):=λ b o e=>base_of (KX b o e) (by
   cases q:H b with
   | none=>rfl
   | some u =>
    have e':b=a:=hA b (by rw [q];simp)
    subst e'
    rw [hK (by rw [q];simp)] at e;cases e)
  have hM:Mod K mg (hidT s₁.heap H):=⟨hKb,nsK hns,⟨mb,nsK hb,hbb⟩,let ⟨mc,h1,h2⟩:=hlim; ⟨mc,nsK h1,h2⟩⟩
  have e0:Env0 P w K mg (hidT s₁.heap H) callerA [] s₁ H:=⟨rfl,hM,λ b o e=>zhu e,Nat.le_of_eq (zbo _ _),trivial,λ b hb=>absurd (show b∈([]:List Addr) from hb) (by simp),hok,.of_eq hg⟩
  refine codeAny_mono ((F _ hKb (nsK hns)).run callerA [] s₁ H ⟨[.ref a],[]⟩ [.ref a] [.ref a] _ _ hr e0 (hbind s₁ (.ref a)) (.cons rfl .nil) (hsp H hO hS)) λ r s' h=>?_
  cases r with
  | error e=>exact (hCX H e s' h).elim
  | ok fl =>
   cases fl with
   | next=>exact False.elim h
   | brk=>exact False.elim h
   | cont=>exact False.elim h
   | ret u =>
    obtain ⟨v,H',os,bare,un,hok',r',q⟩:=h
    have q':v = .bl true:=q
    subst q'
    obtain rfl:u=Value.bool true:=r'
    refine ⟨rfl,OldK.of_keep λ b o e=>?_,os,bare⟩
    cases q:H b with
    | none=>exact un.keep b o e q (by intro z;exact absurd (show b∈([]:List Addr) from z) (by simp)) (by simp)
    | some u =>
     rcases hO b with z | ⟨ob,xs,z⟩
     ·rw [q] at z;cases z
     ·have z2:=un.frzs b ob _ z
      obtain ⟨e1,_⟩:=hok b _ z
      obtain ⟨e2,_⟩:=hok' b _ z2
      rw [e] at e1;cases e1
      exact e2
 cases hk:K.lookup a with
 | some o =>
  have e:=KX a o hk
  rw [ha] at e
  cases e
  refine core (λ _=>none) (λ _=>.inl rfl) (.inr ⟨_,vs.toArray,_,hk,rfl,rfl,rfl,by rw [List.size_toArray,lenV];exact hl,by simpa using rv⟩) (λ b u z=>by have z':(none:Option HO)=some u:=z;cases z') (λ b z=>absurd rfl z) λ z=>absurd rfl z
 | none =>
  refine core (λ b=>if b=a then some (.frz { cls := .type "list",data := .seq vs.toArray } (.lst (ns.map V.int))) else none) (λ b=>?_) (.inl (.inr ⟨{ cls := .type "list",data := .seq vs.toArray },if_pos rfl⟩)) (λ b u z=>?_) (λ b z=>?_) λ _=>hk
  ·by_cases hb:b=a
   ·exact .inr ⟨_,_,if_pos hb⟩
   ·exact .inl (if_neg hb)
  ·by_cases hb:b=a
   ·have z':=(if_pos hb).symm.trans z
    cases z'
    subst hb
    exact ⟨ha,by rw [List.length_map];exact hl,vs,_,rv,ha⟩
   ·have z':=(if_neg hb).symm.trans z
    cases z'
  ·by_cases hb:b=a
   ·exact hb
   ·exact absurd (if_neg hb) z
end L2
namespace L2
open PySem PySem.Spec PyProof.Rows
theorem walk_of {l:W.OpenLaw} {n k:Nat} {q:Program} {loose:List Str} {XP:(Str→Option Value)→Heap→Prop} {YP:World→Heap→Prop} {d:DefRec} {K:Params→W.Frag} {CX:World→CXT} {sp:World→Sp} {x:Str}
  (hn:l.most=some n) (hn2:n≤sizeLine) (hdf:d.params.defaults=[]) (hr:Room k callerA)
  (hY:∀ (w:World) (h:Heap),YP w h→(K w.params).In h)
  (F:∀ (w:World) (mg:Str→Option Value) (fa:Addr) (h:Heap),(K w.params).In h→h.Ns mainGlobals mg→mg d.name=some (.ref fa) →
   ∃ fd:FuncData,(∀ (s:Shared) (u:Value),BindsTo s fd ⟨[u],[]⟩ [(x,u)]) ∧
    ∀ base:Heap,(K w.params).In base→base.Ns mainGlobals mg→FnOk l.prog w (K w.params) mg base (CX w) k fa fd [x] (sp w))
  (hsp:∀ (w:World) (H:Hp) (a:Addr) (ns:List Int),ns.length≤n→Only H→SqL (K w.params) H a (ns.map V.int)→sp w [.ref a] H (λ v _=>v = .bl true) λ _ _ _=>False)
  (hCX:∀ (w:World) (H:Hp) (s:Shared) (e:Value) (s':Shared),CX w [] H s (λ _ _ _=>False) e s'→False) :
  W.WalkO q loose XP YP l.row.toRowW d [] (λ f vs=>PySem.call f vs):=by
 refine Att.attach_call hn hdf λ w s₀ s₁ mg mb fa o pm cd doc a vs ns G Y ho hd hcd hmg hobj hints hlen hg=>?_
 have KX:=hY w _ Y
 obtain ⟨fd,hb,hF⟩:=F w mg fa _ KX G.T.g hmg
 exact zzr KX G.T.g G.T.b G.T.builtins G.T.nolimit hg hobj hints (Nat.le_trans hlen hn2) hr hF hb (λ H hO hS=>hsp w H a ns hlen hO hS) λ H e s'=>hCX w H s₁ e s'
end L2
/- THE LAST THEOREM (shape;LID,My.* are yours):
   My.Adr: a structure of the addresses that your layer names (classes,functions);My.Txt K t: a structure (Prop) of the equations over K;
   My.txt_mk:{K} {implicit addresses ..} (e1:nsIn K mainGlobals "law" = some (some (.ref f))) (e2:K.lookup f=some ⟨oc,od,.func (fnOf "law" "law" params body scope dV kV doc pm an cdv ct),sl⟩) (e3:codeIn K cdv "law" = true) .. : ∃ t,My.Txt K t
set_option maxRecDepth 100000 in
set_option maxHeartbeats 0 in
theorem PySem.Challenge.cw_LID_holds : PySem.Challenge.rw_LID.Holds := by
 w_on;o_law;k_head; (case hw=>w_witness2)
 k_fill
 refine L2.walk_of (l:=PySem.Challenge.rw_LID) (n:=63) (k:=40) (x := "script") (CX:=λ w=>..) (sp:=λ _=>My.sp_law) rfl (by decide) rfl ⟨rfl,by decide,by decide⟩ (λ w h Y=>W.kIn_of Y) ?F ?S ?C
 case F =>
  intro w mg fa h KX G hmg
  have T:∃ t,My.Txt (L2.KOf KX) t:=by
   dsimp only [L2.KOf]                          -- K must stand as «<heap const> w.params» for k_is
   refine' My.txt_mk ?e1 ?e2 ?e3 ..
   (case e1=>W.k_is)                    -- in the order: a name -> its address -> its object -> its parts
   (case e2=>W.k_is)
   ..
  obtain ⟨t,T⟩:=T
  have e0:=hmg.symm.trans (W.mg_of KX G T.law)
  cases e0                                       -- fa is the law's own address
  exact ⟨_,λ s u=>.of_eq rfl,λ base kb nb=>My.law_fn T kb nb⟩     -- if «.of_eq rfl» comes too early: refine' ⟨_,?b,λ base kb nb=>My.law_fn T kb nb⟩;exact λ s u=>.of_eq rfl
 case S=>exact λ w H a ns hl hO hS=>..
 case C=>exact ..
(the tactic k_is has no namespace: write k_is) -/
namespace L2
open PySem PySem.Spec PyProof.Rows
noncomputable def zzi (s:Stmt) (j:Nat):Stmt:=match s with
 | .ClassDef _ _ _ body _ _ _ _ _ _ _=>body.getD j (.Pass ⟨0,0,0,0⟩)
 | _=>.Pass ⟨0,0,0,0⟩
noncomputable def zcg (s:Stmt):Arguments:=match s with
 | .FunctionDef _ a _ _ _ _ _ _ _ _=>a
 | _=>{ posonlyargs:=[],args:=[],vararg:=none,kwonlyargs:=[],kw_defaults:=[],kwarg:=none,defaults:=[] }
noncomputable def zhd (s:Stmt):List Stmt:=match s with
 | .FunctionDef _ _ b _ _ _ _ _ _ _=>b
 | _=>[]
noncomputable def zia (s:Stmt):Scope:=match s with
 | .FunctionDef _ _ _ _ _ _ sc _ _ _=>sc
 | _=>{ kind := .function,names:=[],isGenerator:=false,isCoroutine:=false }
noncomputable abbrev E0:XK:=λ _ _ _=>False
structure Fun (K:W.Frag) (x qual:Str) (st:Stmt) (f:Addr) (fd:FuncData):Prop where
 ex:∃ (oc:Value) (od:Option Addr) (kV doc pm:Value) (an:Option Addr) (cdv ct:Value) (osl:Array (Option Value)),
  fd=W.fnOf x qual (zcg st) (zhd st) (zia st) .none kV doc pm an cdv ct∧K.lookup f=some ⟨oc,od,.func fd,osl⟩∧W.codeIn K cdv qual=true
 kp:W.keepIn K (.ref f)=true
section
variable {P:Program} {w:World} {K:W.Frag} {mg:Str→Option Value} {base:Heap}
theorem Fun.binds {x qual:Str} {st:Stmt} {f:Addr} {fd:FuncData} {ps:List Str} (F:Fun K x qual st f fd)
  (h:∀ (kV doc pm:Value) (an:Option Addr) (cdv ct:Value) (us:List Value),us.length=ps.length→bindArgs (W.fnOf x qual (zcg st) (zhd st) (zia st) .none kV doc pm an cdv ct) ⟨us,[]⟩=pure (ps.zip us)):Binds K fd ps []:=by
 obtain ⟨oc,od,kV,doc,pm,an,cdv,ct,osl,rfl,lk,hcd⟩:=F.ex
 exact .all (h kV doc pm an cdv ct)
theorem fun_mk {x qual:Str} {st:Stmt} {f:Addr} {oc:Value} {od an:Option Addr} {osl:Array (Option Value)} {kV doc pm cdv ct:Value} (l:K.lookup f=some ⟨oc,od,.func (W.fnOf x qual (zcg st) (zhd st) (zia st) .none kV doc pm an cdv ct),osl⟩)
  (c:W.codeIn K cdv qual=true) (k:W.keepIn K (.ref f)=true):Fun K x qual st f (W.fnOf x qual (zcg st) (zhd st) (zia st) .none kV doc pm an cdv ct):=⟨⟨oc,od,kV,doc,pm,an,cdv,ct,osl,rfl,l,c⟩,k⟩
end
theorem zyc {n:Nat} (h:n≤1000):n<sizeLine:=Nat.lt_of_le_of_lt h (by decide)
section
variable {X:Cx}
theorem pv (i:Nat) {x:Str} {pos:Pos} (hN:X.N[i]? = some x:=by rfl) (hv:Vis X.env.scope x:=by first | exact Or.inl rfl | exact Or.inr (Or.inl rfl) | exact Or.inr (Or.inr rfl)) (hd:(x == ("__debug__" : Str))=false:=by decide)
  (hcd:(x == ("__classdict__" : Str))=false:=by decide):PE X (.Name x pos) (tVar i):=zrx hN hv hd hcd
end
theorem iteF {A B:Prop} (h:B):if false=true then A else B:=by
 rw [if_neg Bool.false_ne_true]
 exact h
theorem iteT {A B:Prop} (h:A):if true=true then A else B:=by
 rw [if_pos rfl]
 exact h
theorem zhz {c A B:Prop} [Decidable c] (hc:c) (h:B):if (!decide c)=true then A else B:=by
 rw [decide_eq_true hc]
 exact iteF h
noncomputable def Same (H H':Hp):Prop:=∀ b o,H b=some o→H' b=some o
theorem Same.refl (H:Hp):Same H H:=λ _ _ h=>h
theorem Same.trans {H H1 H2:Hp} (a:Same H H1) (b:Same H1 H2):Same H H2:=λ c o h=>b c o (a c o h)
theorem Same.free {H H':Hp} (e:Same H H') {l:Addr} (h:H' l=Option.none):H l=Option.none:=by
 cases q:H l with
 | none=>rfl
 | some o =>
  rw [e l o q] at h
  cases h
theorem Same.seq {K:W.Frag} {H H':Hp} {a:Addr} {xs:List V} (e:Same H H') (h:SqL K H a xs):SqL K H' a xs:=by
 rcases h with (h | ⟨o,h⟩) | h
 ·exact .inl (.inl (e _ _ h))
 ·exact .inl (.inr ⟨o,e _ _ h⟩)
 ·exact .inr h
end L2
namespace L2
open PySem PySem.Spec PyProof.Rows
section
variable {X:Cx} {pins:List (Addr×Obj)} {σ:St} {H:Hp} {s:Shared} {h':Heap}
theorem Inv.turnLay {t':Nat} {ch:List Addr} {T:Addr} {o:HO} (I:Inv X pins σ H s) (hf:∀ b∈ch,FpOk X pins H b)
  (k:∀ b u,b∉ch→s.heap.get? b=some u→h'.get? b=some u) (hT:s.heap.objs.size≤T)
  (new:ObjOk X.prog X.w (upd H T o) h' T o):Inv X pins σ (upd H T o) { s with heap:=h',toks:=t' }:=by
 have hn:H T=none:=I.hok.fresh hT
 have nT:∀ b u,s.heap.get? b=some u→b≠T:=λ b u e=>Nat.ne_of_lt (Nat.lt_of_lt_of_le (Heap.lt_size e) hT)
 have nch:∀ b u,H b=some u→b∉ch:=λ b u e hb=>by rw [(hf b hb).1] at e;cases e
 have nTH:∀ b u,H b=some u→b≠T:=λ b u e=>zha e hn
 refine I.step (g':=s.gens) (d':=s.drawn) (ch:=ch) (λ b hb=>?_) (λ b o _ _ hc e _=>k b o hc e) (λ b o _ _ hc e _=>⟨o.slots,k b o hc e⟩)
  (λ b u hc e n=>by rw [zja (nT b u e)];exact n) (λ b u hc e=>⟨u,k b u hc e⟩) (λ b xs e=>by rw [zja (nTH b _ e)];exact e) (λ b o' u e=>by rw [zja (nTH b _ e)];exact e)
  (λ b ps e=>⟨#[],by rw [zja (nTH b _ e),e];simp⟩) (λ m hm=>?_) (λ b u e=>?_) I.bare
 ·obtain ⟨f0,f1,f2,f3,f4,f5⟩:=hf b hb
  exact ⟨f3,f1,f4,f5⟩
 ·obtain ⟨ob,es,ep,ho,r⟩:=hm
  exact ⟨ob,es,ep,k _ ob (λ z=>(hf _ z).2.1 rfl) ho,r⟩
 ·by_cases hb:b=T
  ·subst hb;rw [upd_same] at e;cases e;exact new
  ·rw [zja hb] at e
   refine (I.hok b u e).stay (λ c v hc q=>k c v ?_ q) (λ c q=>by rw [zja (nTH c _ q)];exact q) λ c xs q=>by rw [zja (nTH c _ q)];exact q
   rcases hc with z | z
   ·rw [z];exact nch b u e
   ·exact nch c _ z
theorem Inv.turnedL {t':Nat} {ch:List Addr} (I:Inv X pins σ H s) (hf:∀ b∈ch,FpOk X pins H b)
  (k:∀ b u,b∉ch→s.heap.get? b=some u→h'.get? b=some u):Inv X pins σ H { s with heap:=h',toks:=t' }:=by
 have nch:∀ b u,H b=some u→b∉ch:=λ b u e hb=>by rw [(hf b hb).1] at e;cases e
 refine I.step (g':=s.gens) (d':=s.drawn) (ch:=ch) (λ b hb=>?_) (λ b o _ _ hc e _=>k b o hc e) (λ b o _ _ hc e _=>⟨o.slots,k b o hc e⟩)
  (λ b u hc e n=>n) (λ b u hc e=>⟨u,k b u hc e⟩) (λ b xs e=>e) (λ b o' u e=>e)
  (λ b ps e=>⟨#[],by rw [e];simp⟩) (λ m hm=>?_) (λ b u e=>?_) I.bare
 ·obtain ⟨f0,f1,f2,f3,f4,f5⟩:=hf b hb
  exact ⟨f3,f1,f4,f5⟩
 ·obtain ⟨ob,es,ep,ho,r⟩:=hm
  exact ⟨ob,es,ep,k _ ob (λ z=>(hf _ z).2.1 rfl) ho,r⟩
 ·refine (I.hok b u e).stay (λ c v hc q=>k c v ?_ q) (λ c q=>q) λ c xs q=>q
  rcases hc with z | z
  ·rw [z];exact nch b u e
  ·exact nch c _ z
end
section
variable {X:Cx} {tg:Expr}
end
noncomputable def Ite (K:W.Frag) (a:Addr):It :=
 ⟨λ i H=>∃ xs x,SqL K H a xs∧xs[i]? = some x,λ i H v H'=>∃ T y,v = .ref T∧H T=none∧H'=upd H T (.tup [.int i,y])∧∀ xs,SqL K H a xs→xs[i]? = some y,λ i H=>∃ xs,SqL K H a xs∧xs.length≤i⟩
theorem zzn {P:Program} {w:World} {K:W.Frag} {elts:List Expr} {kk:Nat} {tp:Pos} (a e it:Addr) (hne:e≠it) :
  Turn P w K (.Tuple elts kk tp) (Ite K a) [e,it] e (λ i h=>(∃ old,IsEnum h e it (i:Nat) old)∧h.IsListIter it a i) where
 mem:=by simp
 obj:=λ i h st b hb=>by
  obtain ⟨⟨old,he⟩,o,e',c,d⟩:=st
  have:b=e ∨ b=it:=by simpa using hb
  rcases this with rfl | rfl
  ·exact ⟨_,he,λ v z=>nomatch z⟩
  ·exact ⟨o,e',λ v z=>by rw [d] at z;cases z⟩
 keep:=λ i h h' st k=>⟨let ⟨old,he⟩:=st.1; ⟨old,k e (by simp) _ he⟩,st.2.at λ o q=>k it (by simp) o q⟩
 item:=by
  intro X hP hw hK hc i pins s σ H E I hf st hg
  subst hP hw hK
  obtain ⟨⟨old,he⟩,hit⟩:=st
  obtain ⟨xs,x,hq,hx⟩:=hg
  obtain ⟨its,rv,p,hz⟩:=I.list hq
  obtain ⟨u,hu,ru⟩:=rv.get hx
  have helt:e<s.heap.objs.size:=Heap.lt_size he
  refine wpAny_pyNext_enum_item he hit p.isList (x:=u) (by simpa using hu) hne λ h1 heo hit1 ht1 hz1 hk1=>?_
  refine ⟨_,rfl,wpAny_letOwnedTupleGo_enum heo λ h2 he2 hs2=>?_⟩
  have hT2:h2.get? s.heap.objs.size=some { cls := .type "tuple",data := .seq #[.int i s.toks,u] }:=(hs2.2 _ (Nat.ne_of_gt helt)).trans ht1
  have I2:Inv X pins σ (upd H s.heap.objs.size (.tup [.int i,x])) { s with heap:=h2,toks:=s.toks+1 }:=by
   refine I.turnLay (ch:=[e,it]) hf (λ b o hb q=>?_) (Nat.le_refl _) ?_
   ·have n1:b≠e:=λ z=>hb (by simp [z])
    have n2:b≠it:=λ z=>hb (by simp [z])
    exact (hs2.2 b n1).trans (hk1 b o n1 n2 q)
   ·exact ⟨by show 2≤sizeLine;decide,[.int i s.toks,u],.cons ⟨_,rfl⟩ (.cons ru .nil),⟨_,hT2,rfl,_,rfl⟩⟩
  have hn:H s.heap.objs.size=none:=I.hok.fresh (Nat.le_refl _)
  refine ⟨.ref s.heap.objs.size,_,I2,rfl,⟨_,x,rfl,hn,rfl,λ ys hy=>by rw [I.list_inj hy hq];exact hx⟩,⟨⟨u,by simpa using he2⟩,hit1.at λ o q=>(hs2.2 it (Ne.symm hne)).trans q⟩,λ b hb=>?_⟩
  have hb':b<s.heap.objs.size:=by
   have:b=e ∨ b=it:=by simpa using hb
   rcases this with rfl | rfl
   ·exact helt
   ·obtain ⟨o,q,_⟩:=hit;exact Heap.lt_size q
  rw [zja (Nat.ne_of_lt hb')]
  exact (hf b hb).1
 done:=by
  intro X hP hw hK hc i pins s σ H E I hf st hg
  subst hP hw hK
  obtain ⟨⟨old,he⟩,hit⟩:=st
  obtain ⟨xs,hq,hx⟩:=hg
  obtain ⟨its,rv,p,hz⟩:=I.list hq
  have hl:=rv.length
  exact wpAny_pyNext_enum_end (I.ok.hd hc) he hit p.isList (by simp;omega) λ h' eb=>⟨rfl,I.turnedL (t':=s.toks) hf λ b o hb q=>eb b o (λ z=>hb (by simp [z])) q⟩
 self:=λ A i s Q E st h=>by
  obtain ⟨⟨old,he⟩,hit⟩:=st
  have hT:s.TypeIs (.ref e) "enumerate" := ⟨_,he,rfl⟩
  refine wpAny_pyIter_slot hT F.slot_enumerate_iter (wpAny_call_entry F.slot_enumerate_iter hT F.entry_enumerate_iter ?_ (F.args_enumerate_iter_1 _))
  show wpAny _ _ (ret (.ref e)) _ _ s
  exact wpAny_pure ⟨_,rfl, "enumerate",_,hT,F.slot_enumerate_next.lookup,h⟩
end L2
namespace L2
open PySem PySem.Spec PyProof.Rows
section
variable {X:Cx}
noncomputable def zyz (K:W.Frag) (ta:TA):TI:=λ σ H R=>ta σ H λ vs H1=>∃ a,vs=[.ref a]∧(∃ xs,SqL K H1 a xs)∧R (Ite K a) H1
theorem zup {elts:List Expr} {kk:Nat} {tp:Pos} {a:Expr} {ta:TA} {p pos:Pos} (hg:Gl X "enumerate") (hm:X.mg "enumerate" = none) (hb:bootBuiltins "enumerate" = some (.type "enumerate")) (ha:PA X [a] ta) (hs:starEach [a] X.env=[(false,eval a X.env)]:=by rfl) :
  PI X (.Tuple elts kk tp) (.Call (.Name "enumerate" p) [a] [] pos) (zyz X.K ta) := .mk <| by
 intro pins s σ H R I h
 refine Call_ (zjj I hg hm hb (PyProof.Rows.callWith_type1 (thn (ha pos pins s σ H _ I h) λ us s1 ⟨vs,H1,I1,r1,q1⟩=>?_) hs rfl))
 obtain ⟨b,e,⟨xs,hq⟩,q⟩:=q1
 subst e
 cases r1 with
 | cons r rr =>
  cases rr
  cases r
  obtain ⟨its,rv,pl,hz⟩:=I1.list hq
  refine call_enumerate_list pl.isList λ h' he hi hsz hk=>?_
  have I2:Inv X pins σ H1 { s1 with heap:=h' }:=I1.kept (t':=s1.toks) hk
  have T:=zzn (P:=X.prog) (w:=X.w) (K:=X.K) (elts:=elts) (kk:=kk) (tp:=tp) b (s1.heap.objs.size+1) s1.heap.objs.size (Nat.succ_ne_self _)
  have t0:(∃ old,IsEnum h' (s1.heap.objs.size+1) s1.heap.objs.size ((0:Nat):Int) old)∧h'.IsListIter s1.heap.objs.size b 0:=⟨⟨.none,by simpa using he⟩,hi⟩
  refine T.self X.A 0 _ _ _ t0 ⟨_,_,_,_,H1,rfl,I2,T,t0,λ c hc=>?_,q⟩
  have hc':s1.heap.objs.size≤c:=by
   have:c=s1.heap.objs.size+1 ∨ c=s1.heap.objs.size:=by simpa using hc
   rcases this with rfl | rfl
   ·exact Nat.le_succ _
   ·exact Nat.le_refl _
  exact I1.fpOk hc' (I1.hok.fresh hc')
end
theorem zkl {K:W.Frag} {a:Addr} {xs:List V} {g:TG} {tb:TS} {D:Ends} {σ:St} {H:Hp} (Pv:Nat→St→Hp→Prop) (h0:Pv 0 σ H) (hl:∀ i σ H,i≤xs.length→Pv i σ H→SqL K H a xs)
  (hs:∀ i x T σ H,xs[i]? = some x→Pv i σ H→H T=none→g (.ref T) σ (upd H T (.tup [.int i,x])) λ σ2 H2=>tb { D with nx:=Pv (i+1),ct:=Pv (i+1),bk:=D.nx } σ2 H2) (hd:∀ σ H,Pv xs.length σ H→D.nx σ H) :
  ∃ W:Nat→Nat→St→Hp→Prop,(∃ m,W 0 m σ H)∧∀ i m σ H,W i m σ H →
   ((Ite K a).stop i H∧D.nx σ H) ∨ ((Ite K a).go i H∧∃ N:St→Hp→Prop,(∀ σ' H',N σ' H'→∃ m',m'<m∧W (i+1) m' σ' H')∧∀ x H',(Ite K a).yld i H x H'→g x σ H' λ σ2 H2=>tb { D with nx:=N,ct:=N,bk:=D.nx } σ2 H2):=by
 refine ⟨λ i m σ H=>m=xs.length - i∧i≤xs.length∧Pv i σ H,⟨xs.length,by simp,Nat.zero_le _,h0⟩,?_⟩
 rintro i m σ H ⟨rfl,hi,p⟩
 have q:=hl i σ H hi p
 by_cases hlt:i<xs.length
 ·refine .inr ⟨⟨xs,xs[i],q,by simp [hlt]⟩,Pv (i+1),λ σ' H' p'=>⟨xs.length - (i+1),by omega,rfl,hlt,p'⟩,λ x H' y=>?_⟩
  obtain ⟨T,z,rfl,hT,rfl,y⟩:=y
  exact hs i z T σ H (y xs q) p hT
 ·have e:i=xs.length:=by omega
  subst e
  exact .inl ⟨⟨xs,q,Nat.le_refl _⟩,hd σ H p⟩
noncomputable def zac (env:Env) (cs:List (Str×Addr)) (p:Str×NameKind):List (Str×Addr):=if p.2 = .free then (match env.cells.lookup p.1 with | some c=>(p.1,c)::cs | none=>cs) else cs
noncomputable def clOf (scope:Scope) (env:Env):List (Str×Addr):=scope.names.foldl (zac env) []
noncomputable def zwc (scope:Scope) (env:Env):Bool :=
 scope.names.all (λ p=>p.2 != .cell) && scope.names.all (λ p=>p.2 != .local || scope.names.lookup p.1 == some .local) && scope.names.all (λ p=>p.2 != .free || (env.scope.names.lookup p.1 == some .cell || env.scope.names.lookup p.1 == some .free))
theorem zlg {env:Env}:∀ (ns:List (Str×NameKind)) (cs:List (Str×Addr)),(∀ p∈ns,p.2 = .free→∃ c,env.cells.lookup p.1=some c) →
  (forIn (m:=Sem) ns cs λ (p:Str×NameKind) (cs:List (Str×Addr))=>(if (p.2 == .free)=true then do
    let c ← cellOf env p.1
    pure (ForInStep.yield ((p.1,c)::cs)) else pure (ForInStep.yield cs)))=pure (ns.foldl (zac env) cs)
 | [],cs,_=>rfl
 | p::ns,cs,h=>by
  rw [List.forIn_cons,List.foldl_cons]
  have ih:=zlg (env:=env) ns
  have hr:∀ q∈ns,q.2 = .free→∃ c,env.cells.lookup q.1=some c:=λ q hq=>h q (List.mem_cons_of_mem _ hq)
  by_cases hk:p.2 = .free
  ·obtain ⟨c,e⟩:=h p List.mem_cons_self hk
   have e1:(p.2 == NameKind.free)=true:=by simp [hk]
   have e2:zac env cs p=(p.1,c)::cs:=by unfold zac;rw [if_pos hk,e]
   have e3:cellOf env p.1=pure c:=by unfold cellOf;rw [e]
   rw [if_pos e1,e3,e2]
   exact ih _ hr
  ·have e1:¬ ((p.2 == NameKind.free)=true):=by simp [hk]
   have e2:zac env cs p=cs:=by unfold zac;rw [if_neg hk]
   rw [if_neg e1,e2]
   exact ih _ hr
theorem zag {scope:Scope} {env:Env} (h:∀ p∈scope.names,p.2 = .free→∃ c,env.cells.lookup p.1=some c):closureFor scope env=pure (clOf scope env):=by
 have e:=zlg (env:=env) scope.names [] h
 have e2:=congrArg (λ (z:Sem (List (Str×Addr)))=>z >>= λ s=>pure s) e
 exact e2
theorem zrv {env:Env} {x:Str} {c:Addr}:∀ (ns:List (Str×NameKind)) (cs:List (Str×Addr)),(∀ y d,cs.lookup y=some d→env.cells.lookup y=some d)→(ns.foldl (zac env) cs).lookup x=some c→env.cells.lookup x=some c
 | [],cs,h,e=>h x c e
 | p::ns,cs,h,e=>by
  refine zrv ns (zac env cs p) (λ y d q=>?_) e
  unfold zac at q
  split at q
  ·split at q
   ·rename_i c' ec
    rw [List.lookup_cons] at q
    split at q
    ·rename_i he
     have:y=p.1:=by simpa using he
     subst this;rw [← q];exact ec
    ·exact h y d q
   ·exact h y d q
  ·exact h y d q
theorem zhq {env:Env} {x:Str} {c:Addr} (hx:env.cells.lookup x=some c):∀ (ns:List (Str×NameKind)) (cs:List (Str×Addr)),cs.lookup x=some c→(ns.foldl (zac env) cs).lookup x=some c
 | [],cs,e=>e
 | p::ns,cs,e=>by
  refine zhq hx ns (zac env cs p) ?_
  unfold zac
  split
  ·split
   ·rename_i c' ec
    rw [List.lookup_cons]
    split
    ·rename_i he
     have:x=p.1:=by simpa using he
     subst this;rw [hx] at ec;exact ec.symm
    ·exact e
   ·exact e
  ·exact e
theorem zcr {env:Env} {x:Str} {c:Addr} (hx:env.cells.lookup x=some c):∀ (ns:List (Str×NameKind)) (cs:List (Str×Addr)),(x,NameKind.free)∈ns→(ns.foldl (zac env) cs).lookup x=some c
 | [],cs,e=>by simp at e
 | p::ns,cs,e=>by
  rcases List.mem_cons.mp e with e | e
  ·subst e
   refine zhq hx ns _ ?_
   unfold zac
   rw [if_pos rfl,hx]
   simp
  ·exact zcr hx ns _ e
theorem znc {scope:Scope} {env:Env} (h:zwc scope env=true):∀ p∈scope.names,p.2 ≠ .cell:=λ p hp=>by
 unfold zwc at h
 simp only [Bool.and_eq_true,List.all_eq_true] at h
 simpa using h.1.1 p hp
theorem zjd {scope:Scope} {env:Env} (h:zwc scope env=true):∀ p∈scope.names,p.2 = .local→scope.names.lookup p.1=some .local:=λ p hp e=>by
 unfold zwc at h
 simp only [Bool.and_eq_true,List.all_eq_true] at h
 have:=h.1.2 p hp
 rw [e] at this
 simpa using this
theorem zwb {scope:Scope} {env:Env} (h:zwc scope env=true):∀ p∈scope.names,p.2 = .free→env.kindOf p.1=some .cell ∨ env.kindOf p.1=some .free:=λ p hp e=>by
 unfold zwc at h
 simp only [Bool.and_eq_true,List.all_eq_true] at h
 have:=h.2 p hp
 rw [e] at this
 simpa [Env.kindOf] using this
theorem zcc {env:Env}:∀ {names:List (Str×NameKind)} {x:Str} {k:NameKind},
  (names.map λ (n,k)=>if (k == NameKind.free && env.scope.kind == .function && env.kindOf n == some .cell) then (n,NameKind.cell) else (n,k)).lookup x=some k →
   names.lookup x=some k ∨ (names.lookup x=some .free∧k = .cell)
 | [],_,_,h=>by simp at h
 | (n,j)::r,x,k,h=>by
  have ih:=@zcc env r x k
  rw [List.map_cons] at h
  by_cases hx:(x == n)=true
  ·rw [List.lookup_cons,hx]
   by_cases hc:(j == NameKind.free && env.scope.kind == .function && env.kindOf n == some .cell)=true
   ·simp only [hc,if_true] at h
    rw [List.lookup_cons,hx] at h
    have hj:j = .free:=by
     simp only [Bool.and_eq_true] at hc
     simpa using hc.1.1
    exact .inr ⟨by simp [hj],(Option.some.inj h).symm⟩
   ·simp only [hc,if_false] at h
    have h':List.lookup x ((n,j)::List.map (λ x=>if (x.snd == NameKind.free && env.scope.kind == ScopeKind.function && env.kindOf x.fst == some NameKind.cell)=true then (x.fst,NameKind.cell) else (x.fst,x.snd)) r)=some k:=by simpa using h
    rw [List.lookup_cons,hx] at h'
    exact .inl h'
  ·have hx':(x == n)=false:=by simpa using hx
   rw [List.lookup_cons,hx']
   apply ih
   by_cases hc:(j == NameKind.free && env.scope.kind == .function && env.kindOf n == some .cell)=true
   ·simp only [hc,if_true] at h
    rw [List.lookup_cons,hx'] at h
    exact h
   ·have h':List.lookup x ((n,j)::List.map (λ x=>if (x.snd == NameKind.free && env.scope.kind == ScopeKind.function && env.kindOf x.fst == some NameKind.cell)=true then (x.fst,NameKind.cell) else (x.fst,x.snd)) r)=some k:=by simpa [hc] using h
    rw [List.lookup_cons,hx'] at h'
    exact h'
theorem zrd {env:Env}:∀ {names:List (Str×NameKind)} {x:Str},names.lookup x=some .free →
  ∃ k,(names.map λ (n,k)=>if (k == NameKind.free && env.scope.kind == .function && env.kindOf n == some .cell) then (n,NameKind.cell) else (n,k)).lookup x=some k∧(k = .cell ∨ k = .free)
 | [],_,h=>by simp at h
 | (n,j)::r,x,h=>by
  have ih:=@zrd env r x
  by_cases hx:(x == n)=true
  ·rw [List.lookup_cons,hx] at h
   have hj:j = .free:=Option.some.inj h
   subst hj
   by_cases hc:(env.scope.kind == .function && env.kindOf n == some .cell)=true
   ·refine ⟨.cell,?_,.inl rfl⟩
    show List.lookup x ((if (NameKind.free == NameKind.free && env.scope.kind == .function && env.kindOf n == some .cell)=true then (n,NameKind.cell) else (n,NameKind.free))::_)=_
    rw [if_pos (by simpa using hc),List.lookup_cons,hx]
   ·refine ⟨.free,?_,.inr rfl⟩
    show List.lookup x ((if (NameKind.free == NameKind.free && env.scope.kind == .function && env.kindOf n == some .cell)=true then (n,NameKind.cell) else (n,NameKind.free))::_)=_
    rw [if_neg (by simpa using hc),List.lookup_cons,hx]
  ·have hx':(x == n)=false:=by simpa using hx
   rw [List.lookup_cons,hx'] at h
   obtain ⟨k,e,hk⟩:=ih h
   refine ⟨k,?_,hk⟩
   rw [List.map_cons]
   by_cases hc:(j == NameKind.free && env.scope.kind == .function && env.kindOf n == some .cell)=true
   ·simp only [hc,if_true,List.lookup_cons,hx']
    exact e
   ·show List.lookup x ((if (j == NameKind.free && env.scope.kind == .function && env.kindOf n == some .cell)=true then (n,NameKind.cell) else (n,j))::_)=_
    rw [if_neg hc,List.lookup_cons,hx']
    exact e
noncomputable def Cx.comp (X:Cx) (scope:Scope) (C:Addr) (s₀:Shared) (H₀:Hp) (fp:List Addr) (N':List Str) (E':Value→Shared→Prop):Cx :=
 { X with N:=N',s₀:=s₀,H₀:=H₀,env:=compEnvC scope (clOf scope X.env) C X.env,outer:=X.stack,ex:=fp,fn:=λ _=>false,pn:=[],xe:=E' }
noncomputable def caps (cap:List Nat) (σ:St):St:=cap.map λ j=>(σ[j]?).join
noncomputable def zmq (X:Cx) (scope:Scope) (N':List Str) (nt:Nat) (cap:List Nat):Bool :=
 (N'.length == nt+cap.length) && ((List.range cap.length).all λ j=>match cap[j]?,N'[nt+j]? with
  | some i,some x=>X.N[i]? == some x && scope.names.lookup x == some .free
  | _,_=>false)
section
variable {X:Cx}
theorem zqp {scope:Scope} {N':List Str} {nt:Nat} {cap:List Nat} (h:zmq X scope N' nt cap=true):N'.length=nt+cap.length∧∀ j i,cap[j]? = some i→∃ x,N'[nt+j]? = some x∧X.N[i]? = some x∧scope.names.lookup x=some .free:=by
 unfold zmq at h
 simp only [Bool.and_eq_true,List.all_eq_true,beq_iff_eq] at h
 refine ⟨h.1,λ j i e=>?_⟩
 have hj:j<cap.length:=(List.getElem?_eq_some_iff.mp e).1
 have q:=h.2 j (List.mem_range.mpr hj)
 rw [e] at q
 cases q2:N'[nt+j]? with
 | none=>rw [q2] at q;simp at q
 | some x =>
  rw [q2] at q
  simp only [Bool.and_eq_true,beq_iff_eq] at q
  exact ⟨x,rfl,q.1,q.2⟩
theorem zbg {pins:List (Addr×Obj)} {σ:St} {H:Hp} {s3:Shared} {scope:Scope} {fp:List Addr} {N':List Str} {nt:Nat} {cap:List Nat} {h4:Heap} {t4:Nat} {E':Value→Shared→Prop} {m:Str→Option Value}
  (I:Inv X pins σ H s3) (hk:scope.kind = .function) (hb:zwc scope X.env=true) (hc:zmq X scope N' nt cap=true) (hf:∀ b∈fp,FpOk X pins H b) (hfl:∀ b∈fp,b<s3.heap.objs.size)
  (hn:h4.Ns s3.heap.objs.size m) (kp:∀ b o,s3.heap.get? b=some o→h4.get? b=some o) :
  Inv (X.comp scope s3.heap.objs.size s3 H fp N' E') [] (List.replicate nt none++caps cap σ) H { s3 with heap:=h4,toks:=t4 }:=by
 obtain ⟨hlen,hcap⟩:=zqp hc
 have cin:∀ x c,(clOf scope X.env).lookup x=some c→X.env.cells.lookup x=some c:=λ x c e=>zrv scope.names [] (λ y d q=>by simp at q) e
 have kin:∀ x,((X.comp scope s3.heap.objs.size s3 H fp N' E').env.kindOf x=some .cell ∨ (X.comp scope s3.heap.objs.size s3 H fp N' E').env.kindOf x=some .free)→scope.names.lookup x=some .free:=λ x hx=>by
  have one:∀ k,(k=NameKind.cell ∨ k=NameKind.free)→(X.comp scope s3.heap.objs.size s3 H fp N' E').env.kindOf x=some k→scope.names.lookup x=some .free:=λ k hk' e=>by
   rcases zcc (env:=X.env) (names:=scope.names) (x:=x) (k:=k) e with z | z
   ·rcases hk' with rfl | rfl
    ·exact absurd rfl (znc hb _ (PySem.mem_of_lookup z))
    ·exact z
   ·exact z.1
  rcases hx with hx | hx
  ·exact one _ (.inl rfl) hx
  ·exact one _ (.inr rfl) hx
 have has:∀ x,scope.names.lookup x=some .free→∃ c,X.env.cells.lookup x=some c∧(clOf scope X.env).lookup x=some c:=λ x hx=>by
  have hm:=PySem.mem_of_lookup hx
  obtain ⟨c,e⟩:=I.ok.has x (zwb hb _ hm rfl)
  exact ⟨c,e,zcr e _ _ hm⟩
 refine ⟨⟨I.ok.mod,hk,I.ok.glob,I.ok.blt,Nat.le_refl _,λ x y c e1 e2=>I.ok.inj x y c (cin x c e1) (cin y c e2),λ x hx=>?_,λ x c z _=>absurd z Bool.false_ne_true,I.ok.hd,I.ok.frames,.inl rfl,λ b hb'=>⟨Nat.ne_of_lt (hfl b hb'),λ x c e=>(hf b hb').2.2.2.2.1 x c (cin x c e)⟩,
  I.bs,Nat.le_trans I.ok.bsz I.sz,λ b o e hb'=>?_,λ b hb' hs=>?_,I.stack,I.stkFree⟩,rfl,I.bare,Un.kept kp,⟨m,hn,λ i x v h1 h2 h3=>?_⟩,λ x c e=>?_,I.hok.fresh (Nat.le_refl _),λ x c e=>I.freeC x c (cin x c e),λ p hp=>absurd hp (by simp [Cx.comp]),I.hok.kept kp,?_⟩
 ·obtain ⟨c,_,e⟩:=has x (kin x hx)
  exact ⟨c,e⟩
 ·rcases (hf b hb').2.2.2.1 with z | z
  ·exact I.ok.noex b o e z
  ·exact absurd (Nat.lt_of_lt_of_le (Heap.lt_size e) (Nat.le_trans I.ok.bsz z)) (Nat.lt_irrefl _)
 ·rcases List.mem_cons.mp (I.stkSub b hs) with z | z
  ·exact (hf b hb').2.1 z
  ·exact (hf b hb').2.2.1 z
 ·have hge:nt≤i:=by
   by_cases hlt:i<nt
   ·rw [List.getElem?_append_left (by simpa using hlt),List.getElem?_replicate] at h2
    split at h2 <;> cases h2
   ·omega
  obtain ⟨j,rfl⟩:∃ j,i=nt+j:=⟨i - nt,by omega⟩
  rw [List.getElem?_append_right (by simp),List.length_replicate,Nat.add_sub_cancel_left] at h2
  unfold caps at h2
  rw [List.getElem?_map] at h2
  cases ej:cap[j]? with
  | none=>rw [ej] at h2;cases h2
  | some i' =>
   rw [ej] at h2
   have h2':(σ[i']?).join=some v:=Option.some.inj h2
   obtain ⟨x',e1,e2,e3⟩:=hcap j i' ej
   have:x'=x:=by
    have h1':N'[nt+j]? = some x:=h1
    rw [e1] at h1';exact Option.some.inj h1'
   subst this
   have hσ:σ[i']? = some (some v):=by
    cases q:σ[i']? with
    | none=>rw [q] at h2';cases h2'
    | some o=>rw [q] at h2';exact congrArg some h2'
   have hkx:=zwb hb _ (PySem.mem_of_lookup e3) rfl
   obtain ⟨m',hn',hl'⟩:=I.loc
   obtain ⟨u,ru,lk⟩:=hl' i' x' v e2 hσ (hkx.elim (λ z=>.inr (.inl z)) λ z=>.inr (.inr z))
   refine ⟨u,ru,.inr ⟨?_,?_⟩⟩
   ·obtain ⟨k,ek,hk'⟩:=zrd (env:=X.env) e3
    rcases hk' with rfl | rfl
    ·exact .inl ek
    ·exact .inr ek
   ·rcases lk with ⟨kl,_⟩ | ⟨_,c,ec,icell⟩
    ·rcases hkx with z | z <;> (rw [kl] at z;cases z)
    ·exact ⟨c,zcr ec _ _ (PySem.mem_of_lookup e3),icell.keeps kp⟩
 ·obtain ⟨v,z⟩:=I.cell x c (cin x c e)
  exact ⟨v,z.keeps kp⟩
 ·show (List.replicate nt none++caps cap σ).length=N'.length
  rw [hlen]
  simp [caps]
end
end L2
namespace L2
open PySem PySem.Spec PyProof.Rows
section
variable {prog:Program} {w:World} {A:Around} {E:Value→Shared→Prop} {R:Result→Shared→Prop} {s:Shared}
theorem zld {elt target iter:Expr} {ifs:List Expr} {scope:Scope} {pos:Pos} {it acc:Value} {env:Env} (I:Nat→Shared→Prop)
  (turn:∀ n s,I n s→wpAny (model prog w) A (pyNext it) (λ r s₁=>match r with
   | none=>R (.ok .next) s₁
   | some v=>wpAny (model prog w) A (letOwnedTupleGo target it v) (λ _ s₁'=>wpAny (model prog w) A (assign target env v) (λ _ s₂ =>
     wpAny (model prog w) A (forIn ifs true λ c r=>if r=true then do let ok ← isTrue c env (eval c env);pure (ForInStep.yield ok) else pure (ForInStep.yield r)) (λ ok s₃ =>
      if ok=true then wpAny (model prog w) A (eval elt env) (λ x s₄ =>
       wpAny (model prog w) A (call (.builtin "list.append") [acc,x]) (λ _ s₅=>∃ m,m<n∧I m s₅) (notedBy (model prog w) A env λ e s'=>R (.error e) s') s₄) (notedBy (model prog w) A env λ e s'=>R (.error e) s') s₃
      else ∃ m,m<n∧I m s₃) (notedBy (model prog w) A env λ e s'=>R (.error e) s') s₂) (notedBy (model prog w) A env λ e s'=>R (.error e) s') s₁') (notedBy (model prog w) A env λ e s'=>R (.error e) s') s₁) (notedBy (model prog w) A env λ e s'=>R (.error e) s') s)
  (n:Nat) (h:I n s):codeAny (model prog w) A (.compLoop (.ListComp elt [⟨target,iter,ifs,0⟩] scope pos) 0 it acc env) R s:=by
 refine codeAny_loop rfl I (λ n s hI=>?_) n h
 show wpAny _ A ((compTurn (.ListComp elt [⟨target,iter,ifs,0⟩] scope pos) 0 it acc env).onRaise (λ x=>do noteFrame x env;theTreesLotGoes x)) _ _ s
 refine wpAny_noted ?_
 rw [compTurn_list]
 refine wpAny_bind (wpAny_standAt (wpAny_bind (wpAny_mono (turn n s hI) (λ r s₁ h₁=>?_) λ _ _ h'=>h')))
 cases r with
 | none=>exact wpAny_pure h₁
 | some v =>
  refine wpAny_bind (wpAny_mono h₁ (λ _ s₁' h₁'=>?_) λ _ _ h'=>h')
  refine wpAny_bind (wpAny_mono h₁' (λ _ s₂ h₂=>wpAny_bind (wpAny_mono h₂ (λ ok s₃ h₃=>?_) λ _ _ h'=>h')) λ _ _ h'=>h')
  cases ok with
  | false=>exact wpAny_pure ⟨rfl,h₃⟩
  | true =>
   exact wpAny_bind (wpAny_bind (wpAny_mono h₃ (λ x s₄ h₄=>wpAny_bind (wpAny_mono h₄ (λ _ s₅ h₅=>wpAny_pure (wpAny_pure ⟨rfl,h₅⟩)) λ _ _ h'=>h')) λ _ _ h'=>h'))
end
structure PIf (X:Cx) (ifs:List Expr) (t:TT):Prop where
 run :
 ∀ (pins:List (Addr×Obj)) (s:Shared) (σ:St) (H:Hp) (Q:Bool→Hp→Prop),Inv X pins σ H s→t σ H Q →
  wpAny (model X.prog X.w) X.A (forIn ifs true λ c r=>if r=true then do let ok ← isTrue c X.env (eval c X.env);pure (ForInStep.yield ok) else pure (ForInStep.yield r)) (TP X pins σ Q) X.xe s
noncomputable instance {X:Cx} {ifs:List Expr} {t:TT}:CoeFun (PIf X ifs t) (λ _ =>
 ∀ (pins:List (Addr×Obj)) (s:Shared) (σ:St) (H:Hp) (Q:Bool→Hp→Prop),Inv X pins σ H s→t σ H Q →
  wpAny (model X.prog X.w) X.A (forIn ifs true λ c r=>if r=true then do let ok ← isTrue c X.env (eval c X.env);pure (ForInStep.yield ok) else pure (ForInStep.yield r)) (TP X pins σ Q) X.xe s
 ):=⟨λ h=>h.run⟩
noncomputable def tYes:TT:=λ _ H Q=>Q true H
noncomputable def ztv (J:It) (D:Addr) (nt:Nat) (cap:List Nat) (g:TG) (ti:TT) (te:TE) (σ:St) (H1:Hp) (Q:VK):Prop:=∃ W:Nat→Nat→List V→Hp→Prop,(∃ m,W 0 m [] (upd H1 D (.lst []))) ∧
 ∀ i m ys H2,W i m ys H2→H2 D=some (.lst ys)∧((J.stop i H2∧Q (.ref D) H2) ∨ (J.go i H2∧ys.length<sizeLine∧∀ x H3,J.yld i H2 x H3→g x (List.replicate nt none++caps cap σ) H3 λ σ4 H4=>ti σ4 H4 λ b H5 =>
  if b=true then te σ4 H5 λ y H6=>H6 D=some (.lst ys)∧∃ m',m'<m∧W (i+1) m' (ys++[y]) (upd H6 D (.lst (ys++[y]))) else ∃ m',m'<m∧W (i+1) m' ys H5))
noncomputable def zzt (wi:TI) (nt:Nat) (cap:List Nat) (g:TG) (ti:TT) (te:TE):TE:=λ σ H Q=>wi σ H λ J H1=>∀ D,H1 D=none→ztv J D nt cap g ti te σ H1 Q
noncomputable def zjh (nt:Nat) (g:TG):Prop:=∀ (x:V) (c:St) (H:Hp) (Q:St→Hp→Prop),g x (List.replicate nt none++c) H Q →
 g x (List.replicate nt none++c) H λ σ' H'=>Q σ' H'∧∀ (j:Nat) v,(List.replicate nt none++c)[j]? = some (some v)→σ'[j]? = some (some v)
theorem gk2 {K:W.Frag}:zjh 2 (gTup K 2 (zws (zkd 0) (zws (zkd 1) gNil))):=λ x c H Q h=>by
 obtain ⟨a,xs,e1,hq,hl,v,r,e2,v',r',e3,e4,h⟩:=h
 refine ⟨a,xs,e1,hq,hl,v,r,e2,v',r',e3,e4,h,λ j v e=>?_⟩
 match j,e with
 | 0,e=>simp [List.replicate] at e
 | 1,e=>simp [List.replicate] at e
 | j+2,e=>simpa [List.replicate,List.set] using e
section
variable {X:Cx}
theorem ztt:PIf X [] tYes := .mk <| λ _ _ _ H _ I h=>wpAny_tests_nil ⟨H,I,h⟩
theorem zjk {c:Expr} {t:TT} (h:PT X c t):PIf X [c] t := .mk <| λ pins s σ H Q I hw=>wpAny_tests_one (h pins s σ H Q I hw)
theorem zmi {pins pins':List (Addr×Obj)} {σ σ':St} {H H':Hp} {s3 s':Shared} {scope:Scope} {fp:List Addr} {N':List Str} {E':Value→Shared→Prop}
  (I3:Inv X pins σ H s3) (hf:∀ b∈fp,FpOk X pins H b) (I':Inv (X.comp scope s3.heap.objs.size s3 H fp N' E') pins' σ' H' s'):Inv X pins σ H' s':=by
 refine I3.call' (ch:=fp) I'.os I'.base I'.hok I'.bare λ b hb=>?_
 obtain ⟨f0,f1,f2,f3,f4,f5⟩:=hf b hb
 exact ⟨f3,f1,f4,f5⟩
theorem zrn {elt tg iter:Expr} {ifs:List Expr} {scope:Scope} {pos:Pos} {N':List Str} {nt:Nat} {cap:List Nat} {wi:TI} {g:TG} {ti:TT} {te:TE}
  (EK:Addr→Shared→Hp→List Addr→(Value→Shared→Prop)→Prop)
  (hE:∀ (pins:List (Addr×Obj)) (σ:St) (s3:Shared) (H3:Hp) (fp:List Addr) (Q:VK) (D:Addr),Inv X pins σ H3 s3→(∀ b∈fp,FpOk X pins H3 b) →
   EK s3.heap.objs.size s3 H3 fp (notedBy (model X.prog X.w) X.A (compEnvC scope (clOf scope X.env) s3.heap.objs.size X.env) λ e s'=>compPost (model X.prog X.w) X.A X.xe none (EP X pins σ Q) (.ref D) s3.heap.objs.size (.error e) s'))
  (hc:X.calm=true) (hi:PI X tg iter wi)
  (hg:∀ C s₀ H₀ fp E',EK C s₀ H₀ fp E'→PG (X.comp scope C s₀ H₀ fp N' E') tg g)
  (hif:∀ C s₀ H₀ fp E',EK C s₀ H₀ fp E'→PIf (X.comp scope C s₀ H₀ fp N' E') ifs ti)
  (he:∀ C s₀ H₀ fp E',EK C s₀ H₀ fp E'→PE (X.comp scope C s₀ H₀ fp N' E') elt te)
  (hk:scope.kind = .function) (hb:zwc scope X.env=true) (hcap:zmq X scope N' nt cap=true)
  (hgk:zjh nt g) (hs:∀ x,foldedSetIterable iter X.env x=pure x):PE X (.ListComp elt [⟨tg,iter,ifs,0⟩] scope pos) (zzt wi nt cap g ti te) := .mk <| by
 intro pins s σ H Q I h
 rw [eval_ListComp]
 have hclos:closureFor scope X.env=pure (clOf scope X.env):=zag λ p hp e=>I.ok.has p.1 (zwb hb p hp e)
 refine wpAny_comprehension_free (use:=none) rfl hs hclos hk (zjd hb) (thn (hi pins s σ H _ I h) λ v s1 h1=>thn h1 λ itv s2 h2=>?_)
 obtain ⟨it,fp,tn,J,H2,e,I2,T,st2,f2,q2⟩:=h2
 subst e
 refine wpAny_newObj_type (wpAny_newFunctionEnv (znc hb) (by intro y hy;simp at hy) (λ h₁ hns₁ hsb₁=>?_) hk)
 have I3:=I2.lnew (ys:=[]) (its:=[]) (t':=s2.toks) .nil (Nat.zero_le _)
 have hfl:∀ b∈fp,b<s2.heap.objs.size:=λ b hb'=>let ⟨o,e,_⟩:=T.obj 0 _ st2 b hb';Heap.lt_size e
 obtain ⟨W,⟨m0,w0⟩,turn⟩:=q2 s2.heap.objs.size (I2.hok.fresh (Nat.le_refl _))
 have nD:∀ b∈fp,b≠s2.heap.objs.size:=λ b hb'=>Nat.ne_of_lt (hfl b hb')
 have f3:∀ b∈fp,FpOk X pins (upd H2 s2.heap.objs.size (.lst [])) b:=λ b hb'=>⟨by rw [zja (nD b hb')];exact (f2 b hb').1,(f2 b hb').2⟩
 obtain ⟨s3,hs3⟩:∃ s3:Shared,s3={ s2 with heap:=s2.heap.push { cls := .type "list",data := .seq ([]:List Value).toArray },toks:=s2.toks }:=⟨_,rfl⟩
 have hs3':s3.heap=s2.heap.push { cls := .type "list",data := .seq ([]:List Value).toArray }:=by rw [hs3]
 rw [← hs3] at I3
 have hsz:s3.heap.objs.size=s2.heap.objs.size+1:=by rw [hs3',Heap.size_push]
 have hfl3:∀ b∈fp,b<s3.heap.objs.size:=λ b hb'=>by rw [hsz];exact Nat.lt_succ_of_lt (hfl b hb')
 have hC:(s2.heap.push { cls:=Value.type "list",dict:=none,data:=Data.seq ([]:List Value).toArray }).objs.size=s3.heap.objs.size:=by rw [hs3']
 dsimp only at hns₁ hsb₁ ⊢
 rw [hC] at hns₁ hsb₁ ⊢
 rw [← hs3'] at hsb₁
 have kp:∀ b o,s3.heap.get? b=some o→h₁.get? b=some o:=λ b o e=>hsb₁.extBut b o (Nat.ne_of_lt (Heap.lt_size e)) (Heap.get?_push_of_some _ e)
 have hEE:=hE pins σ s3 _ fp Q s2.heap.objs.size I3 f3
 generalize hE':(notedBy (model X.prog X.w) X.A (compEnvC scope (clOf scope X.env) s3.heap.objs.size X.env) λ e s'=>compPost (model X.prog X.w) X.A X.xe none (EP X pins σ Q) (.ref s2.heap.objs.size) s3.heap.objs.size (.error e) s')=E' at hEE
 have I4:=zbg (t4:=s2.toks+([]:List (Str×Value)).length) (E':=E') I3 hk hb hcap f3 hfl3 hns₁ kp
 have st4:tn 0 h₁:=T.keep 0 _ _ st2 λ b hb' o e=>kp b o (by rw [hs3'];exact Heap.get?_push_of_some _ e)
 obtain ⟨s4,hs4⟩:∃ s4:Shared,s4={ s3 with heap:=h₁,toks:=s2.toks+([]:List (Str×Value)).length }:=⟨_,rfl⟩
 rw [← hs4] at I4
 have st4':tn 0 s4.heap:=by rw [hs4];exact st4
 have cin:∀ x c,(clOf scope X.env).lookup x=some c→X.env.cells.lookup x=some c:=λ x c e=>zrv scope.names [] (λ y d q=>by simp at q) e
 have stat:∀ {H':Hp},(∀ b∈fp,H' b=none)→∀ b∈fp,FpOk (X.comp scope s3.heap.objs.size s3 (upd H2 s2.heap.objs.size (.lst [])) fp N' E') [] H' b:=λ hn b hb'=>by
  refine ⟨hn b hb',Nat.ne_of_lt (hfl3 b hb'),λ z=>?_,.inl hb',λ x c e=>(f3 b hb').2.2.2.2.1 x c (cin x c e),λ p hp=>absurd hp (by simp [Cx.comp])⟩
  rcases List.mem_cons.mp (I3.stkSub b z) with z | z
  ·exact (f3 b hb').2.1 z
  ·exact (f3 b hb').2.2.1 z
 have loop:codeAny (model X.prog X.w) X.A (.compLoop (.ListComp elt [⟨tg,iter,ifs,0⟩] scope pos) 0 (.ref it) (.ref s2.heap.objs.size) (compEnvC scope (clOf scope X.env) s3.heap.objs.size X.env))
   (compPost (model X.prog X.w) X.A X.xe none (EP X pins σ Q) (.ref s2.heap.objs.size) s3.heap.objs.size) s4:=by
  refine zld (λ n s'=>∃ i ys H',Inv (X.comp scope s3.heap.objs.size s3 (upd H2 s2.heap.objs.size (.lst [])) fp N' E') [] (List.replicate nt none++caps cap σ) H' s'∧tn i s'.heap∧(∀ b∈fp,H' b=none)∧W i n ys H') ?_ m0
   ⟨0,[],_,I4,st4',λ b hb'=>(f3 b hb').1,w0⟩
  rintro n s5 ⟨i,ys,H5,I5,st5,fr5,w5⟩
  rw [hE']
  obtain ⟨hD5,alt⟩:=turn i n ys H5 w5
  rcases alt with ⟨stop,qn⟩ | ⟨go,hyl,step⟩
  ·refine thn (T.done (X.comp scope s3.heap.objs.size s3 (upd H2 s2.heap.objs.size (.lst [])) fp N' E') rfl rfl rfl hc i [] s5 _ H5 E' I5 (stat fr5) st5 stop) λ r s6 ⟨hr,I6⟩=>?_
   subst hr
   obtain ⟨m6,hn6,_⟩:=I6.loc
   refine ⟨m6,hn6,λ h' hsb'=>?_⟩
   have I7:=zmi I3 f3 I6
   refine ⟨.ref s2.heap.objs.size,H5,?_,rfl,qn⟩
   refine I7.turnedL (ch:=[s3.heap.objs.size]) (t':=s6.toks) (λ b hb'=>?_) λ b u hb' e=>(hsb'.2 b λ z=>hb' (by simp [z])).trans e
   have eb:b=s3.heap.objs.size:=by simpa using hb'
   subst eb
   exact I3.fpOk (Nat.le_refl _) I6.free
  ·refine thn (T.item (X.comp scope s3.heap.objs.size s3 (upd H2 s2.heap.objs.size (.lst [])) fp N' E') rfl rfl rfl hc i [] s5 _ H5 E' I5 (stat fr5) st5 go) λ r s6 ⟨u,hr,h6⟩=>?_
   subst hr
   refine thn h6 λ _ s7 ⟨x,H7,I7,r7,y7,st7,fr7⟩=>?_
   have I7':=I7.pinned (stat fr7) (T.obj _ _ st7)
   have again:∀ {σ8:St} {H8:Hp} {ys':List V} {s8:Shared},Inv (X.comp scope s3.heap.objs.size s3 (upd H2 s2.heap.objs.size (.lst [])) fp N' E') ([]++zlj fp s7.heap) σ8 H8 s8→(∃ m',m'<n∧W (i+1) m' ys' H8)→(∀ (j:Nat) v,(List.replicate nt none++caps cap σ)[j]? = some (some v)→σ8[j]? = some (some v)) →
     ∃ m,m<n∧∃ i ys H',Inv (X.comp scope s3.heap.objs.size s3 (upd H2 s2.heap.objs.size (.lst [])) fp N' E') [] (List.replicate nt none++caps cap σ) H' s8∧tn i s8.heap∧(∀ b∈fp,H' b=none)∧W i m ys H':=fun {σ8 H8 ys' s8} I8 ⟨m',hm,w8⟩ hσ=>by
    refine ⟨m',hm,i+1,ys',H8,I8.unpinned.weak (by rw [I8.len,I5.len]) hσ,T.keep _ _ _ st7 λ b hb o e=>(I8.pin (b,o) (List.mem_append_right _ (List.mem_append_right _ (zmb hb e)))).1,λ b hb=>?_,w8⟩
    obtain ⟨o,e,d⟩:=T.obj _ _ st7 b hb
    exact (I8.pin (b,o) (List.mem_append_right _ (List.mem_append_right _ (zmb hb e)))).2.1
   refine thn (hg _ _ _ _ _ hEE _ s7 _ H7 x u _ I7' r7 (hgk x _ H7 _ (step x H7 y7))) λ _ s8 ⟨σ8,H8,I8,q8,hσ⟩=>?_
   refine thn (hif _ _ _ _ _ hEE _ s8 σ8 H8 _ I8 q8) λ ok s9 ⟨H9,I9,q9⟩=>?_
   cases ok with
   | false =>
    rw [if_neg Bool.false_ne_true] at q9 ⊢
    exact again I9 q9 hσ
   | true =>
    rw [if_pos rfl] at q9 ⊢
    refine thn (he _ _ _ _ _ hEE _ s9 σ8 H9 _ I9 q9) λ y s10 ⟨vy,H10,I10,r10,hD10,hm10⟩=>?_
    exact thn (zad (X:=X.comp scope s3.heap.objs.size s3 (upd H2 s2.heap.objs.size (.lst [])) fp N' E') _ s10 σ8 H10 (.ref s2.heap.objs.size) [vy] (.ref s2.heap.objs.size) [y] (λ _ H'=>H'=upd H10 s2.heap.objs.size (.lst (ys++[vy]))) I10 rfl (.cons r10 .nil) ⟨_,_,_,rfl,rfl,hD10,hyl,rfl⟩) λ _ s11 ⟨_,H11,I11,_,e11⟩=>by
     subst e11
     exact again I11 hm10 hσ
 have e4:({ s2 with heap:=h₁,toks:=s2.toks+([]:List (Str×Value)).length }:Shared)=s4:=by rw [hs4,hs3]
 show codeAny _ _ _ _ { s2 with heap:=h₁,toks:=s2.toks+([]:List (Str×Value)).length }
 rw [e4]
 exact codeAny_compStart_list loop (T.self X.A 0 s4 _ _ st4' loop)
theorem zeq {elt tg iter:Expr} {ifs:List Expr} {scope:Scope} {pos:Pos} {wi:TI} {g:TG} {ti:TT} {te:TE} (N':List Str) (nt:Nat) (cap:List Nat)
  (hc:X.calm=true) (hi:PI X tg iter wi) (hgk:zjh nt g)
  (hg:∀ C s₀ H₀ fp E',PG (X.comp scope C s₀ H₀ fp N' E') tg g)
  (hif:∀ C s₀ H₀ fp E',PIf (X.comp scope C s₀ H₀ fp N' E') ifs ti)
  (he:∀ C s₀ H₀ fp E',PE (X.comp scope C s₀ H₀ fp N' E') elt te)
  (hk:scope.kind = .function:=by rfl) (hb:zwc scope X.env=true:=by rfl) (hcap:zmq X scope N' nt cap=true:=by rfl)
  (hs:∀ x,foldedSetIterable iter X.env x=pure x:=by intro _;rfl):PE X (.ListComp elt [⟨tg,iter,ifs,0⟩] scope pos) (zzt wi nt cap g ti te) :=
 zrn (λ _ _ _ _ _=>True) (λ _ _ _ _ _ _ _ _ _=>trivial) hc hi (λ C s₀ H₀ fp E' _=>hg C s₀ H₀ fp E') (λ C s₀ H₀ fp E' _=>hif C s₀ H₀ fp E') (λ C s₀ H₀ fp E' _=>he C s₀ H₀ fp E') hk hb hcap hgk hs
end
end L2
namespace L2
open PySem PySem.Spec PyProof.Rows
section
variable {X:Cx}
noncomputable def rSlS:V→Option Int→Option Int→Hp→VK→Prop:=λ x lo hi H Q=>∃ z,x = .str z∧z.length≤sizeLine∧Q (.str (Txt.slice z lo hi)) H
theorem ziu:SlR X rSlS:=by
 intro pins s σ H x v vl vu lo hi sl Q I rx hs pl pu h
 obtain ⟨z,rfl,hz,q⟩:=h
 obtain ⟨t,rfl⟩:=rx
 refine ⟨"str",_,F.slot_str_getitem.lookup,typeIs_str _ _ _,?_⟩
 cases pl with
 | none =>
  cases pu with
  | none=>exact wpAny_getItem_str_slice (l:=none) (u:=none) (st:=none) hs rfl (post_val_or_str ⟨Nat.le_trans (Txt.slice_le z _ _) hz,λ t' k=>⟨.str (Txt.slice z _ _),H,I.tok k,⟨t',rfl⟩,q⟩⟩)
  | int j u=>exact wpAny_getItem_str_slice (l:=none) (u:=some (j,u)) (st:=none) hs rfl (post_val_or_str ⟨Nat.le_trans (Txt.slice_le z _ _) hz,λ t' k=>⟨.str (Txt.slice z _ _),H,I.tok k,⟨t',rfl⟩,q⟩⟩)
 | int i u' =>
  cases pu with
  | none=>exact wpAny_getItem_str_slice (l:=some (i,u')) (u:=none) (st:=none) hs rfl (post_val_or_str ⟨Nat.le_trans (Txt.slice_le z _ _) hz,λ t' k=>⟨.str (Txt.slice z _ _),H,I.tok k,⟨t',rfl⟩,q⟩⟩)
  | int j u=>exact wpAny_getItem_str_slice (l:=some (i,u')) (u:=some (j,u)) (st:=none) hs rfl (post_val_or_str ⟨Nat.le_trans (Txt.slice_le z _ _) hz,λ t' k=>⟨.str (Txt.slice z _ _),H,I.tok k,⟨t',rfl⟩,q⟩⟩)
end
end L2
namespace L2
open PySem PySem.Spec PyProof.Rows
noncomputable def okHO:HO→Prop
 | .dT _=>False
 | .frz _ (.lst _)=>True
 | .frz _ _=>False
 | _=>True
noncomputable def Plain (H:Hp):Prop:=∀ a o,H a=some o→okHO o
theorem Plain.upd {H:Hp} {l:Addr} {o:HO} (p:Plain H) (h:okHO o):Plain (upd H l o):=λ a u e=>by
 by_cases ha:a=l
 ·subst ha;rw [upd_same] at e;cases e;exact h
 ·rw [zja ha] at e;exact p a u e
theorem Plain.lst {H:Hp} {l:Addr} {xs:List V} (p:Plain H):Plain (L2.upd H l (.lst xs)):=p.upd trivial
theorem Plain.tup {H:Hp} {l:Addr} {xs:List V} (p:Plain H):Plain (L2.upd H l (.tup xs)):=p.upd trivial
theorem Only.plain {H:Hp} (h:Only H):Plain H:=λ a o e=>by
 rcases h a with z | ⟨o',xs,z⟩
 ·rw [z] at e;cases e
 ·rw [z] at e;cases e;exact trivial
section
variable {P:Program} {w:World} {K:W.Frag} {mg:Str→Option Value} {base:Heap} {CX:CXT} {k:Nat} {f:Addr} {fd:FuncData} {ps:List Str}
end
theorem Same.upd {H H':Hp} {l:Addr} {o:HO} (s:Same H H') (hl:H l=none):Same H (L2.upd H' l o):=λ b z e=>by
 rw [zja (zha e hl)];exact s b z e
theorem zea {H:Hp} {l:Addr} {o:HO} (hl:H l=none):Same H (upd H l o):=(Same.refl H).upd hl
theorem zhl {p:Prop} [Decidable p] {A B:Prop} (h1:p→A) (h2:¬ p→B):if decide p=true then A else B:=by
 by_cases h:p
 ·rw [if_pos (decide_eq_true h)];exact h1 h
 ·rw [if_neg (by simpa using h)];exact h2 h
theorem zi1 {p:Prop} [Decidable p] {A B:Prop} (h1:¬ p→A) (h2:p→B):if (!decide p)=true then A else B:=by
 by_cases h:p
 ·rw [if_neg (by simpa using h)];exact h2 h
 ·rw [if_pos (by simpa using h)];exact h1 h
theorem zuz {G C:Prop} (h1:G→C) (h2:G):C:=h1 h2
end L2
namespace L2
open PySem PySem.Spec PyProof.Rows
structure Fly (new:Addr→Prop) (H:Hp) (x C:Addr) (h:Heap):Prop where
 ob:∃ oe vs,h.get? x=some oe∧oe.cls = .ref C∧oe.dict=none∧oe.data = .fields vs∧1<vs.size ∧
  (vs[1]? = some .none ∨ ∃ T oT ts,vs[1]? = some (.ref T)∧T≠x∧h.get? T=some oT∧oT.data = .fields ts∧3<ts.size∧new T∧H T=none)
 new:new x
 free:H x=none
theorem Fly.imp {n n':Addr→Prop} {H:Hp} {x C:Addr} {h:Heap} (f:Fly n H x C h) (k:∀ b,n b→n' b):Fly n' H x C h:=by
 obtain ⟨⟨oe,vs,a,b,c,d,e,g⟩,hn,hf⟩:=f
 refine ⟨⟨oe,vs,a,b,c,d,e,g.imp id ?_⟩,k _ hn,hf⟩
 rintro ⟨T,oT,ts,a,b,c,d,e,f,g⟩
 exact ⟨T,oT,ts,a,b,c,d,e,k _ f,g⟩
theorem zjn (o:Obj) (f:Array Value→Array Value):(o.mapFields f).dict=o.dict:=by
 obtain ⟨c,d,dt,sl⟩:=o
 cases dt <;> rfl
section
variable {M:Model} {A:Around} {E:Value→Shared→Prop} {s:Shared}
theorem zuh {env env':Env} (h:env.frame=env'.frame):PySem.frameOf env=PySem.frameOf env':=by
 unfold PySem.frameOf
 rw [h]
theorem zff {env env':Env} {e:Value} (h:env.frame=env'.frame):noteFrame e env=noteFrame e env':=by
 unfold noteFrame
 rw [zuh h,h]
structure Kept (x T:Addr) (frames:List Addr) (h h':Heap):Prop where
 keep:∀ b o,b≠x→b≠T→b∉frames→h.get? b=some o→h'.get? b=some o
 slot:∀ b o,b≠x→b≠T→h.get? b=some o→∃ sl,h'.get? b=some { o with slots:=sl }
theorem zei {base:Heap} {env:Env} {outer:List Env} {L x:Addr} {oe:Obj} {vs:Array Value} {head:Value} {hadNext:Bool} {Q:Unit→Shared→Prop}
  (hfr:A.frames=some (env::outer)) (hl:s.heap.FunFrames base (env::outer)) (hf:env.frame=some L)
  (he:s.heap.get? x=some oe) (hd:oe.data = .fields vs) (hz:1<vs.size)
  (h:∀ h' T,(∃ oe' vs',h'.get? x=some oe'∧oe'.cls=oe.cls∧oe'.dict=oe.dict∧oe'.data = .fields vs'∧1<vs'.size∧vs'[1]? = some (.ref T))→(∃ oT ts,h'.get? T=some oT∧oT.data = .fields ts∧3<ts.size)→s.heap.objs.size≤T →
   Kept x x (frs (env::outer)) s.heap h'→Q () { s with heap:=h' }) :
  wpAny M A (do let a ← PySem.frameOf env;let pl ← entryPlaceOf L hadNext;let b ← EntryCells.newEntry head a .none (rawInt L) .none pl;setField (.ref x) 1 b) Q E s:=by
 have xnf:x∉(env::outer).filterMap (·.frame):=λ hm=>by
  obtain ⟨_,o,ho,hnf⟩:=hl.mem hm
  rw [he] at ho
  cases ho
  exact hnf vs hd
 refine wpAny_bind (wpAny_frameOf_fun hfr hl hf λ h1 g1=>?_)
 refine wpAny_bind (wpAny_entryPlaceOf λ pl hpl=>?_)
 unfold EntryCells.newEntry newFields
 refine wpAny_bind (wpAny_newObj_type ?_ (hpl.sizeOk5 _ _ _ _ _))
 have e1:h1.get? x=some oe:=(g1.2.1 x xnf).trans he
 have lt1:x<h1.objs.size:=Heap.lt_size e1
 have e2:=Heap.get?_push_of_some (h:=h1) { cls := .type "traceback",dict:=none,data := .fields ([head,.ref L,.none,rawInt L,.none]++(if pl.isEmpty then List.replicate 6 Value.none else pl)).toArray } e1
 have dm:=Obj.data_mapFields hd (·.setIfInBounds 1 (Value.ref h1.objs.size))
 refine wpAny_setField e2 hd hz (h _ h1.objs.size ⟨_,_,Heap.get?_update_self _ e2 (Obj.isFreed_of_fields dm),Obj.cls_mapFields _ _,zjn _ _,dm,by simpa using hz,by simp [hz]⟩
  ⟨_,_,(Heap.get?_update_other _ _ (Nat.ne_of_lt lt1)).trans (Heap.get?_push_size _ rfl),rfl,by simp only [List.size_toArray,List.length_append,List.length_cons];omega⟩ (by rw [g1.1];exact Nat.le_refl _) ⟨λ b o bx _ bf eb=>?_,λ b o bx _ eb=>?_⟩)
 ·rw [Heap.get?_update_other _ _ (Ne.symm bx)]
  exact Heap.get?_push_of_some _ ((g1.2.1 b bf).trans eb)
 ·obtain ⟨sl,q⟩:=g1.2.2 b o eb
  exact ⟨sl,by rw [Heap.get?_update_other _ _ (Ne.symm bx)];exact Heap.get?_push_of_some _ q⟩
end
section
variable {X:Cx} {σ:St} {H:Hp} {s:Shared} {x C:Addr}
noncomputable def Cx.new (X:Cx) (b:Addr):Prop:=(∀ o,X.s₀.heap.get? b=some o→b∈X.ex)∧∀ p∈X.pn,p.1≠b
theorem Inv.stepN {h':Heap} {t':Nat} {ch:List Addr} (I:Inv X [] σ H s) (hch:∀ b∈ch,X.new b∧H b=none∧b≠X.env.locals∧∀ y c,X.env.cells.lookup y=some c→c≠b)
  (keep:∀ b o,b∉ch→b∉frs X.stack→s.heap.get? b=some o→h'.get? b=some o) (slot:∀ b o,b∉ch→s.heap.get? b=some o→∃ sl,h'.get? b=some { o with slots:=sl }) :
  Inv X [] σ H { s with heap:=h',toks:=t' }:=by
 have old:∀ b o,X.s₀.heap.get? b=some o→b∉X.ex→b∉ch:=λ b o e hx hb=>hx ((hch b hb).1.1 o e)
 have neL:∀ b o,X.s₀.heap.get? b=some o→b≠X.env.locals:=λ b o e=>Nat.ne_of_lt (Nat.lt_of_lt_of_le (Heap.lt_size e) I.ok.above)
 have trk:∀ b u,H b=some u→b∉ch:=λ b u e hb=>by have:=(hch b hb).2.1;rw [e] at this;cases this
 have trs:∀ b u,H b=some u→b∉frs X.stack:=λ b u e hb=>by have:=I.stkFree b hb;rw [e] at this;cases this
 have nfs:∀ b,b≠X.env.locals→b∉X.fs→b∉frs X.stack:=λ b h1 h2 z=>(List.mem_cons.mp (I.stkSub b z)).elim h1 h2
 have cellK:∀ y c,X.env.cells.lookup y=some c→∀ v,s.heap.IsCell c v→h'.IsCell c v:=λ y c e v ⟨o,ho,hd⟩=>by
  obtain ⟨sl,q⟩:=slot c o (λ z=>(hch c z).2.2.2 y c e rfl) ho
  exact ⟨_,q,hd⟩
 refine ⟨I.ok,I.os,I.bare,⟨λ b o e n hb hx=>?_,λ b o e n hb hx=>?_,I.base.free,λ b o e hx=>?_,I.base.tups,I.base.frzs,I.base.tbls⟩,?_,λ y c e=>?_,I.free,I.freeC,λ p hp=>?_,λ b u e=>?_,I.len⟩
 ·exact keep b o (old b o e hx) (nfs b (neL b o e) hb) (I.base.keep b o e n hb hx)
 ·obtain ⟨sl,q⟩:=I.base.slot b o e n hb hx
  obtain ⟨sl',q'⟩:=slot b _ (old b o e hx) q
  exact ⟨sl',q'⟩
 ·obtain ⟨o',q⟩:=I.base.there b o e hx
  obtain ⟨sl,q'⟩:=slot b o' (old b o e hx) q
  exact ⟨_,q'⟩
 ·obtain ⟨m,⟨o,es,ep,ho,r⟩,hl⟩:=I.loc
  obtain ⟨sl,q⟩:=slot _ o (λ z=>(hch _ z).2.2.1 rfl) ho
  refine ⟨m,⟨_,es,ep,q,r⟩,λ i y v e1 e2 e3=>?_⟩
  obtain ⟨u,ru,lk⟩:=hl i y v e1 e2 e3
  exact ⟨u,ru,lk.imp id λ ⟨k,c,e,z⟩=>⟨k,c,e,cellK y c e _ z⟩⟩
 ·obtain ⟨v,z⟩:=I.cell y c e
  exact ⟨v,cellK y c e v z⟩
 ·obtain ⟨e,n,ne,nf,d⟩:=I.pin p hp
  have hp':p∈X.pn:=by simpa using hp
  exact ⟨keep p.1 p.2 (λ z=>(hch p.1 z).1.2 p hp' rfl) (nfs p.1 ne nf) e,n,ne,nf,d⟩
 ·refine (I.hok b u e).stay (λ c v hc q=>?_) (λ _ q=>q) λ _ _ q=>q
  rcases hc with rfl | hc
  ·exact keep c v (trk c u e) (trs c u e) q
  ·exact keep c v (trk c _ hc) (trs c _ hc) q
theorem Inv.fieldsNe (I:Inv X [] σ H s) {b:Addr} {o:Obj} {vs:Array Value} (e:s.heap.get? b=some o) (d:o.data = .fields vs):b≠X.env.locals∧(∀ y c,X.env.cells.lookup y=some c→c≠b)∧b∉frs X.stack:=by
 refine ⟨λ z=>?_,λ y c ec z=>?_,λ z=>?_⟩
 ·obtain ⟨m,⟨o',es,ep,ho,r,_⟩,_⟩:=I.loc
  rw [← z,e] at ho
  cases ho
  rw [d] at r
  cases r
 ·obtain ⟨v,o',ho,hd⟩:=I.cell y c ec
  rw [z,e] at ho
  cases ho
  rw [d] at hd
  cases hd
 ·obtain ⟨_,o',ho,hnf⟩:=I.stack.mem z
  rw [e] at ho
  cases ho
  exact hnf vs d
theorem Inv.kept2 {h':Heap} {T:Addr} (I:Inv X [] σ H s) (F:Fly X.new H x C s.heap) (hT:T=x ∨ ∃ oe vs oT ts,s.heap.get? x=some oe∧oe.data = .fields vs∧vs[1]? = some (.ref T)∧s.heap.get? T=some oT∧oT.data = .fields ts)
  (k:Kept x T (frs X.stack) s.heap h'):Inv X [] σ H { s with heap:=h' }:=by
 obtain ⟨oe,vs,e,_,_,d,_,tb⟩:=F.ob
 have one:X.new x∧H x=none∧x≠X.env.locals∧∀ y c,X.env.cells.lookup y=some c→c≠x:=⟨F.new,F.free,(I.fieldsNe e d).1,(I.fieldsNe e d).2.1⟩
 have two:X.new T∧H T=none∧T≠X.env.locals∧∀ y c,X.env.cells.lookup y=some c→c≠T:=by
  rcases hT with rfl | ⟨oe',vs',oT,ts,e',d',v',eT,dT⟩
  ·exact one
  ·rw [e] at e'
   cases e'
   rw [d] at d'
   cases d'
   rcases tb with z | ⟨T',oT',ts',v,_,_,_,_,hn,hf⟩
   ·rw [z] at v';cases v'
   ·rw [v] at v'
    cases v'
    exact ⟨hn,hf,(I.fieldsNe eT dT).1,(I.fieldsNe eT dT).2.1⟩
 refine I.stepN (ch:=[x,T]) (λ b hb=>?_) (λ b o hb hs q=>k.keep b o (λ z=>hb (by simp [z])) (λ z=>hb (by simp [z])) hs q) λ b o hb q=>k.slot b o (λ z=>hb (by simp [z])) (λ z=>hb (by simp [z])) q
 have:b=x ∨ b=T:=by simpa using hb
 rcases this with rfl | rfl
 ·exact one
 ·exact two
structure Cx.Top (X:Cx):Prop where
 top:∃ env outer L,X.stack=env::outer∧env.frame=some L∧X.env.frame=some L
theorem Cx.newAt {X:Cx} {σ:St} {H:Hp} {s:Shared} (I:Inv X [] σ H s) {T:Addr} (h:s.heap.objs.size≤T):X.new T:=by
 refine ⟨λ o q=>?_,λ p hp z=>?_⟩
 ·exact absurd (Nat.lt_of_lt_of_le (Heap.lt_size q) (Nat.le_trans I.sz h)) (Nat.lt_irrefl _)
 ·have:=Heap.lt_size (I.pin p (List.mem_append_left _ hp)).1
  rw [z] at this
  exact absurd (Nat.lt_of_lt_of_le this h) (Nat.lt_irrefl _)
theorem zlm {E:Value→Shared→Prop} {Q:Unit→Shared→Prop} (I:Inv X [] σ H s) (tp:X.Top) (F:Fly X.new H x C s.heap)
  (h:∀ h',Inv X [] σ H { s with heap:=h' }→Fly X.new H x C h'→(∃ oe vs T,h'.get? x=some oe∧oe.data = .fields vs∧vs[1]? = some (.ref T))→Q () { s with heap:=h' }) :
  wpAny (model X.prog X.w) X.A (noteFrame (.ref x) X.env) Q E s:=by
 obtain ⟨env,outer,L,hst,hf,hfe⟩:=tp.top
 have hfr:X.A.frames=some (env::outer):=by rw [I.ok.frames,hst]
 have hl:s.heap.FunFrames X.base (env::outer):=by rw [← hst];exact I.stack
 obtain ⟨oe,vs,e,ec,ed,d,z,tb⟩:=id F.ob
 rw [zff (show X.env.frame=env.frame by rw [hfe,hf])]
 unfold noteFrame
 simp only [hf]
 rcases tb with v | ⟨T,oT,ts,v,nx,eT,dT,zT,hn,hfT⟩
 ·refine wpAny_bind (wpAny_field e d v ?_)
  rw [if_neg (by decide)]
  refine zei hfr hl hf e d z λ h' T ⟨oe',vs',a1,a2,a3,a4,a5,a6⟩ ⟨oT,ts,b1,b2,b3⟩ hz k=>?_
  rw [← hst] at k
  refine h h' (I.kept2 F (.inl rfl) k) ⟨⟨oe',vs',a1,a2.trans ec,a3.trans ed,a4,a5,.inr ⟨T,oT,ts,a6,?_,b1,b2,b3,Cx.newAt I hz,I.hok.fresh hz⟩⟩,F.new,F.free⟩ ⟨_,_,_,a1,a4,a6⟩
  exact Nat.ne_of_gt (Nat.lt_of_lt_of_le (Heap.lt_size e) hz)
 ·refine wpAny_bind (wpAny_field e d v ?_)
  rw [if_pos (show (Value.ref T != Value.none)=true from by simp)]
  have v3:ts[3]? = some ts[3]:=by simp [zT]
  refine wpAny_bind (wpAny_field eT dT v3 ?_)
  by_cases hq:(ts[3] == rawInt L)=true
  ·rw [if_pos hq]
   exact wpAny_pure (h s.heap I F ⟨_,_,_,e,d,v⟩)
  ·rw [if_neg hq]
   refine wpAny_bind (wpAny_setField eT dT zT ?_)
   have oth:∀ b,b≠T→(s.heap.update T (Obj.mapFields (·.setIfInBounds 3 Value.none))).get? b=s.heap.get? b:=λ b hb=>Heap.get?_update_other _ _ (Ne.symm hb)
   have e2:(s.heap.update T (Obj.mapFields (·.setIfInBounds 3 Value.none))).get? x=some oe:=(oth x (Ne.symm nx)).trans e
   have hl2:(s.heap.update T (Obj.mapFields (·.setIfInBounds 3 Value.none))).FunFrames X.base (env::outer):=hl.of_keeps λ b o ho hnf=>⟨o,(oth b λ q=>by rw [q,eT] at ho;cases ho;exact hnf ts dT).trans ho,rfl⟩
   refine zei (s:={ s with heap:=s.heap.update T (Obj.mapFields (·.setIfInBounds 3 Value.none)) }) hfr hl2 hf e2 d z λ h' T' ⟨oe',vs',a1,a2,a3,a4,a5,a6⟩ ⟨oT',ts',b1,b2,b3⟩ hz k=>?_
   rw [← hst] at k
   have hz':s.heap.objs.size≤T':=by
    have e3:(s.heap.update T (Obj.mapFields (·.setIfInBounds 3 Value.none))).objs.size=s.heap.objs.size:=Heap.size_after_update ..
    have hz2:(s.heap.update T (Obj.mapFields (·.setIfInBounds 3 Value.none))).objs.size≤T':=hz
    omega
   have k':Kept x T (frs X.stack) s.heap h':=⟨λ b o b1 b2 b3 q=>k.keep b o b1 b1 b3 ((oth b b2).trans q),λ b o b1 b2 q=>k.slot b o b1 b1 ((oth b b2).trans q)⟩
   refine h h' (I.kept2 F (.inr ⟨_,_,_,_,e,d,v,eT,dT⟩) k') ⟨⟨oe',vs',a1,a2.trans ec,a3.trans ed,a4,a5,.inr ⟨T',oT',ts',a6,?_,b1,b2,b3,Cx.newAt I hz',I.hok.fresh hz'⟩⟩,F.new,F.free⟩ ⟨_,_,_,a1,a4,a6⟩
   exact Nat.ne_of_gt (Nat.lt_of_lt_of_le (Heap.lt_size e) hz')
theorem zod {A:Around} {E:Value→Shared→Prop} {Q:Unit→Shared→Prop} {f:Option Addr} (I:Inv X [] σ H s) (F:Fly X.new H x C s.heap) (ht:∃ oe vs T,s.heap.get? x=some oe∧oe.data = .fields vs∧vs[1]? = some (.ref T))
  (h:∀ h',Inv X [] σ H { s with heap:=h' }→Fly X.new H x C h'→(∃ oe vs T,h'.get? x=some oe∧oe.data = .fields vs∧vs[1]? = some (.ref T))→Q () { s with heap:=h' }) :
  wpAny (model X.prog X.w) A (setFlight (.ref x) f) Q E s:=by
 obtain ⟨oe,vs,e,ec,ed,d,z,tb⟩:=id F.ob
 obtain ⟨oe',vs',T,e',d',v⟩:=ht
 rw [e] at e'
 cases e'
 rw [d] at d'
 cases d'
 rcases tb with v' | ⟨T',oT,ts,v',nx,eT,dT,zT,hn,hfT⟩
 ·rw [v'] at v;cases v
 rw [v'] at v
 cases v
 unfold setFlight
 refine wpAny_bind (wpAny_field e d v' ?_)
 rw [if_pos (show (Value.ref T != Value.none)=true from by simp)]
 refine wpAny_setField eT dT zT ?_
 have oth:∀ b,b≠T→(s.heap.update T (Obj.mapFields (·.setIfInBounds 3 (f.elim Value.none λ f=>rawInt f)))).get? b=s.heap.get? b:=λ b hb=>Heap.get?_update_other _ _ (Ne.symm hb)
 have dm:=Obj.data_mapFields dT (·.setIfInBounds 3 (f.elim Value.none λ f=>rawInt f))
 have e2:=(oth x (Ne.symm nx)).trans e
 refine h _ (I.kept2 F (.inr ⟨_,_,_,_,e,d,v',eT,dT⟩) ⟨λ b o _ b2 _ q=>(oth b b2).trans q,λ b o _ b2 q=>⟨o.slots,(oth b b2).trans q⟩⟩)
  ⟨⟨oe,vs,e2,ec,ed,d,z,.inr ⟨T,_,_,v',nx,Heap.get?_update_self _ eT (Obj.isFreed_of_fields dm),dm,by simpa using zT,hn,hfT⟩⟩,F.new,F.free⟩ ⟨_,_,_,e2,d,v'⟩
end
end L2
namespace L2
open PySem PySem.Spec PyProof.Rows
noncomputable def CX1 (P:Program) (w:World) (base:Heap):CXT:=λ outer H s E e s'=>∃ (x C:Addr) (H':Hp),e = .ref x∧s'.os=s.os∧AllBare s'.gens∧Un (frs outer) [] H H' s.heap s'.heap∧HOk P w H' s'.heap ∧
 Fly (λ b=>s.heap.get? b=none) H' x C s'.heap∧E (.ref C) none H'
noncomputable def Wants (X:Cx) (E:XK):Prop:=∀ (σ:St) (H':Hp) (s':Shared) (x C:Addr),Inv X [] σ H' s'→Fly X.new H' x C s'.heap→E (.ref C) none H'→X.xe (.ref x) s'
theorem zoy {X:Cx} {pins:List (Addr×Obj)} {σ:St} {H:Hp} {s:Shared} (I:Inv X pins σ H s) {b:Addr} (h:s.heap.get? b=none):X.new b:=by
 refine ⟨λ o e=>?_,λ p hp z=>?_⟩
 ·by_cases hx:b∈X.ex
  ·exact hx
  ·obtain ⟨o',q⟩:=I.base.there b o e hx
   rw [h] at q
   cases q
 ·have:=(I.pin p (List.mem_append_left _ hp)).1
  rw [z,h] at this
  cases this
theorem Inv.nopins {X:Cx} {pins:List (Addr×Obj)} {σ:St} {H:Hp} {s:Shared} (I:Inv X pins σ H s):Inv X [] σ H s:=I.pins_of λ p hp=>absurd hp (by simp)
theorem Wants.passes {X:Cx} {E:XK} (W:Wants X E):ztf (CX1 X.prog X.w X.base) X E:=λ pins σ H s e s' I ⟨x,C,H',ee,os,bare,un,hok,F,q⟩=>by
 subst ee
 have J:Inv X pins σ H' s':=I.call' (ch:=[]) os un hok bare λ b z=>absurd z (by simp)
 exact W σ H' s' x C J.nopins (F.imp λ b hb=>zoy I hb) q
theorem zmc {P:Program} {w:World} {base:Heap} {X:Cx}:ztf (CX1 P w base) X E0:=λ _ _ _ _ _ _ _ ⟨_,_,_,_,_,_,_,_,_,q⟩=>q.elim
theorem ztb {P:Program} {w:World} {K:W.Frag} {mg:Str→Option Value} {base:Heap} {N:List Str} {qual:Str} {scope:Scope} {f:Addr} {cd:Value} {A:Around} {outer:List Env} {s:Shared} {H:Hp} {E:XK} :
  Wants (cxOf (CX1 P w base) P w K mg base N qual scope f cd A outer s H E) E:=λ σ H' s' x C I F q=>by
 refine wpAny_bind (zlm I ⟨⟨_,_,_,rfl,rfl,rfl⟩⟩ F λ h1 I1 F1 t1=>?_)
 refine zod I1 F1 t1 λ h2 I2 F2 _=>?_
 refine ⟨x,C,H',rfl,I2.os,I2.bare,I2.base,I2.hok,F2.imp λ b hb=>?_,q⟩
 cases e:s.heap.get? b with
 | none=>rfl
 | some o=>exact absurd (hb.1 o e) (by simp [cxOf])
section
variable {P:Program} {w:World} {K:W.Frag} {mg:Str→Option Value} {base:Heap}
theorem Fun.okX {x qual:Str} {st:Stmt} {f:Addr} {fd:FuncData} {N ps:List Str} {k:Nat} {sp:Sp} (F:Fun K x qual st f fd) (S:FnScope N ps (zia st)) (len:∀ vs H Q E,sp vs H Q E→vs.length=ps.length)
  (hbody:∀ (cdv:Value) (A:Around) (outer:List Env) (s:Shared) (H:Hp) (vs:List V) (Q:VK) (E:XK),Room k (A.deeper (envOfC qual (zia st) s.heap.objs.size f cdv))→sp vs H Q E →
   ∃ t,PSs (cxOf (CX1 P w base) P w K mg base N qual (zia st) f cdv A outer s H E) (zhd st) t∧t { nx:=λ _ H'=>Q .non H',rt:=Q } (start N vs) H):FnOk P w K mg base (CX1 P w base) (k+1) f fd ps sp:=by
 obtain ⟨oc,od,kV,doc,pm,an,cdv,ct,osl,rfl,lk,hcd⟩:=F.ex
 exact zx0 lk hcd S len λ A outer s H vs Q E hr hsp=>hbody cdv A outer s H vs Q E hr hsp
theorem Fun.okN {x qual:Str} {st:Stmt} {f:Addr} {fd:FuncData} {N ps:List Str} {k:Nat} {sp:Sp} (F:Fun K x qual st f fd) (S:FnScope N ps (zia st)) (len:∀ vs H Q E,sp vs H Q E→vs.length=ps.length)
  (hbody:∀ (cdv:Value) (A:Around) (outer:List Env) (s:Shared) (H:Hp) (vs:List V) (Q:VK) (E:XK),Room k (A.deeper (envOfC qual (zia st) s.heap.objs.size f cdv))→sp vs H Q E →
   ∃ t,PSs (cxOf (CX1 P w base) P w K mg base N qual (zia st) f cdv A outer s H E).nox (zhd st) t∧t { nx:=λ _ H'=>Q .non H',rt:=Q } (start N vs) H):FnOk P w K mg base (CX1 P w base) (k+1) f fd ps sp :=
 F.okX S len λ cdv A outer s H vs Q E hr hsp=>let ⟨t,h,q⟩:=hbody cdv A outer s H vs Q E hr hsp; ⟨t,h.nox,q⟩
end
abbrev bmV:List Value:=[.type "ValueError",.type "Exception",.type "BaseException",.type "object"]
structure XCls (K:W.Frag) (C:Addr):Prop where
 ex:W.excIn K C bmV "ValueError.__new__" = true
 ga:W.findIn K (.ref C) "__getattribute__" = some (some (.builtin "BaseException.__getattribute__"))
 gn:W.findIn K (.ref C) "__getattr__" = some none
 be:W.subIn K (.ref C) (.type "BaseException")=some true
 hd:W.hasDictIn K C=true
 ca:W.findIn K (.ref C) "__class__" = some (some (.builtin "object.__class__"))
 mo:W.mroIn K C (.type "object")=some true
 gs:W.specialIn K (.builtin "object.__class__") "__get__" = some (some (.builtin "getset_descriptor.__get__"))
 tk:W.takesIn K (.builtin "object.__class__")=some true
theorem XCls.obj {K:W.Frag} {C:Addr} {h:Heap} (c:XCls K C) (X:K.In h):∃ bm N nm q bs hdct sn sub ab col dd k0 k1 k2 k3 k5 mN,
  h.get? C=some (excClassObj nm q C N bs bm hdct sn sub ab col dd k0 k1 k2 k3 k5 "ValueError.__new__")∧h.Ns N mN∧mN "__init__" = none∧OwnTail h bmV bm ∧
  ∀ b r,W.mroIn K C b=some r→(Value.ref C::bm).contains b=r:=by
 have q:=c.ex
 unfold W.excIn at q
 split at q
 ·rename_i dd cd sl ho
  split at q
  ·rename_i C' bm k0 k1 k2 k3 n k5 hm hs
   simp only [Bool.and_eq_true,beq_iff_eq,Bool.not_eq_true'] at q
   obtain ⟨⟨⟨⟨⟨rfl,rfl⟩,hdel⟩,ht⟩,hok⟩,hni⟩:=q
   have hmro:∀ b r,W.mroIn K C' b=some r→(Value.ref C'::bm).contains b=r:=λ b r e=>by
    unfold W.mroIn W.clsIn at e
    rw [ho] at e
    simp only [Option.bind_some,hm] at e
    simpa using e
   obtain ⟨nm,bs,mro,ns,qn,hd,sn,sub,ab,col,del⟩:=cd
   dsimp only at hm hdel hok hni
   subst hm hdel
   have hsl:sl = #[k0,k1,k2,k3,some (.builtin "ValueError.__new__"),k5]:=by
    obtain ⟨l⟩:=sl
    simp only at hs
    rw [hs]
   subst hsl
   exact ⟨bm,ns,nm,qn,bs,hd,sn,sub,ab,col,dd,k0,k1,k2,k3,k5,_,X _ _ ho,.of_isNs (W.isNs_of_in X hok),W.nsMap_none_of_in X hok hni,W.tail_of_in X ht,hmro⟩
  ·cases q
 ·cases q
section
variable {X:Cx}
noncomputable def ziy (C:Addr) (E:XK) (ta:TA):TS:=λ _ σ H=>ta σ H λ vs H1=>vs.length≤sizeLine∧E (.ref C) none H1
theorem zye {C:Addr} {E:XK} {n:Str} {e:Expr} {es:List Expr} {ta:TA} {np cpos pos:Pos} (xc:XCls X.K C) (W:Wants X E) (hc:X.calm=true) (hg:Gl X n) (hm:X.mg n=some (.ref C)) (ha:PA X (e::es) ta)
  (hs:starEach (e::es) X.env=(false,eval e X.env)::starEach es X.env:=by rfl) (hp:(backTo cpos (starEach es X.env)).any (·.1)=false:=by rfl) (hdb:(n == ("__debug__" : Str))=false:=by decide) :
  PS X (.Raise (some (.Call (.Name n np) (e::es) [] cpos)) none pos) (ziy C E ta) := .mk <| by
 intro pins s σ H D I h
 obtain ⟨bm,N,nm,q,bs,hdct,sn,sub,ab,col,dd,k0,k1,k2,k3,k5,mN,hC,hN,hni,T,_⟩:=xc.obj I.mod.kin
 refine wpAny_Raise_call_subT (C:=C) (nm:=nm) (q:=q) (N:=N) (bs:=bs) (bm:=bm) (hdct:=hdct) (sn:=sn) (sub:=sub) (ab:=ab) (col:=col) (dd:=dd) (k0:=k0) (k1:=k1) (k2:=k2) (k3:=k3) (k5:=k5)
  PySem.F.excBase_ValueError (mN:=mN) (T.hasType (by decide)) (I.ok.hd hc) (by rw [hs];show (false || (backTo cpos (starEach es X.env)).any (·.1))=false;rw [hp];rfl) hni (zde I hg hm ⟨rfl,?_⟩ hdb)
 have hA:=ha cpos pins s σ H _ I h
 rw [hs] at hA ⊢
 refine Calls.evalArgs_plain (thn hA λ us s1 ⟨vs,H1,I1,r1,hl,hE⟩=>⟨rfl,by rw [← r1.length];exact hl,I1.bk _ _ hC,hN.keeps I1.bk,T.keeps I1.bk,λ h' x mk=>?_⟩)
 obtain ⟨t,e1,_,_⟩:=mk.there
 have J:Inv X [] σ H1 { s1 with heap:=h' }:=(I1.kept (t':=s1.toks) mk.keeps).nopins
 refine W σ H1 _ x C J ⟨⟨_,_,e1,rfl,rfl,rfl,by simp,.inl rfl⟩,zoy I1 mk.new,?_⟩ hE
 cases z:H1 x with
 | none=>rfl
 | some o =>
  have:=(I1.hok x o z)
  have lt:∃ ob,s1.heap.get? x=some ob:=by
   cases o with
   | lst xs=>obtain ⟨_,_,_,_,e⟩:=this;exact ⟨_,e⟩
   | tup xs=>obtain ⟨_,_,_,p⟩:=this;obtain ⟨ob,e,_⟩:=p;exact ⟨_,e⟩
   | dK kvs=>obtain ⟨_,_,_,_,o,_,_,e,_⟩:=this;exact ⟨_,e⟩
   | dT kvs=>obtain ⟨_,_,_,_,o,_,_,e,_⟩:=this;exact ⟨_,e⟩
   | set S n=>obtain ⟨o,_,_,_,e,_⟩:=this;exact ⟨_,e⟩
   | ins C dx fs=>obtain ⟨_,_,_,e,_⟩:=this;exact ⟨_,e⟩
   | own y=>exact this
   | xd fs=>obtain ⟨_,⟨_,_,_,e,_⟩,_⟩:=this;exact ⟨_,e⟩
   | rng lo hi=>obtain ⟨_,_,_,e⟩:=this;exact ⟨_,e⟩
   | frz ob u=>obtain ⟨e,_⟩:=this;exact ⟨_,e⟩
   | tbl ps=>exact ⟨_,(show s1.heap.get? x=some _ from this)⟩
   | met f y=>exact ⟨_,(show s1.heap.get? x=some _ from this)⟩
   | ext φ=>obtain ⟨_,e,_⟩:=this;exact e
  obtain ⟨ob,e⟩:=lt
  rw [mk.new] at e
  cases e
end
end L2
namespace L2
open PySem PySem.Spec PyProof.Rows
noncomputable def excO (x C:Addr):HO := .ext λ h=>∃ o,h.get? x=some o∧o.cls = .ref C∧o.dict=none∧W.notCls o=true
noncomputable def Cx.tryC (X:Cx) (E':Value→Shared→Prop) (pn':List (Addr×Obj)):Cx:={ X with xe:=E',pn:=X.pn++pn' }
noncomputable def Cx.hand (X:Cx) (x:Addr):Cx:={ X with A:=X.A.mark (some (.ref x)),calm:=false,xe:=λ _ _=>False }
section
variable {X:Cx} {pins:List (Addr×Obj)} {σ:St} {H:Hp} {s:Shared} {x C D:Addr}
theorem Inv.toTry (I:Inv X pins σ H s) (E':Value→Shared→Prop):Inv (X.tryC E' pins) [] σ H s :=
 ⟨⟨I.ok.mod,I.ok.kind,I.ok.glob,I.ok.blt,I.ok.above,I.ok.inj,I.ok.has,I.ok.cab,I.ok.hd,I.ok.frames,I.ok.stk,I.ok.exf,I.ok.bs,I.ok.bsz,I.ok.noex,I.ok.exfs,I.ok.funs,I.ok.frf⟩,I.os,I.bare,I.base,I.loc,I.cell,I.free,I.freeC,λ p hp=>I.pin p (by simpa [Cx.tryC] using hp),I.hok,I.len⟩
theorem Inv.ofTry {E':Value→Shared→Prop} (I:Inv (X.tryC E' pins) [] σ H s):Inv X pins σ H s :=
 ⟨⟨I.ok.mod,I.ok.kind,I.ok.glob,I.ok.blt,I.ok.above,I.ok.inj,I.ok.has,I.ok.cab,I.ok.hd,I.ok.frames,I.ok.stk,I.ok.exf,I.ok.bs,I.ok.bsz,I.ok.noex,I.ok.exfs,I.ok.funs,I.ok.frf⟩,I.os,I.bare,I.base,I.loc,I.cell,I.free,I.freeC,λ p hp=>I.pin p (by simpa [Cx.tryC] using hp),I.hok,I.len⟩
theorem Inv.toHand (I:Inv X pins σ H s) (x:Addr):Inv (X.hand x) pins σ H s :=
 ⟨⟨I.ok.mod,I.ok.kind,I.ok.glob,I.ok.blt,I.ok.above,I.ok.inj,I.ok.has,I.ok.cab,λ z=>absurd z Bool.false_ne_true,I.ok.frames,I.ok.stk,I.ok.exf,I.ok.bs,I.ok.bsz,I.ok.noex,I.ok.exfs,I.ok.funs,I.ok.frf⟩,I.os,I.bare,I.base,I.loc,I.cell,I.free,I.freeC,I.pin,I.hok,I.len⟩
theorem Inv.ofHand {y:Addr} (I:Inv (X.hand y) pins σ H s) (hd:X.calm=true→X.A.handled=none):Inv X pins σ H s :=
 ⟨⟨I.ok.mod,I.ok.kind,I.ok.glob,I.ok.blt,I.ok.above,I.ok.inj,I.ok.has,I.ok.cab,hd,I.ok.frames,I.ok.stk,I.ok.exf,I.ok.bs,I.ok.bsz,I.ok.noex,I.ok.exfs,I.ok.funs,I.ok.frf⟩,I.os,I.bare,I.base,I.loc,I.cell,I.free,I.freeC,I.pin,I.hok,I.len⟩
theorem Inv.track (I:Inv X pins σ H s) (hn:∀ o,X.s₀.heap.get? x=some o→x∈X.ex) (hp:∀ p∈X.pn++pins,p.1≠x) (hf:H x=none)
  (ob:∃ oe vs,s.heap.get? x=some oe∧oe.cls = .ref C∧oe.dict=none∧oe.data = .fields vs):Inv X pins σ (upd H x (excO x C)) s:=by
 obtain ⟨oe,vs,e,ec,ed,d⟩:=ob
 obtain ⟨n1,n2,n3⟩:=I.nopins.fieldsNe e d
 have ne:∀ b u,H b=some u→b≠x:=λ b u q=>zha q hf
 refine ⟨I.ok,I.os,I.bare,⟨I.base.keep,I.base.slot,λ b o q n hx=>?_,I.base.there,λ b xs q=>?_,λ b o u q=>?_,λ b ps q=>?_⟩,I.loc,I.cell,?_,λ y c q=>?_,λ p hp'=>?_,λ b u q=>?_,I.len⟩
 ·rw [zja (λ z=>hx (by subst z;exact hn o q))];exact I.base.free b o q n hx
 ·have:=I.base.tups b xs q;rw [zja (ne b _ this)];exact this
 ·have:=I.base.frzs b o u q;rw [zja (ne b _ this)];exact this
 ·obtain ⟨m,q'⟩:=I.base.tbls b ps q;exact ⟨m,by rw [zja (ne b _ q')];exact q'⟩
 ·rw [zja (Ne.symm n1)];exact I.free
 ·rw [zja (n2 y c q)];exact I.freeC y c q
 ·obtain ⟨a,b,c⟩:=I.pin p hp'
  exact ⟨a,by rw [zja (hp p hp')];exact b,c⟩
 ·by_cases hb:b=x
  ·subst hb
   rw [upd_same] at q
   cases q
   refine ⟨⟨oe,e,ec,ed,?_⟩,⟨oe,e⟩,λ h1 h2 ⟨o,a1,a2⟩ k=>⟨o,k o a1,a2⟩⟩
   unfold W.notCls
   rw [d]
  ·rw [zja hb] at q
   exact (I.hok b u q).stay (λ _ _ _ z=>z) (λ c z=>by rw [zja (ne c _ z)];exact z) λ c xs z=>by rw [zja (ne c _ z)];exact z
theorem Inv.goes {i:Nat} {n:Str} {h':Heap} {t':Nat} {v:Option Value} {m:Str→Option Value} (I:Inv X pins σ H s) (hN:X.N.Nodup) (hi:X.N[i]? = some n) (hm:s.heap.Ns X.env.locals m)
  (hl:∀ (j:Nat) (y:Str) (u:V),X.N[j]? = some y→σ[j]? = some (some u)→Vis X.env.scope y→∃ w,RelV u w∧Look X.env s.heap m y w)
  (hn:h'.Ns X.env.locals (λ y=>if y=n then v else m y)) (hs:Heap.SameBut X.env.locals s.heap h'):Inv X pins (σ.set i none) H { s with heap:=h',toks:=t' }:=by
 have neL:∀ b o,X.s₀.heap.get? b=some o→b≠X.env.locals:=λ b o e=>Nat.ne_of_lt (Nat.lt_of_lt_of_le (Heap.lt_size e) I.ok.above)
 have cl:∀ y c,X.env.cells.lookup y=some c→∀ w,s.heap.IsCell c w→h'.IsCell c w:=λ y c e w z=>z.sameBut hs (I.cne y c e)
 refine ⟨I.ok,I.os,I.bare,⟨λ b o e k hb hx=>(hs.2 b (neL b o e)).trans (I.base.keep b o e k hb hx),λ b o e k hb hx=>?_,I.base.free,λ b o e hx=>?_,I.base.tups,I.base.frzs,I.base.tbls⟩,⟨_,hn,λ j y u e1 e2 e3=>?_⟩,λ y c e=>?_,I.free,I.freeC,λ p hp=>?_,λ b u e=>?_,by rw [List.length_set];exact I.len⟩
 ·obtain ⟨sl,q⟩:=I.base.slot b o e k hb hx;exact ⟨sl,(hs.2 b (neL b o e)).trans q⟩
 ·obtain ⟨o',q⟩:=I.base.there b o e hx;exact ⟨o',(hs.2 b (neL b o e)).trans q⟩
 ·by_cases hj:j=i
  ·subst hj
   rw [List.getElem?_set] at e2
   simp at e2
  ·rw [List.getElem?_set_ne (Ne.symm hj)] at e2
   obtain ⟨w,r,q⟩:=hl j y u e1 e2 e3
   refine ⟨w,r,?_⟩
   rcases q with ⟨k,e⟩ | ⟨k,c,e,z⟩
   ·have ny:y≠n:=λ z=>hj (zsh hN e1 (by rw [z];exact hi))
    exact .inl ⟨k,by simp only [if_neg ny];exact e⟩
   ·exact .inr ⟨k,c,e,cl y c e _ z⟩
 ·obtain ⟨w,z⟩:=I.cell y c e;exact ⟨w,cl y c e w z⟩
 ·obtain ⟨e,k,ne,nf,d⟩:=I.pin p hp
  exact ⟨(hs.2 p.1 ne).trans e,k,ne,nf,d⟩
 ·refine (I.hok b u e).stay (λ c w hc q=>(hs.2 c ?_).trans q) (λ _ q=>q) λ _ _ q=>q
  rintro rfl
  rcases hc with rfl | hc
  ·rw [I.free] at e;cases e
  ·rw [I.free] at hc;cases hc
theorem zqn {M:Model} {A:Around} {E:Value→Shared→Prop} {K:W.Frag} {oe:Obj} {b:Bool} {Q:Bool→Shared→Prop} (X:K.In s.heap) (xd:XCls K D) (xc:XCls K C) (hs:W.mroIn K C (.ref D)=some b)
  (he:s.heap.get? x=some oe) (hcls:oe.cls = .ref C) (hq:Q b s):wpAny M A (excMatches (.ref x) (.ref D)) Q E s:=by
 obtain ⟨bm,N,nm,q,bs,hdct,sn,sub,ab,col,dd,k0,k1,k2,k3,k5,mN,hD,_,_,T,_⟩:=xd.obj X
 obtain ⟨bm',N',nm',q',bs',hdct',sn',sub',ab',col',dd',l0,l1,l2,l3,l5,mN',hC,_,_,T',hmC⟩:=xc.obj X
 have hcB:(Value.ref D::bm).contains (.type "BaseException")=true:=by rw [List.contains_cons,T.hasType (b:=true) (by decide),Bool.or_true]
 have hcC:=hmC _ _ hs
 have f:=tc_notTuple
 obtain ⟨h,g,d,t,os⟩:=s
 unfold excMatches
 repeat (first | (with_reducible refine wpAny_loadPart_at he ?_;rw [hcls]) | with_reducible refine wpAny_loadPart_at hD ?_ | (with_reducible refine wpAny_isSubtype_exc hD ?_;rw [hcB]) | (with_reducible refine wpAny_isSubtype_exc hC ?_;rw [hcC]) | wp_step)
 cases b <;> (wp_walk;exact hq)
noncomputable def zhk (CX:CXT) (X:Cx) (σ:St) (E:XK):Prop:=∀ (pins:List (Addr×Obj)) (H:Hp) (s:Shared) (e:Value) (s':Shared),Inv X pins σ H s→CX X.stack H s E e s'→X.xe e s'
theorem zss {CX:CXT} {k:Nat} {f:Addr} {fd:FuncData} {ps:List Str} {sp:Sp} {dvs:List V} {ds:List Value} {E:XK} {y:Str} {p pos:Pos} {e:Expr} {es:List Expr} {t:TA} {σ₀:St}
  (F:FnOk X.prog X.w X.K X.mg X.base CX k f fd ps sp) (hr:Room k X.A) (hg:Gl X y) (hm:X.mg y=some (.ref f)) (hk:W.keepIn X.K (.ref f)=true) (hb:Binds X.K fd ps ds) (hd:Vals dvs ds) (hx:zhk CX X σ₀ E)
  (ha:PA X (e::es) t) (hdb:(y == ("__debug__" : Str))=false:=by decide) (he:starEach (e::es) X.env=(false,eval e X.env)::starEach es X.env:=by rfl) (hpl:(backTo pos (starEach es X.env)).any (·.1)=false:=by rfl) :
  PE X (.Call (.Name y p) (e::es) [] pos) (λ σ H Q=>σ=σ₀∧zrz sp dvs E t σ H Q) := .mk <| by
 rintro pins s σ H Q I ⟨rfl,h⟩
 refine wpAny_Call_Name_kw (zde I hg hm ?_ hdb)
 refine W.callWith_K (h₀:=X.base) I.ok.mod.kin hk (thn (ha pos pins s σ H _ I h) λ us s1 ⟨vs,H1,I1,r,q⟩=>⟨I1.kIn,?_⟩) he hpl
 have r2:Vals (vs++dvs) (us++ds):=r.append hd
 have hl:(us++ds).length=ps.length:=by rw [← r2.length];exact F.len _ _ _ _ q
 refine wpAny_call (codeAny_mono (F.run X.A X.stack s1 H1 ⟨us,[]⟩ (us++ds) (vs++dvs) Q E hr I1.env0 (hb s1 us I1.kIn hl) r2 q) λ r s' hq=>?_)
 cases r with
 | error e=>exact hx pins H1 s1 e s' I1 hq
 | ok fl =>
  cases fl with
  | ret u=>exact I1.after hq
  | next=>exact False.elim hq
  | brk=>exact False.elim hq
  | cont=>exact False.elim hq
end
end L2
namespace L2
open PySem PySem.Spec PyProof.Rows
noncomputable def ExcAt (x C:Addr) (h:Heap):Prop:=∃ o,h.get? x=some o∧o.cls = .ref C∧o.dict=none∧W.notCls o=true
theorem ExcAt.inst {x C:Addr} {h:Heap} (p:ExcAt x C h):∃ ox,W.InstAt h x ox C none:=by
 obtain ⟨o,a,b,c,d⟩:=p
 refine ⟨o,a,b,d,?_⟩
 rw [c]
 trivial
theorem zlp {M:Model} {A:Around} {E:Value→Shared→Prop} {s:Shared} {K:W.Frag} {x C:Addr} {ox:Obj} {nameV:Value} {Q:Unit→Shared→Prop} (X:K.In s.heap) (I:W.InstAt s.heap x ox C none)
  (be:W.subIn K (.ref C) (.type "BaseException")=some true) (h:Q () s):wpAny M A (checkBuiltinCall "BaseException.__getattribute__" ⟨[.ref x,nameV],[]⟩) Q E s:=by
 have hk:builtinKind "BaseException.__getattribute__" = some .slot:=by decide +kernel
 have hsplit:splitId "BaseException.__getattribute__" = some ("BaseException", "__getattribute__"):=by decide +kernel
 have ha:=F.args_bexc_ga (.ref x) nameV
 have L0:=I.type (M:=M)
 have L1:=W.looks_subIn (M:=M) X be
 simp only [checkBuiltinCall,hk,hsplit]
 refine wpAny_bind ?_
 unfold isInstance
 refine wpAny_bind (L0.at (L1.at ?_))
 repeat wp_step
 exact h
theorem zoo {prog:Program} {w:World} {A:Around} {E:Value→Shared→Prop} {s:Shared} {K:W.Frag} {x C:Addr} {ox:Obj} {tk:Tok} {P:Fin→Shared→Prop} (X:K.In s.heap) (I:W.InstAt s.heap x ox C none)
  (hf:W.findObj K C none "__class__" = some (.bind (.builtin "getset_descriptor.__get__") (.builtin "object.__class__"))) (mo:W.mroIn K C (.type "object")=some true) (h:P (.done (.ret (.ref C))) s) :
  wpAny (model prog w) A (Builtin.«object.__getattribute__» ⟨[.ref x,.str "__class__" tk],[]⟩) P E s:=by
 have L0:=I.type (M:=model prog w)
 have L1:=W.looks_find (M:=model prog w) X I hf
 refine wpAny_bind (wpAny_pure (wpAny_bind (wpAny_pure (wpAny_bind (L0.at (wpAny_bind (L1.at ?_)))))))
 show wpAny _ _ (holding [Value.builtin "object.__class__"] (call (.builtin "getset_descriptor.__get__") [.builtin "object.__class__",.ref x,.ref C]) >>= ret) _ _ _
 exact wpAny_bind (wpAny_holding (wpAny_call (W.class_get (ox:=ox) (od:=none) X I mo (wpAny_pure h))))
theorem zco {prog:Program} {w:World} {A:Around} {E:Value→Shared→Prop} {s:Shared} {K:W.Frag} {x C:Addr} {ox:Obj} {Q:Option Value→Shared→Prop} (xc:XCls K C) (X:K.In s.heap) (I:W.InstAt s.heap x ox C none)
  (h:Q (some (.ref C)) { s with toks:=s.toks+1 }):wpAny (model prog w) A (getAttr? (.ref x) "__class__") Q E s:=by
 have hf:W.findObj K C none "__class__" = some (.bind (.builtin "getset_descriptor.__get__") (.builtin "object.__class__")):=by
  obtain ⟨cd,hc,_⟩:=W.any_some xc.hd
  unfold W.findObj
  rw [hc,Option.bind_some,xc.ca,Option.bind_some]
  simp only [xc.gs,xc.tk,Option.bind_some]
 obtain ⟨hh,g,d,t,os⟩:=s
 have L0:=I.type (M:=model prog w)
 have L1:=W.looks_findIn (M:=model prog w) X xc.ga
 have L2:=W.looks_findIn (M:=model prog w) X xc.gn
 have f3:=F.attr_ValueError.ga.bind (.ref x)
 unfold getAttr? getAttrBy? getAttrBy
 refine wpAny_bind (wpAny_mkText (wpAny_bind (wpAny_attempt (wpAny_holding (wpAny_bind (L0.at (wpAny_bind (L1.at ?_))))))))
 show wpAny _ _ (getAttrByItsOwn _ _ _ _ _ _) _ _ _
 unfold getAttrByItsOwn
 refine wpAny_bind ?_
 show wpAny _ _ (typeLookup (.ref C) "__getattr__") _ _ _
 refine L2.at (wpAny_bind (wpAny_attempt (wpAny_holding ?_)))
 show wpAny _ _ (boundAndCalled _ _ _) _ _ _
 unfold boundAndCalled
 rw [f3]
 refine wpAny_bind (wpAny_pure ?_)
 exact wpAny_call (codeAny_call_builtin F.attr_ValueError.ga.plain F.entry_bexc_ga (zlp (s:=⟨hh,g,d,t+1,os⟩) X I xc.be (zoo (s:=⟨hh,g,d,t+1,os⟩) X I hf xc.mo (W.handed_on rfl (wpAny_pure h)))))
theorem zvk {K:W.Frag} {x C:Addr} (xc:XCls K C):W.KitX K (.ref x) (.ref C) (ExcAt x C) where
 ty:=λ _ _ _ p=>let ⟨_,I⟩:=p.inst;I.type
 it:=λ M h X _=>by
  obtain ⟨cdD,hcD,_⟩:=W.any_some xc.hd
  unfold W.clsIn at hcD
  split at hcD
  ·rename_i c' d' cd' sl' ho
   intro A' Q' E' s' k q
   unfold isType loadHead
   exact wpAny_bind (wpAny_loadPart (k _ _ (X _ _ ho)) (wpAny_pure q))
  ·cases hcD
 ne:=λ h tp dd its n sl X htp=>by
  obtain ⟨cdD,hcD,_⟩:=W.any_some xc.hd
  refine Bool.eq_false_iff.mpr λ q=>?_
  have e:C=tp:=Value.ref.inj (beq_iff_eq.mp q)
  subst e
  unfold W.clsIn at hcD
  split at hcD
  ·rename_i c' d' cd' sl' ho
   cases (X _ _ ho).symm.trans htp
  ·cases hcD
 ca:=fun {prog w A E Q s} X p h=>by
  obtain ⟨ox,I⟩:=p.inst
  exact zco xc X I h
noncomputable def clsV:V→Option Value
 | .ref a=>some (.ref a)
 | .ty n=>some (.type n)
 | _=>none
theorem zum {v:V} {u c:Value} (r:RelV v u) (e:clsV v=some c):u=c:=by
 cases v with
 | ref a=>cases e;exact r
 | ty n=>cases e;exact r
 | _=>cases e
section
variable {X:Cx}
theorem zjc:zrj X (.builtin "isinstance") (λ xs H Q=>∃ x C v c b,xs=[.ref x,v]∧H x=some (excO x C)∧XCls X.K C∧clsV v=some c∧W.kitOne X.K (.ref C) c=some b∧Q (.bl b) H):=by
 intro pins s σ H xs us Q I rv h
 obtain ⟨x,C,v,c,b,rfl,hx,xc,hv,hk,q⟩:=h
 obtain ⟨u,u',rfl,ru,rv'⟩:=rv.two
 cases (show u=Value.ref x from ru)
 have e:=zum rv' hv
 subst e
 have p:ExcAt x C s.heap:=(show ObjOk X.prog X.w H s.heap x (excO x C) from I.hok x _ hx).1
 exact W.kia_one (zvk xc) I.kIn p hk (λ z=>nomatch z) λ tk=>⟨.bl b,H,I.tok tk,rfl,q⟩
theorem zqm:∀ {vs:List V} {cs us:List Value},vs.map clsV=cs.map some→Vals vs us→us=cs
 | [],cs,us,e,r=>by
  cases r
  cases cs with
  | nil=>rfl
  | cons c cs=>cases e
 | v::vs,cs,us,e,r=>by
  cases r with
  | cons h t =>
   cases cs with
   | nil=>cases e
   | cons c cs =>
    simp only [List.map_cons,List.cons.injEq] at e
    rw [zum h e.1,zqm e.2 t]
theorem ztj:zrj X (.builtin "isinstance") (λ xs H Q=>∃ x C tp vs cs b,xs=[.ref x,.ref tp]∧H x=some (excO x C)∧XCls X.K C∧H tp=some (.tup vs)∧vs.map clsV=cs.map some∧W.kitAny X.K (.ref C) cs=some b∧Q (.bl b) H):=by
 intro pins s σ H xs us Q I rv h
 obtain ⟨x,C,tp,vs,cs,b,rfl,hx,xc,ht,hv,hk,q⟩:=h
 obtain ⟨u,u',rfl,ru,rv'⟩:=rv.two
 cases (show u=Value.ref x from ru)
 cases (show u'=Value.ref tp from rv')
 have p:ExcAt x C s.heap:=(show ObjOk X.prog X.w H s.heap x (excO x C) from I.hok x _ hx).1
 obtain ⟨_,its,r,o,e,ec,n,ed⟩:=(show ObjOk X.prog X.w H s.heap tp (.tup vs) from I.hok tp _ ht)
 have ei:=zqm hv r
 subst ei
 obtain ⟨c,d,dt,sl⟩:=o
 dsimp only at ec ed
 subst ec ed
 exact W.kia_tup (zvk xc) I.kIn p e hk (λ z=>nomatch z) λ tk=>⟨.bl b,H,I.tok tk,rfl,q⟩
end
section
variable {X:Cx}
end
theorem zfr {l:W.OpenLaw} {n k:Nat} {q:Program} {loose:List Str} {XP:(Str→Option Value)→Heap→Prop} {YP:World→Heap→Prop} {d:DefRec} {K:Params→W.Frag} {sp:World→Sp} {x:Str}
  (hn:l.most=some n) (hn2:n≤sizeLine) (hdf:d.params.defaults=[]) (hr:Room k callerA) (hY:∀ (w:World) (h:Heap),YP w h→(K w.params).In h)
  (F:∀ (w:World) (mg:Str→Option Value) (fa:Addr) (h:Heap),(K w.params).In h→h.Ns mainGlobals mg→mg d.name=some (.ref fa) →
   ∃ fd:FuncData,(∀ (s:Shared) (u:Value),BindsTo s fd ⟨[u],[]⟩ [(x,u)])∧∀ base:Heap,(K w.params).In base→base.Ns mainGlobals mg→FnOk l.prog w (K w.params) mg base (CX1 l.prog w base) k fa fd [x] (sp w))
  (hsp:∀ (w:World) (H:Hp) (a:Addr) (ns:List Int),ns.length≤n→Only H→SqL (K w.params) H a (ns.map V.int)→sp w [.ref a] H (λ v _=>v = .bl true) λ _ _ _=>False) :
  W.WalkO q loose XP YP l.row.toRowW d [] (λ f vs=>PySem.call f vs):=by
 refine walk_of (x:=x) (K:=K) (CX:=λ _ _ _ _ _ _ _=>False) (sp:=λ w vs H Q E=>sp w vs H Q λ _ _ _=>False) hn hn2 hdf hr hY (λ w mg fa h a b c=>?_) (λ w H a ns h1 h2 h3=>hsp w H a ns h1 h2 h3) λ _ _ _ _ _ z=>z
 obtain ⟨fd,hb,hF⟩:=F w mg fa h a b c
 refine ⟨fd,hb,λ base h1 h2=>?_⟩
 have G:=hF base h1 h2
 refine ⟨λ vs H Q E h=>G.len vs H Q _ h,λ A outer s H args us vs Q E hr he hbi hv h=>codeAny_mono (G.run A outer s H args us vs Q _ hr he hbi hv h) λ r s' z=>?_⟩
 cases r with
 | error e=>obtain ⟨_,_,_,_,_,_,_,_,_,z⟩:=z;exact z
 | ok fl=>cases fl <;> exact z
end L2
namespace L2
open PySem PySem.Spec PyProof.Rows PySem.NumText
section
variable {P:Program} {w:World} {K:W.Frag} {mg:Str→Option Value} {base:Heap} {CX:CXT} {k:Nat} {f:Addr} {fd:FuncData} {ps:List Str}
end
theorem zap (lo hi:Option Int) (n:Nat):Builtin.Str.strSliceIndices lo hi 1 n=sliceRange ((HT.sIx n 0 lo:Nat):Int) ((HT.sIx n n hi:Nat):Int) 1:=by
 unfold Builtin.Str.strSliceIndices
 simp only [show (1:Int) > 0 by decide,if_true]
 congr 1
 ·cases lo with
  | none=>rfl
  | some i=>simp only [HT.sIx];by_cases h:i<0 <;> simp only [h,if_true,if_false] <;> omega
 ·cases hi with
  | none=>rfl
  | some i=>simp only [HT.sIx];by_cases h:i<0 <;> simp only [h,if_true,if_false] <;> omega
theorem zhm (x:Str) (lo hi:Option Int):(Txt.slice x lo hi).cps.toList=(x.cps.toList.drop (HT.sIx x.length 0 lo)).take (HT.sIx x.length x.length hi - HT.sIx x.length 0 lo):=by
 have hl:x.cps.toList.length=x.length:=Array.length_toList
 unfold Txt.slice
 rw [zap,sliceRange_one,pick_run]
 split
 ·rename_i h
  simp only [List.length_map,List.length_range,Bool.and_eq_true,beq_iff_eq] at h
  have h1:=HT.sIx_le x.length x.length (Nat.le_refl _) hi
  have h2:HT.sIx x.length x.length hi - HT.sIx x.length 0 lo=x.length:=h.2
  rw [h2]
  rcases Nat.eq_zero_or_pos x.length with e | e
  ·have:x.cps.toList=[]:=by rw [← List.length_eq_zero_iff,hl];exact e
   rw [this]
   simp
  ·have h3:HT.sIx x.length 0 lo=0:=by omega
   rw [h3,List.drop_zero,List.take_of_length_le (by omega)]
 ·rfl
section
variable {X:Cx}
end
end L2
namespace L2
open PySem PySem.Spec PyProof.Rows PySem.NumText
section
variable {X:Cx}
end
theorem Same.seqT {K:W.Frag} {H H':Hp} {a:Addr} {xs:List V} (e:Same H H') (h:SqT K H a xs):SqT K H' a xs:=by
 rcases h with h | h
 ·rcases h with h | ⟨o,h⟩
  ·exact .inl (.inl (e _ _ h))
  ·exact .inl (.inr ⟨o,e _ _ h⟩)
 ·exact .inr h
theorem zxr {J:It} {n:Nat} {nt:Nat} {cap:List Nat} {g:TG} {te:TE} {σ:St} {H1:Hp} {Q:VK} {D:Addr} (val:Nat→V) (R:Nat→V→Hp→Prop) (hD:H1 D=none) (hP:Plain H1) (hx:n≤sizeLine)
  (hJ:∀ i H2,Same H1 H2→(i<n→J.go i H2)∧(J.stop n H2)∧∀ x H3,i<n→J.yld i H2 x H3→H3=H2∧x=val i)
  (mono:∀ i y H H',R i y H→(∀ b o,b≠D→H b=some o→H' b=some o)→(∃ zs,H D=some (.lst zs))→R i y H')
  (step:∀ (i:Nat) H2 (T:VK),i<n→Plain H2→Same H1 H2→(∀ y H6,R i y H6→Same H2 H6→Plain H6→T y H6)→g (val i) (List.replicate nt none++caps cap σ) H2 λ σ4 H4=>te σ4 H4 T)
  (fin:∀ ys H2,ys.length=n→(∀ (i:Nat) y,ys[i]? = some y→R i y H2)→H2 D=some (.lst ys)→Same H1 H2→Plain H2→Q (.ref D) H2) :
  ztv J D nt cap g tYes te σ H1 Q:=by
 refine ⟨λ i m ys H2=>m=n - i∧i≤n∧ys.length=i∧H2 D=some (.lst ys)∧Same H1 H2∧Plain H2∧∀ (j:Nat) y,ys[j]? = some y→R j y H2,⟨_,rfl,Nat.zero_le _,rfl,upd_same,zea hD,hP.lst,λ j y e=>by simp at e⟩,?_⟩
 rintro i m ys H2 ⟨rfl,hi,hl,hd,hs,hp,hr⟩
 refine ⟨hd,?_⟩
 obtain ⟨j1,j2,j3⟩:=hJ i H2 hs
 by_cases hlt:i<n
 ·refine .inr ⟨j1 hlt,by omega,λ v H3 hy=>?_⟩
  obtain ⟨rfl,rfl⟩:=j3 v H3 hlt hy
  simp only [tYes,if_true]
  refine step i _ _ hlt hp hs λ y H6 hR hs6 hp6=>⟨hs6 _ _ hd,_,by omega,rfl,hlt,by simp [hl],upd_same,?_,hp6.lst,?_⟩
  ·exact (hs.trans hs6).upd hD
  ·intro j z e
   have up:∀ b o,b≠D→H6 b=some o→(upd H6 D (.lst (ys++[y]))) b=some o:=λ b o hb e=>by rw [zja hb];exact e
   rcases Nat.lt_or_ge j ys.length with hj | hj
   ·rw [List.getElem?_append_left hj] at e
    refine mono j z H6 _ (mono j z _ H6 (hr j z e) (λ b o _ e=>hs6 b o e) ⟨_,hd⟩) up ⟨_,hs6 _ _ hd⟩
   ·rw [List.getElem?_append_right hj] at e
    have hj0:j - ys.length=0:=by
     rcases Nat.eq_zero_or_pos (j - ys.length) with h0 | h0
     ·exact h0
     ·rw [List.getElem?_eq_none (by simp;omega)] at e;cases e
    rw [hj0] at e
    simp at e
    subst e
    have:j=i:=by omega
    subst this
    exact mono j y H6 _ hR up ⟨_,hs6 _ _ hd⟩
 ·have e:i=n:=by omega
  subst e
  exact .inl ⟨j2,fin ys H2 hl hr hd hs hp⟩
theorem zlv {K:W.Frag} {a:Addr} {xs:List V} {H1:Hp} (h:SqL K H1 a xs):∀ i H2,Same H1 H2→(i<xs.length→(Itl K a).go i H2)∧((Itl K a).stop xs.length H2)∧∀ x H3,i<xs.length→(Itl K a).yld i H2 x H3→H3=H2∧x=xs.getD i .non:=λ i H2 e=>by
 refine ⟨λ hi=>⟨xs,xs[i],e.seq h,by simp [hi]⟩,⟨xs,e.seq h,Nat.le_refl _⟩,λ x H3 hi y=>⟨y.1,?_⟩⟩
 have:=y.2 xs (e.seq h)
 rw [List.getD_eq_getElem?_getD,this];rfl
mutual
noncomputable def DV (K:W.Frag) (H:Hp):PyData→V→Prop
 | .none,v=>v = .non
 | .bool b,v=>v = .bl b
 | .int i,v=>v = .int i
 | .str x,v=>v = .str x
 | .list xs,v=>∃ a vs,v = .ref a∧SqL K H a vs∧DVs K H xs vs
 | .tuple xs,v=>∃ a vs,v = .ref a∧SqT K H a vs∧DVs K H xs vs
 | .dict _,_=>False
noncomputable def DVs (K:W.Frag) (H:Hp):List PyData→List V→Prop
 | [],vs=>vs=[]
 | d::ds,vs=>∃ v r,vs=v::r∧DV K H d v∧DVs K H ds r
end
mutual
theorem DV.same {K:W.Frag} {H H':Hp} (e:Same H H'):∀ (d:PyData) (v:V),DV K H d v→DV K H' d v
 | .none,v,h=>h
 | .bool b,v,h=>h
 | .int i,v,h=>h
 | .str x,v,h=>h
 | .list xs,v,⟨a,vs,h1,h2,h3⟩=>⟨a,vs,h1,e.seq h2,DVs.same e xs vs h3⟩
 | .tuple xs,v,⟨a,vs,h1,h2,h3⟩=>⟨a,vs,h1,e.seqT h2,DVs.same e xs vs h3⟩
 | .dict _,v,h=>h.elim
theorem DVs.same {K:W.Frag} {H H':Hp} (e:Same H H'):∀ (ds:List PyData) (vs:List V),DVs K H ds vs→DVs K H' ds vs
 | [],vs,h=>h
 | d::ds,vs,⟨v,r,h1,h2,h3⟩=>⟨v,r,h1,DV.same e d v h2,DVs.same e ds r h3⟩
end
section
variable {X:Cx} {pins:List (Addr×Obj)} {σ:St} {H:Hp} {s:Shared}
mutual
theorem DV.reads (I:Inv X pins σ H s):∀ (d:PyData) (v:V) (u:Value),DV X.K H d v→RelV v u→∃ as,Reads s.heap u d as
 | .none,v,u,h,r=>by cases (show v=V.non from h);cases r;exact ⟨_,.none⟩
 | .bool b,v,u,h,r=>by cases (show v=V.bl b from h);cases r;exact ⟨_,.bool b⟩
 | .int i,v,u,h,r=>by cases (show v=V.int i from h);obtain ⟨t,rfl⟩:=r;exact ⟨_,.int i t⟩
 | .str x,v,u,h,r=>by cases (show v=V.str x from h);obtain ⟨t,rfl⟩:=r;exact ⟨_,.str x t⟩
 | .list xs,v,u,h,r=>by
  obtain ⟨a,vs,rfl,h2,h3⟩:=h
  cases r
  obtain ⟨its,rv,pl,_⟩:=I.list h2
  obtain ⟨o,ho,hc,n,hd⟩:=pl.isList
  obtain ⟨as,ra⟩:=DVs.reads I xs vs its h3 rv
  exact ⟨_,.list ho hc hd (by simpa using ra)⟩
 | .tuple xs,v,u,h,r=>by
  obtain ⟨a,vs,rfl,h2,h3⟩:=h
  cases r
  obtain ⟨its,rv,pl,_⟩:=I.tuple h2
  obtain ⟨o,ho,hc,n,hd⟩:=pl
  obtain ⟨as,ra⟩:=DVs.reads I xs vs its h3 rv
  exact ⟨_,.tuple ho hc hd (by simpa using ra)⟩
 | .dict _,v,u,h,r=>h.elim
theorem DVs.reads (I:Inv X pins σ H s):∀ (ds:List PyData) (vs:List V) (us:List Value),DVs X.K H ds vs→Vals vs us→∃ as,ReadsAll s.heap us ds as
 | [],vs,us,h,r=>by cases (show vs=[] from h);cases r;exact ⟨_,.nil⟩
 | d::ds,vs,us,h,r=>by
  obtain ⟨v,rest,rfl,h2,h3⟩:=h
  cases r with
  | cons r rr =>
   obtain ⟨as,ra⟩:=DV.reads I d _ _ h2 r
   obtain ⟨bs,rb⟩:=DVs.reads I ds _ _ h3 rr
   exact ⟨_,.cons ra rb⟩
end
end
section
variable {X:Cx}
noncomputable def rEqD (K:W.Frag):R2:=λ x y H Q=>∃ d e,DV K H d x∧DV K H e y∧SeqAt.shaped d=true∧SeqAt.shaped e=true∧Q (.bl (PyData.eqv d e)) H
noncomputable def rNeD (K:W.Frag):R2:=λ x y H Q=>∃ d e,DV K H d x∧DV K H e y∧SeqAt.shaped d=true∧SeqAt.shaped e=true∧Q (.bl (!PyData.eqv d e)) H
theorem zvl (hu:X.A.units+64<cLine):OpR X (compareOp .Eq) (rEqD X.K):=by
 intro pins s σ H x y v u Q I rx ry h
 obtain ⟨d,e,hd,he,sd,se,q⟩:=h
 obtain ⟨as,ra⟩:=DV.reads I d x v hd rx
 obtain ⟨bs,rb⟩:=DV.reads I e y u he ry
 exact SeqAt.compareEq_shaped ra rb sd se hu ⟨.bl _,H,I,rfl,q⟩
theorem zmh (hu:X.A.units+64<cLine):OpR X (compareOp .NotEq) (rNeD X.K):=by
 intro pins s σ H x y v u Q I rx ry h
 obtain ⟨d,e,hd,he,sd,se,q⟩:=h
 obtain ⟨as,ra⟩:=DV.reads I d x v hd rx
 obtain ⟨bs,rb⟩:=DV.reads I e y u he ry
 exact SeqAt.compareNe_shaped ra rb sd se hu ⟨.bl _,H,I,rfl,q⟩
end
noncomputable def zbw {α:Type} (Pre:α→List V→Hp→Prop) (Post:α→V→Hp→Prop) (Exc:α→Addr→Prop):Sp:=λ vs H Q E=>Plain H∧∃ a,Pre a vs H∧(∀ v H',Post a v H'→Same H H'→Plain H'→Q v H')∧(∀ C H',Exc a C→Same H H'→Plain H'→E (.ref C) none H')
end L2
namespace L2
open PySem PySem.Spec PyProof.Rows PySem.NumText
section
variable {X:Cx}
theorem ztm {use:Option (Value→Sem Unit)} {QQ:Value→Shared→Prop} {p0:Pos} {pins:List (Addr×Obj)} {s:Shared} {σ:St} {H:Hp} {Q:VK} {elt tg iter:Expr} {ifs:List Expr} {scope:Scope} {pos:Pos} {N':List Str} {nt:Nat} {cap:List Nat} {wi:TI} {g:TG} {ti:TT} {te:TE}
  (EK:Addr→Shared→Hp→List Addr→(Value→Shared→Prop)→Prop)
  (hE:∀ (pins:List (Addr×Obj)) (σ:St) (s3:Shared) (H3:Hp) (fp:List Addr) (Q:VK) (D:Addr),Inv X pins σ H3 s3→(∀ b∈fp,FpOk X pins H3 b) →
   EK s3.heap.objs.size s3 H3 fp (notedBy (model X.prog X.w) X.A (compEnvC scope (clOf scope X.env) s3.heap.objs.size X.env) λ e s'=>compPost (model X.prog X.w) X.A X.xe none (EP X pins σ Q) (.ref D) s3.heap.objs.size (.error e) s'))
  (hc:X.calm=true) (hi:PI X tg iter wi)
  (hg:∀ C s₀ H₀ fp E',EK C s₀ H₀ fp E'→PG (X.comp scope C s₀ H₀ fp N' E') tg g)
  (hif:∀ C s₀ H₀ fp E',EK C s₀ H₀ fp E'→PIf (X.comp scope C s₀ H₀ fp N' E') ifs ti)
  (he:∀ C s₀ H₀ fp E',EK C s₀ H₀ fp E'→PE (X.comp scope C s₀ H₀ fp N' E') elt te)
  (hk:scope.kind = .function) (hb:zwc scope X.env=true) (hcap:zmq X scope N' nt cap=true)
  (hgk:zjh nt g) (hs:∀ x,foldedSetIterable iter X.env x=pure x) (I:Inv X pins σ H s) (h:zzt wi nt cap g ti te σ H Q)
  (fin:∀ (D C:Addr) (m:Str→Option Value) (H5:Hp) (s6:Shared),Inv X pins σ H5 s6→Q (.ref D) H5→s6.heap.Ns C m→C≠X.env.locals→(∀ x c,X.env.cells.lookup x=some c→c≠C)→(∀ H',H' C=none→FpOk X pins H' C)→H5 C=none →
   compPost (model X.prog X.w) X.A X.xe use QQ (.ref D) C (.ok .next) s6) :
  wpAny (model X.prog X.w) X.A (comprehension (.ListComp elt [⟨tg,iter,ifs,0⟩] scope pos) scope X.env p0 (newList []) false (eval iter X.env) use) QQ X.xe s:=by
 have hclos:closureFor scope X.env=pure (clOf scope X.env):=zag λ p hp e=>I.ok.has p.1 (zwb hb p hp e)
 refine wpAny_comprehension_free (use:=use) rfl hs hclos hk (zjd hb) (thn (hi pins s σ H _ I h) λ v s1 h1=>thn h1 λ itv s2 h2=>?_)
 obtain ⟨it,fp,tn,J,H2,e,I2,T,st2,f2,q2⟩:=h2
 subst e
 refine wpAny_newObj_type (wpAny_newFunctionEnv (znc hb) (by intro y hy;simp at hy) (λ h₁ hns₁ hsb₁=>?_) hk)
 have I3:=I2.lnew (ys:=[]) (its:=[]) (t':=s2.toks) .nil (Nat.zero_le _)
 have hfl:∀ b∈fp,b<s2.heap.objs.size:=λ b hb'=>let ⟨o,e,_⟩:=T.obj 0 _ st2 b hb';Heap.lt_size e
 obtain ⟨W,⟨m0,w0⟩,turn⟩:=q2 s2.heap.objs.size (I2.hok.fresh (Nat.le_refl _))
 have nD:∀ b∈fp,b≠s2.heap.objs.size:=λ b hb'=>Nat.ne_of_lt (hfl b hb')
 have f3:∀ b∈fp,FpOk X pins (upd H2 s2.heap.objs.size (.lst [])) b:=λ b hb'=>⟨by rw [zja (nD b hb')];exact (f2 b hb').1,(f2 b hb').2⟩
 obtain ⟨s3,hs3⟩:∃ s3:Shared,s3={ s2 with heap:=s2.heap.push { cls := .type "list",data := .seq ([]:List Value).toArray },toks:=s2.toks }:=⟨_,rfl⟩
 have hs3':s3.heap=s2.heap.push { cls := .type "list",data := .seq ([]:List Value).toArray }:=by rw [hs3]
 rw [← hs3] at I3
 have hsz:s3.heap.objs.size=s2.heap.objs.size+1:=by rw [hs3',Heap.size_push]
 have hfl3:∀ b∈fp,b<s3.heap.objs.size:=λ b hb'=>by rw [hsz];exact Nat.lt_succ_of_lt (hfl b hb')
 have hC:(s2.heap.push { cls:=Value.type "list",dict:=none,data:=Data.seq ([]:List Value).toArray }).objs.size=s3.heap.objs.size:=by rw [hs3']
 dsimp only at hns₁ hsb₁ ⊢
 rw [hC] at hns₁ hsb₁ ⊢
 rw [← hs3'] at hsb₁
 have kp:∀ b o,s3.heap.get? b=some o→h₁.get? b=some o:=λ b o e=>hsb₁.extBut b o (Nat.ne_of_lt (Heap.lt_size e)) (Heap.get?_push_of_some _ e)
 have hEE:=hE pins σ s3 _ fp Q s2.heap.objs.size I3 f3
 generalize hE':(notedBy (model X.prog X.w) X.A (compEnvC scope (clOf scope X.env) s3.heap.objs.size X.env) λ e s'=>compPost (model X.prog X.w) X.A X.xe none (EP X pins σ Q) (.ref s2.heap.objs.size) s3.heap.objs.size (.error e) s')=E' at hEE
 have hE2:(notedBy (model X.prog X.w) X.A (compEnvC scope (clOf scope X.env) s3.heap.objs.size X.env) λ e s'=>compPost (model X.prog X.w) X.A X.xe use QQ (.ref s2.heap.objs.size) s3.heap.objs.size (.error e) s')=E':=hE'
 have I4:=zbg (t4:=s2.toks+([]:List (Str×Value)).length) (E':=E') I3 hk hb hcap f3 hfl3 hns₁ kp
 have st4:tn 0 h₁:=T.keep 0 _ _ st2 λ b hb' o e=>kp b o (by rw [hs3'];exact Heap.get?_push_of_some _ e)
 obtain ⟨s4,hs4⟩:∃ s4:Shared,s4={ s3 with heap:=h₁,toks:=s2.toks+([]:List (Str×Value)).length }:=⟨_,rfl⟩
 rw [← hs4] at I4
 have st4':tn 0 s4.heap:=by rw [hs4];exact st4
 have cin:∀ x c,(clOf scope X.env).lookup x=some c→X.env.cells.lookup x=some c:=λ x c e=>zrv scope.names [] (λ y d q=>by simp at q) e
 have stat:∀ {H':Hp},(∀ b∈fp,H' b=none)→∀ b∈fp,FpOk (X.comp scope s3.heap.objs.size s3 (upd H2 s2.heap.objs.size (.lst [])) fp N' E') [] H' b:=λ hn b hb'=>by
  refine ⟨hn b hb',Nat.ne_of_lt (hfl3 b hb'),λ z=>?_,.inl hb',λ x c e=>(f3 b hb').2.2.2.2.1 x c (cin x c e),λ p hp=>absurd hp (by simp [Cx.comp])⟩
  rcases List.mem_cons.mp (I3.stkSub b z) with z | z
  ·exact (f3 b hb').2.1 z
  ·exact (f3 b hb').2.2.1 z
 have loop:codeAny (model X.prog X.w) X.A (.compLoop (.ListComp elt [⟨tg,iter,ifs,0⟩] scope pos) 0 (.ref it) (.ref s2.heap.objs.size) (compEnvC scope (clOf scope X.env) s3.heap.objs.size X.env))
   (compPost (model X.prog X.w) X.A X.xe use QQ (.ref s2.heap.objs.size) s3.heap.objs.size) s4:=by
  refine zld (λ n s'=>∃ i ys H',Inv (X.comp scope s3.heap.objs.size s3 (upd H2 s2.heap.objs.size (.lst [])) fp N' E') [] (List.replicate nt none++caps cap σ) H' s'∧tn i s'.heap∧(∀ b∈fp,H' b=none)∧W i n ys H') ?_ m0
   ⟨0,[],_,I4,st4',λ b hb'=>(f3 b hb').1,w0⟩
  rintro n s5 ⟨i,ys,H5,I5,st5,fr5,w5⟩
  rw [hE2]
  obtain ⟨hD5,alt⟩:=turn i n ys H5 w5
  rcases alt with ⟨stop,qn⟩ | ⟨go,hyl,step⟩
  ·refine thn (T.done (X.comp scope s3.heap.objs.size s3 (upd H2 s2.heap.objs.size (.lst [])) fp N' E') rfl rfl rfl hc i [] s5 _ H5 E' I5 (stat fr5) st5 stop) λ r s6 ⟨hr,I6⟩=>?_
   subst hr
   obtain ⟨m6,hn6,_⟩:=I6.loc
   have I7:=zmi I3 f3 I6
   refine fin _ _ m6 H5 s6 I7 qn hn6 ?_ ?_ (λ H' hn=>I3.fpOk (Nat.le_refl _) hn) I6.free
   ·intro z
    exact absurd (Nat.lt_of_lt_of_le I3.lt (Nat.le_of_eq z)) (Nat.lt_irrefl _)
   ·intro x c e z
    obtain ⟨v,q⟩:=I3.cell x c e
    exact absurd (Nat.lt_of_lt_of_le q.lt (by rw [z];exact Nat.le_refl _)) (Nat.lt_irrefl _)
  ·refine thn (T.item (X.comp scope s3.heap.objs.size s3 (upd H2 s2.heap.objs.size (.lst [])) fp N' E') rfl rfl rfl hc i [] s5 _ H5 E' I5 (stat fr5) st5 go) λ r s6 ⟨u,hr,h6⟩=>?_
   subst hr
   refine thn h6 λ _ s7 ⟨x,H7,I7,r7,y7,st7,fr7⟩=>?_
   have I7':=I7.pinned (stat fr7) (T.obj _ _ st7)
   have again:∀ {σ8:St} {H8:Hp} {ys':List V} {s8:Shared},Inv (X.comp scope s3.heap.objs.size s3 (upd H2 s2.heap.objs.size (.lst [])) fp N' E') ([]++zlj fp s7.heap) σ8 H8 s8→(∃ m',m'<n∧W (i+1) m' ys' H8)→(∀ (j:Nat) v,(List.replicate nt none++caps cap σ)[j]? = some (some v)→σ8[j]? = some (some v)) →
     ∃ m,m<n∧∃ i ys H',Inv (X.comp scope s3.heap.objs.size s3 (upd H2 s2.heap.objs.size (.lst [])) fp N' E') [] (List.replicate nt none++caps cap σ) H' s8∧tn i s8.heap∧(∀ b∈fp,H' b=none)∧W i m ys H':=fun {σ8 H8 ys' s8} I8 ⟨m',hm,w8⟩ hσ=>by
    refine ⟨m',hm,i+1,ys',H8,I8.unpinned.weak (by rw [I8.len,I5.len]) hσ,T.keep _ _ _ st7 λ b hb o e=>(I8.pin (b,o) (List.mem_append_right _ (List.mem_append_right _ (zmb hb e)))).1,λ b hb=>?_,w8⟩
    obtain ⟨o,e,d⟩:=T.obj _ _ st7 b hb
    exact (I8.pin (b,o) (List.mem_append_right _ (List.mem_append_right _ (zmb hb e)))).2.1
   refine thn (hg _ _ _ _ _ hEE _ s7 _ H7 x u _ I7' r7 (hgk x _ H7 _ (step x H7 y7))) λ _ s8 ⟨σ8,H8,I8,q8,hσ⟩=>?_
   refine thn (hif _ _ _ _ _ hEE _ s8 σ8 H8 _ I8 q8) λ ok s9 ⟨H9,I9,q9⟩=>?_
   cases ok with
   | false =>
    rw [if_neg Bool.false_ne_true] at q9 ⊢
    exact again I9 q9 hσ
   | true =>
    rw [if_pos rfl] at q9 ⊢
    refine thn (he _ _ _ _ _ hEE _ s9 σ8 H9 _ I9 q9) λ y s10 ⟨vy,H10,I10,r10,hD10,hm10⟩=>?_
    exact thn (zad (X:=X.comp scope s3.heap.objs.size s3 (upd H2 s2.heap.objs.size (.lst [])) fp N' E') _ s10 σ8 H10 (.ref s2.heap.objs.size) [vy] (.ref s2.heap.objs.size) [y] (λ _ H'=>H'=upd H10 s2.heap.objs.size (.lst (ys++[vy]))) I10 rfl (.cons r10 .nil) ⟨_,_,_,rfl,rfl,hD10,hyl,rfl⟩) λ _ s11 ⟨_,H11,I11,_,e11⟩=>by
     subst e11
     exact again I11 hm10 hσ
 have e4:({ s2 with heap:=h₁,toks:=s2.toks+([]:List (Str×Value)).length }:Shared)=s4:=by rw [hs4,hs3]
 show codeAny _ _ _ _ { s2 with heap:=h₁,toks:=s2.toks+([]:List (Str×Value)).length }
 rw [e4]
 exact codeAny_compStart_list loop (T.self X.A 0 s4 _ _ st4' loop)
theorem zhr {elt tg iter:Expr} {ifs:List Expr} {scope:Scope} {cpos pos pos':Pos} {N':List Str} {nt:Nat} {cap:List Nat} {wi:TI} {g:TG} {ti:TT} {te:TE} {i:Nat} {x:Str}
  (EK:Addr→Shared→Hp→List Addr→(Value→Shared→Prop)→Prop)
  (hE:∀ (pins:List (Addr×Obj)) (σ:St) (s3:Shared) (H3:Hp) (fp:List Addr) (Q:VK) (D:Addr),Inv X pins σ H3 s3→(∀ b∈fp,FpOk X pins H3 b) →
   EK s3.heap.objs.size s3 H3 fp (notedBy (model X.prog X.w) X.A (compEnvC scope (clOf scope X.env) s3.heap.objs.size X.env) λ e s'=>compPost (model X.prog X.w) X.A X.xe none (EP X pins σ Q) (.ref D) s3.heap.objs.size (.error e) s'))
  (hc:X.calm=true) (hi:PI X tg iter wi)
  (hg:∀ C s₀ H₀ fp E',EK C s₀ H₀ fp E'→PG (X.comp scope C s₀ H₀ fp N' E') tg g)
  (hif:∀ C s₀ H₀ fp E',EK C s₀ H₀ fp E'→PIf (X.comp scope C s₀ H₀ fp N' E') ifs ti)
  (he:∀ C s₀ H₀ fp E',EK C s₀ H₀ fp E'→PE (X.comp scope C s₀ H₀ fp N' E') elt te)
  (hk:scope.kind = .function) (hb:zwc scope X.env=true) (hcap:zmq X scope N' nt cap=true)
  (hgk:zjh nt g) (hs:∀ x,foldedSetIterable iter X.env x=pure x)
  (hN:X.N.Nodup) (hix:X.N[i]? = some x) (hx:Loc X.env.scope x) (hf:X.fn x=true ∨ X.env.scope.names.lookup x=some .local)
  (hsw:swapsWith (.ListComp elt [⟨tg,iter,ifs,0⟩] scope cpos) (some (.Name x pos')) pos.line X.env=pure true) :
  PS X (.Assign [.Name x pos'] (.ListComp elt [⟨tg,iter,ifs,0⟩] scope cpos) pos) (tAsg (zzt wi nt cap g ti te) (zkd i)) := .mk <| by
 intro pins s σ H D I h
 rw [exec_Assign_Name_used _ _ _ _ hsw]
 refine wpAny_bind (wpAny_standAt (wpAny_bind ?_))
 show wpAny _ X.A (do let _ ← comprehension (.ListComp elt [⟨tg,iter,ifs,0⟩] scope cpos) scope X.env _ (newList []) false (eval iter X.env) (some (assign (.Name x pos') X.env))) _ _ s
 refine wpAny_bind (thn (ztm (use:=some (assign (.Name x pos') X.env)) (QQ:=λ _ s'=>SP X pins D .next s') EK hE hc hi hg hif he hk hb hcap hgk hs I h ?_) λ _ s' hq=>wpAny_pure (wpAny_pure hq))
 intro Da C m H5 s6 I6 q6 hn hC hcell hfp h5
 show wpAny _ _ (assign (.Name x pos') X.env (.ref Da)) _ _ s6
 refine wpAny_assign_Name (zii I6 hN hix hx (v := .ref Da) rfl (λ s7 I7 ⟨a,hsb,ha⟩=>?_) hf)
 have hCa:C≠a:=by
  rcases ha with rfl | ha
  ·exact hC
  ·exact λ z=>hcell x a ha z.symm
 refine ⟨m,hn.sameBut hsb hCa,λ h' hsb'=>⟨_,H5,?_,q6⟩⟩
 refine I7.turnedL (ch:=[C]) (t':=s7.toks) (λ b hb'=>?_) λ b u hb' e=>(hsb'.2 b λ z=>hb' (by simp [z])).trans e
 have eb:b=C:=by simpa using hb'
 subst eb
 exact hfp _ h5
theorem zxq {elt tg iter:Expr} {ifs:List Expr} {scope:Scope} {cpos pos pos':Pos} {wi:TI} {g:TG} {ti:TT} {te:TE} {i:Nat} {x:Str} (N':List Str) (nt:Nat) (cap:List Nat)
  (hN:X.N.Nodup) (hix:X.N[i]? = some x) (hx:Loc X.env.scope x)
  (hc:X.calm=true) (hi:PI X tg iter wi) (hgk:zjh nt g)
  (hg:∀ C s₀ H₀ fp E',PG (X.comp scope C s₀ H₀ fp N' E') tg g)
  (hif:∀ C s₀ H₀ fp E',PIf (X.comp scope C s₀ H₀ fp N' E') ifs ti)
  (he:∀ C s₀ H₀ fp E',PE (X.comp scope C s₀ H₀ fp N' E') elt te)
  (hk:scope.kind = .function:=by rfl) (hb:zwc scope X.env=true:=by rfl) (hcap:zmq X scope N' nt cap=true:=by rfl)
  (hs:∀ x,foldedSetIterable iter X.env x=pure x:=by intro _;rfl) (hf:X.fn x=true ∨ X.env.scope.names.lookup x=some .local:=by first | exact .inl rfl | exact .inr rfl | assumption)
  (hsw:swapsWith (.ListComp elt [⟨tg,iter,ifs,0⟩] scope cpos) (some (.Name x pos')) pos.line X.env=pure true:=by rfl) :
  PS X (.Assign [.Name x pos'] (.ListComp elt [⟨tg,iter,ifs,0⟩] scope cpos) pos) (tAsg (zzt wi nt cap g ti te) (zkd i)) :=
 zhr (λ _ _ _ _ _=>True) (λ _ _ _ _ _ _ _ _ _=>trivial) hc hi (λ C s₀ H₀ fp E' _=>hg C s₀ H₀ fp E') (λ C s₀ H₀ fp E' _=>hif C s₀ H₀ fp E') (λ C s₀ H₀ fp E' _=>he C s₀ H₀ fp E') hk hb hcap hgk hs hN hix hx hf hsw
end
end L2
namespace HT
open PySem PySem.Spec PyProof.Rows
section
variable {prog:Program} {w:World} {A:Around} {E:Value→Shared→Prop} {s:Shared}
theorem getItem_tuple_whole {t sl:Addr} {items:Array Value} {vl vu:Value} {lo hi:Option Int} {Q:Value→Shared→Prop} (ht:IsTup s.heap t items) (hs:s.heap.IsSliceOf sl vl vu .none) (pl:IsPart vl lo) (pu:IsPart vu hi)
  (hw:sIx items.size 0 lo=0∧sIx items.size items.size hi=items.size) (h:Q (.ref t) s):wpAny (model prog w) A (getItem (.ref t) (.ref sl)) Q E s:=by
 obtain ⟨os,hos,hcs,hds⟩:=id hs
 have hTs:s.TypeIs (.ref sl) "slice" := ⟨os,hos,hcs⟩
 unfold getItem
 try with_reducible refine wpAny_holding ?_
 first | refine wpAny_bind (wpAny_pure ?_) | skip
 refine wpAny_bind (wpAny_sequenceKey ht.typeIs (by decide) ?_)
 refine wpAny_bind (wpAny_callSpecial?_slot (name:=Str.ofString "__getitem__") ht.typeIs PyProof.Rows.slot_tuple_getitem
  (wpAny_call_entry PyProof.Rows.slot_tuple_getitem ht.typeIs entry_tuple_getitem ?_ (args_tuple_getitem _ _)))
 show wpAny _ _ (Builtin.Tuple.tupleItemsOf (.ref t) >>= _) _ _ s
 refine wpAny_bind (tupleItemsOf_ ht ?_)
 refine wpAny_bind (wpAny_typeOf hTs ?_)
 rw [if_pos (by decide)]
 refine wpAny_bind (zub hs pl pu ?_)
 have hyes:((((sIx items.size 0 lo:Nat):Int) == 0 && (1:Int) == 1 && (sIx items.size items.size hi - sIx items.size 0 lo) == items.size)=true):=by
  rw [hw.1,hw.2]
  simp
 show wpAny _ _ (if (((sIx items.size 0 lo:Nat):Int) == 0 && (1:Int) == 1 && (sIx items.size items.size hi - sIx items.size 0 lo) == items.size)=true then _ else _) _ _ s
 rw [if_pos hyes]
 refine wpAny_bind ?_
 unfold Builtin.Tuple.tupleIsExact
 refine wpAny_bind (wpAny_typeOf ht.typeIs (wpAny_pure ?_))
 rw [if_pos (by decide)]
 refine wpAny_bind (wpAny_rule ?_)
 refine wpAny_pure ⟨_,rfl,?_⟩
 exact wpAny_pure h
end
end HT
namespace L2
open PySem PySem.Spec PyProof.Rows PySem.NumText
section
variable {X:Cx}
noncomputable def rSlG (K:W.Frag):V→Option Int→Option Int→Hp→VK→Prop:=λ x lo hi H Q=>∃ a xs,x = .ref a∧SqT K H a xs∧∀ p H',SqT K H' p (cutV xs lo hi)→Same H H'→(Plain H→Plain H')→Q (.ref p) H'
theorem zaj:SlR X (rSlG X.K):=by
 intro pins s σ H x v vl vu lo hi sl Q I rx hs pl pu h
 obtain ⟨a,xs,rfl,hx,q⟩:=h
 by_cases hw:HT.sIx xs.length 0 lo=0∧HT.sIx xs.length xs.length hi=xs.length
 ·cases rx
  obtain ⟨its,r,ht,hz⟩:=I.tuple hx
  have hlen:its.toArray.size=xs.length:=by rw [List.size_toArray];exact r.length.symm
  refine ⟨"tuple",_,PyProof.Rows.slot_tuple_getitem.lookup,ht.typeIs,?_⟩
  refine HT.getItem_tuple_whole ht hs pl pu (by rw [hlen];exact hw) ⟨.ref a,H,I,rfl,q _ _ ?_ (Same.refl _) id⟩
  unfold cutV
  rw [hw.1,hw.2]
  simpa using hx
 ·exact zlw pins s σ H (.ref a) v vl vu lo hi sl Q I rx hs pl pu ⟨a,xs,rfl,hx,hw,λ p hp=>q _ _ (SqT.of upd_same) (zea hp) λ z=>z.tup⟩
noncomputable def zzz (K:W.Frag):R2:=λ x y H Q=>∃ a b xs ys,x = .ref a∧y = .ref b∧SqT K H a xs∧SqT K H b ys∧xs.length+ys.length≤sizeLine∧∀ p H',SqT K H' p (xs++ys)→Same H H'→(Plain H→Plain H')→Q (.ref p) H'
theorem zlk:OpR X (binaryOp .Add) (zzz X.K):=by
 intro pins s σ H x y v u Q I rx ry h
 obtain ⟨a,b,xs,ys,rfl,rfl,ha,hb,hz,q⟩:=h
 by_cases hx:xs=[]
 ·cases rx
  cases ry
  obtain ⟨its,r1,p1,_⟩:=I.tuple ha
  obtain ⟨its2,r2,p2,_⟩:=I.tuple hb
  have e:its=[]:=by subst hx;cases r1;rfl
  subst e
  obtain ⟨⟨cls,dd,data,sl⟩,ho,hc,n,hd⟩:=id p1
  obtain ⟨⟨cls2,dd2,data2,sl2⟩,ho2,hc2,n2,hd2⟩:=id p2
  simp only at hc hd hc2 hd2
  subst hc hd hc2 hd2
  exact concat_meets ⟨_,ho,rfl⟩ ⟨_,ho2,rfl⟩ noFill_tuple_add seq_tuple_add PySem.F.slot_tuple_add PySem.F.entry_tuple_add (PySem.F.args_tuple_add_2 _ _)
   (tuple_addW0 a b #[] its2.toArray n n2 dd dd2 sl sl2 rfl) ⟨ho,ho2,⟨.ref b,H,I,rfl,q _ _ (by subst hx;exact hb) (Same.refl _) id⟩⟩
 ·refine zou pins s σ H _ _ v u Q I rx ry ⟨a,b,xs,ys,rfl,rfl,ha,hb,hx,hz,λ e=>q _ _ (by subst e;rw [List.append_nil];exact ha) (Same.refl _) id,λ _ p hp=>q _ _ (SqT.of upd_same) (zea hp) λ z=>z.tup⟩
end
mutual
noncomputable def noL:PyData→Bool
 | .list _=>false
 | .tuple xs=>noLs xs
 | _=>true
noncomputable def noLs:List PyData→Bool
 | []=>true
 | d::ds=>noL d && noLs ds
end
theorem SqT.mono {K:W.Frag} {H H':Hp} {a D:Addr} {xs:List V} (k:∀ b o,b≠D→H b=some o→H' b=some o) (hd:∃ zs,H D=some (.lst zs)) (h:SqT K H a xs):SqT K H' a xs:=by
 obtain ⟨zs,hd⟩:=hd
 rcases h with h | h
 ·rcases h with h | ⟨o,h⟩
  ·exact .inl (.inl (k _ _ (zys h hd (λ e=>nomatch e)) h))
  ·exact .inl (.inr ⟨o,k _ _ (zys h hd (λ e=>nomatch e)) h⟩)
 ·exact .inr h
mutual
theorem DV.mono {K:W.Frag} {H H':Hp} {D:Addr} (k:∀ b o,b≠D→H b=some o→H' b=some o) (hd:∃ zs,H D=some (.lst zs)):∀ (d:PyData) (v:V),noL d=true→DV K H d v→DV K H' d v
 | .none,v,_,h=>h
 | .bool b,v,_,h=>h
 | .int i,v,_,h=>h
 | .str x,v,_,h=>h
 | .list xs,v,n,_=>by cases n
 | .tuple xs,v,n,⟨a,vs,h1,h2,h3⟩=>⟨a,vs,h1,h2.mono k hd,DVs.mono k hd xs vs n h3⟩
 | .dict _,v,_,h=>h.elim
theorem DVs.mono {K:W.Frag} {H H':Hp} {D:Addr} (k:∀ b o,b≠D→H b=some o→H' b=some o) (hd:∃ zs,H D=some (.lst zs)):∀ (ds:List PyData) (vs:List V),noLs ds=true→DVs K H ds vs→DVs K H' ds vs
 | [],vs,_,h=>h
 | d::ds,vs,n,⟨v,r,h1,h2,h3⟩=>by
  have n:noL d=true∧noLs ds=true:=by rw [noLs,Bool.and_eq_true] at n;exact n
  exact ⟨v,r,h1,DV.mono k hd d v n.1 h2,DVs.mono k hd ds r n.2 h3⟩
end
theorem DVs.length {K:W.Frag} {H:Hp}:∀ {ds:List PyData} {vs:List V},DVs K H ds vs→vs.length=ds.length
 | [],vs,h=>by cases (show vs=[] from h);rfl
 | d::ds,vs,⟨v,r,h1,h2,h3⟩=>by subst h1;simp [DVs.length h3]
theorem DVs.get {K:W.Frag} {H:Hp}:∀ {ds:List PyData} {vs:List V} {i:Nat} {d:PyData},DVs K H ds vs→ds[i]? = some d→∃ v,vs[i]? = some v∧DV K H d v
 | [],vs,i,d,h,e=>by simp at e
 | d::ds,vs,0,e',⟨v,r,h1,h2,h3⟩,e=>by subst h1;simp at e;subst e;exact ⟨v,rfl,h2⟩
 | d::ds,vs,i+1,e',⟨v,r,h1,h2,h3⟩,e=>by subst h1;simp at e;obtain ⟨u,hu,q⟩:=DVs.get h3 e;exact ⟨u,by simpa using hu,q⟩
theorem DVs.append {K:W.Frag} {H:Hp}:∀ {ds es:List PyData} {vs us:List V},DVs K H ds vs→DVs K H es us→DVs K H (ds++es) (vs++us)
 | [],es,vs,us,h,h'=>by cases (show vs=[] from h);exact h'
 | d::ds,es,vs,us,⟨v,r,h1,h2,h3⟩,h'=>by subst h1;exact ⟨v,r++us,rfl,h2,DVs.append h3 h'⟩
theorem DVs.drop {K:W.Frag} {H:Hp}:∀ {ds:List PyData} {vs:List V} (n:Nat),DVs K H ds vs→DVs K H (ds.drop n) (vs.drop n)
 | ds,vs,0,h=>by simpa using h
 | [],vs,n+1,h=>by cases (show vs=[] from h);rfl
 | d::ds,vs,n+1,⟨v,r,h1,h2,h3⟩=>by subst h1;exact DVs.drop n h3
theorem DVs.take {K:W.Frag} {H:Hp}:∀ {ds:List PyData} {vs:List V} (n:Nat),DVs K H ds vs→DVs K H (ds.take n) (vs.take n)
 | ds,vs,0,h=>by rw [List.take_zero,List.take_zero];rfl
 | [],vs,n+1,h=>by cases (show vs=[] from h);rfl
 | d::ds,vs,n+1,⟨v,r,h1,h2,h3⟩=>by subst h1;exact ⟨v,_,rfl,h2,DVs.take n h3⟩
theorem DVs.of {α:Type} {K:W.Frag} {H:Hp} {f:α→PyData}:∀ {xs:List α} {vs:List V},vs.length=xs.length→(∀ (i:Nat) v x,vs[i]? = some v→xs[i]? = some x→DV K H (f x) v)→DVs K H (xs.map f) vs
 | [],vs,hl,h=>by cases vs with | nil=>rfl | cons _ _=>simp at hl
 | x::xs,vs,hl,h=>by
  cases vs with
  | nil=>simp at hl
  | cons v vs=>exact ⟨v,vs,rfl,h 0 v x rfl rfl,DVs.of (by simpa using hl) λ i u y e1 e2=>h (i+1) u y (by simpa using e1) (by simpa using e2)⟩
theorem gk3 {K:W.Frag}:zjh 3 (gTup K 3 (zws (zkd 0) (zws (zkd 1) (zws (zkd 2) gNil)))):=λ x c H Q h=>by
 obtain ⟨a,xs,e1,hq,hl,v,r,e2,v',r',e3,v2,r2,e4,e5,h⟩:=h
 refine ⟨a,xs,e1,hq,hl,v,r,e2,v',r',e3,v2,r2,e4,e5,h,λ j v e=>?_⟩
 match j,e with
 | 0,e=>simp [List.replicate] at e
 | 1,e=>simp [List.replicate] at e
 | 2,e=>simp [List.replicate] at e
 | j+3,e=>simpa [List.replicate,List.set] using e
section
variable {X:Cx} {K:W.Frag}
theorem zpe (h:X.K=K):IxR X (rIxT K):=h ▸ zxa
end
end L2
namespace L2
open PySem PySem.Spec PyProof.Rows PySem.NumText
noncomputable abbrev Stp:=Int×Int×Int
noncomputable def stp (s:Stp):PyData := .tuple [.int s.1,.int s.2.1,.int s.2.2]
noncomputable def plc (ss:List Stp):PyData := .tuple (ss.map stp)
noncomputable abbrev sV (s:Stp):List V:=[.int s.1,.int s.2.1,.int s.2.2]
theorem zyv {K:W.Frag} {H:Hp} {s:Stp} {v:V} (h:DV K H (stp s) v):∃ t,v = .ref t∧SqT K H t (sV s):=by
 obtain ⟨t,vs,rfl,hq,x,r,rfl,hx,y,r2,rfl,hy,z,r3,rfl,hz,h4⟩:=h
 cases (show x=V.int s.1 from hx)
 cases (show y=V.int s.2.1 from hy)
 cases (show z=V.int s.2.2 from hz)
 cases (show r3=[] from h4)
 exact ⟨t,rfl,hq⟩
theorem zdg {K:W.Frag} {H:Hp} {s:Stp} {t:Addr} (h:SqT K H t (sV s)):DV K H (stp s) (.ref t):=⟨t,_,rfl,h,_,_,rfl,rfl,_,_,rfl,rfl,_,_,rfl,rfl,rfl⟩
theorem ztu (s:Stp):noL (stp s)=true:=rfl
theorem zhf:∀ ss:List Stp,noLs (ss.map stp)=true
 | []=>rfl
 | s::ss=>by rw [List.map_cons,noLs,ztu,zhf ss];rfl
theorem zml (ss:List Stp):noL (plc ss)=true:=zhf ss
theorem zse:∀ ss:List Stp,PyData.canLayAll0 (ss.map stp)=true
 | []=>rfl
 | s::ss=>by
  rw [List.map_cons,PyData.canLayAll0,zse ss]
  rfl
theorem zsb:∀ ss:List Stp,PyData.depthAll (ss.map stp)≤1
 | []=>Nat.zero_le _
 | s::ss=>by
  rw [List.map_cons,PyData.depthAll]
  have h1:PyData.depth (stp s)=1:=rfl
  have h2:=zsb ss
  rw [h1]
  omega
theorem zkg (ss:List Stp):PyData.canLay0 (plc ss)=true:=zse ss
theorem zga (ss:List Stp):SeqAt.shaped (plc ss)=true:=by
 unfold SeqAt.shaped
 rw [zkg,Bool.true_and]
 have h:PyData.depth (plc ss)=PyData.depthAll (ss.map stp)+1:=rfl
 have:=zsb ss
 exact decide_eq_true (by omega)
theorem zfl (a b:Stp):PyData.eqv (stp a) (stp b)=decide (a=b):=by
 obtain ⟨a1,a2,a3⟩:=a
 obtain ⟨b1,b2,b3⟩:=b
 have e:PyData.eqv (stp (a1,a2,a3)) (stp (b1,b2,b3))=(a1 == b1 && (a2 == b2 && (a3 == b3 && true))):=rfl
 rw [e,Bool.eq_iff_iff]
 simp
theorem zel:∀ a b:List Stp,PyData.eqvAll (a.map stp) (b.map stp)=decide (a=b)
 | [],[]=>rfl
 | [],_::_=>rfl
 | _::_,[]=>rfl
 | x::a,y::b=>by
  rw [List.map_cons,List.map_cons,PyData.eqvAll,zfl,zel a b,Bool.eq_iff_iff]
  simp
theorem zec (a b:List Stp):PyData.eqv (plc a) (plc b)=decide (a=b):=zel a b
theorem zli {K:W.Frag} {H:Hp} {ss:List Stp} {vs:List V} {i:Nat} (h:DVs K H (ss.map stp) vs) (hi:i<ss.length):∃ t,vs[i]? = some (.ref t)∧SqT K H t (sV ss[i]):=by
 obtain ⟨v,hv,hd⟩:=h.get (i:=i) (d:=stp ss[i]) (by simp [hi])
 obtain ⟨t,rfl,hq⟩:=zyv hd
 exact ⟨t,hv,hq⟩
theorem zwt {K:W.Frag} {H:Hp} {p:Addr} {xs:List V} {i:Int} {v:V} {Q:VK} (hq:SqT K H p xs) (h0:0≤i) (hv:xs[i.toNat]? = some v) (h:Q v H):rIxT K (.ref p) (.int i) H Q:=by
 obtain ⟨j,rfl⟩:∃ j:Nat,i=j:=⟨i.toNat,by omega⟩
 exact ⟨p,xs,_,v,rfl,rfl,hq,zoi (by simpa using hv),h⟩
theorem zgf {xs:List V} {i:Int} (h0:0≤i):cutV xs none (some i)=xs.take i.toNat:=by
 obtain ⟨j,rfl⟩:∃ j:Nat,i=j:=⟨i.toNat,by omega⟩
 unfold cutV
 rw [HT.sIx_none,HT.sIx_nat,List.drop_zero,Nat.sub_zero,Int.toNat_natCast]
 rcases Nat.le_total j xs.length with h | h
 ·rw [Nat.min_eq_left h]
 ·rw [Nat.min_eq_right h,List.take_of_length_le (Nat.le_refl _),List.take_of_length_le h]
theorem zps {xs:List V} {i:Int} (h0:0≤i):cutV xs (some i) none=xs.drop i.toNat:=by
 obtain ⟨j,rfl⟩:∃ j:Nat,i=j:=⟨i.toNat,by omega⟩
 unfold cutV
 rw [HT.sIx_none,HT.sIx_nat,Int.toNat_natCast]
 rcases Nat.le_total j xs.length with h | h
 ·rw [Nat.min_eq_left h,List.take_of_length_le (by rw [List.length_drop];exact Nat.le_refl _)]
 ·rw [Nat.min_eq_right h,List.drop_of_length_le h,List.drop_of_length_le (Nat.le_refl _),List.take_nil]
end L2
namespace L2
open PySem PySem.Spec PyProof.Rows PySem.NumText
noncomputable def lexD (e r:Nat→Bool) (d:Bool):List Nat→Bool
 | []=>d
 | j::js=>if e j=true then lexD e r d js else r j
noncomputable def zzc (op:CmpOp) (A:Around) (s:Shared) (y x:Value) (b:Bool):Prop :=
 ∀ (prog:Program) (w:World) (E:Value→Shared→Prop) (Q:Value→Shared→Prop),Q (.bool b) s→wpAny (model prog w) A (richCompare op y x) Q E s
section
open PySem.SeqAt
open PySem.AutoSeq1 (wpAny_loadPart')
open PySem.MeetsSeq PySem.MeetsSeq2 PySem.MeetsSeq3
theorem zxm (l b:Addr) (items items2:Array Value) (n n2:Nat) (dd dd2:Option Addr) (sl sl2:Array (Option Value)) (e r:Nat→Bool) :
  Meets (Builtin.«tuple.__lt__» ⟨[.ref l,.ref b],[]⟩)
   (λ A R s=>s.heap.get? l=some { cls := .type "tuple",dict:=dd,data := .seq items n,slots:=sl }∧s.heap.get? b=some { cls := .type "tuple",dict:=dd2,data := .seq items2 n2,slots:=sl2 } ∧
    (∀ j (h1:j<items.size) (h2:j<items2.size),EqAt A.in1 s items[j] items2[j] (e j)) ∧
    (∀ j (h1:j<items.size) (h2:j<items2.size),e j=false→zzc .Lt A.in1 s items[j] items2[j] (r j)) ∧
    R (.ok (.ret (.bool (lexD e r (decide (items.size<items2.size)) (List.range (min items.size items2.size)))))) s) :=
 .of_wp λ prog w A R s h=>by
  obtain ⟨hp,g,d,tk,os⟩:=s;obtain ⟨hl,hb,he,hc,h⟩:=h
  have f2:=AutoSeq1.sub_tuple_tuple
  have hZ:(items.toList.zip items2.toList).length=min items.size items2.size:=by simp
  wp_walk using wpAny_loadPart' hl,wpAny_loadPart' hb,wpAny_forIn_list _ (λ rest b s'=>b.1=none∧s'=⟨hp,g,d,tk,os⟩∧∃ i,rest=(items.toList.zip items2.toList).drop i ∧
   R (.ok (.ret (.bool (lexD e r (decide (items.size<items2.size)) ((List.range (min items.size items2.size)).drop i))))) ⟨hp,g,d,tk,os⟩) _
  case turn =>
   rintro ⟨y,x⟩ rest b s' ⟨hb',rfl,i,hz,hR⟩
   have hlt:i<(items.toList.zip items2.toList).length:=by
    rcases Nat.lt_or_ge i (items.toList.zip items2.toList).length with h' | h'
    ·exact h'
    ·rw [List.drop_of_length_le h'] at hz;cases hz
   have hm:i<min items.size items2.size:=hZ ▸ hlt
   have h1:i<items.size:=Nat.lt_of_lt_of_le hm (Nat.min_le_left _ _)
   have h2:i<items2.size:=Nat.lt_of_lt_of_le hm (Nat.min_le_right _ _)
   rw [List.drop_eq_getElem_cons hlt] at hz
   injection hz with hyx hrest
   have hy:y=items[i]:=by have:=congrArg Prod.fst hyx;simpa using this
   have hx:x=items2[i]:=by have:=congrArg Prod.snd hyx;simpa using this
   subst hy hx
   have hd:(List.range (min items.size items2.size)).drop i=i::(List.range (min items.size items2.size)).drop (i+1):=by simp [List.drop_eq_getElem_cons,hm]
   rw [hd,lexD] at hR
   refine wpAny_bind (he i h1 h2 prog w _ _ ?_)
   cases hy:e i with
   | true =>
    rw [hy,if_pos rfl] at hR
    wp_walk
    exact ⟨rfl,rfl,i+1,hrest,hR⟩
   | false =>
    rw [hy,if_neg Bool.false_ne_true] at hR
    have hri:=hc i h1 h2 hy prog w
    wp_walk using hri
    exact ⟨_,rfl,by simpa using hR⟩
  case fin =>
   rintro ⟨b1,b2⟩ s' ⟨hb',rfl,i,hz,hR⟩
   simp only at hb'
   subst hb'
   have hge:min items.size items2.size≤i:=by
    rw [← hZ]
    rcases Nat.lt_or_ge i (items.toList.zip items2.toList).length with h' | h'
    ·rw [List.drop_eq_getElem_cons h'] at hz;cases hz
    ·exact h'
   rw [List.drop_of_length_le (by simpa using hge),lexD] at hR
   wp_walk
   exact ⟨_,rfl,by simpa [Builtin.Tuple.tupleCompareSizes] using hR⟩
  case h =>
   exact ⟨rfl,rfl,0,rfl,h⟩
theorem zpl {prog:Program} {w:World} {A:Around} {E:Value→Shared→Prop} {s:Shared} {l b:Addr} {items items2:Array Value} {e r:Nat→Bool} {Q:Value→Shared→Prop} (hl:IsTup s.heap l items) (hb:IsTup s.heap b items2)
  (he:∀ j (h1:j<items.size) (h2:j<items2.size),EqAt A.in1 s items[j] items2[j] (e j)) (hc:∀ j (h1:j<items.size) (h2:j<items2.size),e j=false→zzc .Lt A.in1 s items[j] items2[j] (r j))
  (hu:A.units<cLine) (h:Q (.bool (lexD e r (decide (items.size<items2.size)) (List.range (min items.size items2.size)))) s):wpAny (model prog w) A (compareOp .Lt (.ref l) (.ref b)) Q E s:=by
 obtain ⟨⟨cls,dd,data,sl⟩,ho,hc1,n,hd⟩:=id hl
 obtain ⟨⟨cls2,dd2,data2,sl2⟩,ho2,hc2,n2,hd2⟩:=id hb
 simp only at hc1 hd hc2 hd2
 subst hc1 hd hc2 hd2
 refine richCompare_meets_room (op := .Lt) ⟨_,ho,rfl⟩ ⟨_,ho2,rfl⟩ PySem.F.slot_tuple_lt PySem.F.entry_tuple_lt (PySem.F.args_tuple_lt_2 _ _) (zxm l b items items2 n n2 dd dd2 sl sl2 e r) ⟨ho,ho2,he,hc,?_⟩ hu
 exact (show Value.bool _≠Value.notImplemented∧Q (.bool _) s from ⟨(λ x=>nomatch x),h⟩)
theorem zgn (l b:Addr) (items items2:Array Value) (n n2:Nat) (dd dd2:Option Addr) (sl sl2:Array (Option Value)) (e r:Nat→Bool) :
  Meets (Builtin.«tuple.__ge__» ⟨[.ref l,.ref b],[]⟩)
   (λ A R s=>s.heap.get? l=some { cls := .type "tuple",dict:=dd,data := .seq items n,slots:=sl }∧s.heap.get? b=some { cls := .type "tuple",dict:=dd2,data := .seq items2 n2,slots:=sl2 } ∧
    (∀ j (h1:j<items.size) (h2:j<items2.size),EqAt A.in1 s items[j] items2[j] (e j)) ∧
    (∀ j (h1:j<items.size) (h2:j<items2.size),e j=false→zzc .GtE A.in1 s items[j] items2[j] (r j)) ∧
    R (.ok (.ret (.bool (lexD e r (decide (items2.size≤items.size)) (List.range (min items.size items2.size)))))) s) :=
 .of_wp λ prog w A R s h=>by
  obtain ⟨hp,g,d,tk,os⟩:=s;obtain ⟨hl,hb,he,hc,h⟩:=h
  have f2:=AutoSeq1.sub_tuple_tuple
  have hZ:(items.toList.zip items2.toList).length=min items.size items2.size:=by simp
  wp_walk using wpAny_loadPart' hl,wpAny_loadPart' hb,wpAny_forIn_list _ (λ rest b s'=>b.1=none∧s'=⟨hp,g,d,tk,os⟩∧∃ i,rest=(items.toList.zip items2.toList).drop i ∧
   R (.ok (.ret (.bool (lexD e r (decide (items2.size≤items.size)) ((List.range (min items.size items2.size)).drop i))))) ⟨hp,g,d,tk,os⟩) _
  case turn =>
   rintro ⟨y,x⟩ rest b s' ⟨hb',rfl,i,hz,hR⟩
   have hlt:i<(items.toList.zip items2.toList).length:=by
    rcases Nat.lt_or_ge i (items.toList.zip items2.toList).length with h' | h'
    ·exact h'
    ·rw [List.drop_of_length_le h'] at hz;cases hz
   have hm:i<min items.size items2.size:=hZ ▸ hlt
   have h1:i<items.size:=Nat.lt_of_lt_of_le hm (Nat.min_le_left _ _)
   have h2:i<items2.size:=Nat.lt_of_lt_of_le hm (Nat.min_le_right _ _)
   rw [List.drop_eq_getElem_cons hlt] at hz
   injection hz with hyx hrest
   have hy:y=items[i]:=by have:=congrArg Prod.fst hyx;simpa using this
   have hx:x=items2[i]:=by have:=congrArg Prod.snd hyx;simpa using this
   subst hy hx
   have hd:(List.range (min items.size items2.size)).drop i=i::(List.range (min items.size items2.size)).drop (i+1):=by simp [List.drop_eq_getElem_cons,hm]
   rw [hd,lexD] at hR
   refine wpAny_bind (he i h1 h2 prog w _ _ ?_)
   cases hy:e i with
   | true =>
    rw [hy,if_pos rfl] at hR
    wp_walk
    exact ⟨rfl,rfl,i+1,hrest,hR⟩
   | false =>
    rw [hy,if_neg Bool.false_ne_true] at hR
    have hri:=hc i h1 h2 hy prog w
    wp_walk using hri
    exact ⟨_,rfl,by simpa using hR⟩
  case fin =>
   rintro ⟨b1,b2⟩ s' ⟨hb',rfl,i,hz,hR⟩
   simp only at hb'
   subst hb'
   have hge:min items.size items2.size≤i:=by
    rw [← hZ]
    rcases Nat.lt_or_ge i (items.toList.zip items2.toList).length with h' | h'
    ·rw [List.drop_eq_getElem_cons h'] at hz;cases hz
    ·exact h'
   rw [List.drop_of_length_le (by simpa using hge),lexD] at hR
   wp_walk
   exact ⟨_,rfl,by simpa [Builtin.Tuple.tupleCompareSizes] using hR⟩
  case h =>
   exact ⟨rfl,rfl,0,rfl,h⟩
theorem ztl {prog:Program} {w:World} {A:Around} {E:Value→Shared→Prop} {s:Shared} {l b:Addr} {items items2:Array Value} {e r:Nat→Bool} {Q:Value→Shared→Prop} (hl:IsTup s.heap l items) (hb:IsTup s.heap b items2)
  (he:∀ j (h1:j<items.size) (h2:j<items2.size),EqAt A.in1 s items[j] items2[j] (e j)) (hc:∀ j (h1:j<items.size) (h2:j<items2.size),e j=false→zzc .GtE A.in1 s items[j] items2[j] (r j))
  (hu:A.units<cLine) (h:Q (.bool (lexD e r (decide (items2.size≤items.size)) (List.range (min items.size items2.size)))) s):wpAny (model prog w) A (compareOp .GtE (.ref l) (.ref b)) Q E s:=by
 obtain ⟨⟨cls,dd,data,sl⟩,ho,hc1,n,hd⟩:=id hl
 obtain ⟨⟨cls2,dd2,data2,sl2⟩,ho2,hc2,n2,hd2⟩:=id hb
 simp only at hc1 hd hc2 hd2
 subst hc1 hd hc2 hd2
 refine richCompare_meets_room (op := .GtE) ⟨_,ho,rfl⟩ ⟨_,ho2,rfl⟩ PySem.F.slot_tuple_ge PySem.F.entry_tuple_ge (PySem.F.args_tuple_ge_2 _ _) (zgn l b items items2 n n2 dd dd2 sl sl2 e r) ⟨ho,ho2,he,hc,?_⟩ hu
 exact (show Value.bool _≠Value.notImplemented∧Q (.bool _) s from ⟨(λ x=>nomatch x),h⟩)
end
noncomputable def lexG {α:Type} [DecidableEq α] (lt:α→α→Bool):List α→List α→Bool
 | [],[]=>false
 | [],_::_=>true
 | _::_,[]=>false
 | x::xs,y::ys=>if x=y then lexG lt xs ys else lt x y
theorem zif (e r:Nat→Bool) (d:Bool):∀ js:List Nat,lexD e r d (js.map Nat.succ)=lexD (λ j=>e (j+1)) (λ j=>r (j+1)) d js
 | []=>rfl
 | j::js=>by
  rw [List.map_cons,lexD,lexD,zif e r d js]
theorem zkq {α:Type} [DecidableEq α] {lt:α→α→Bool}:∀ {xs ys:List α} {e r:Nat→Bool},(∀ (j:Nat) x y,xs[j]? = some x→ys[j]? = some y→e j=decide (x=y))→(∀ (j:Nat) x y,xs[j]? = some x→ys[j]? = some y→x≠y→r j=lt x y) →
  lexD e r (decide (xs.length<ys.length)) (List.range (min xs.length ys.length))=lexG lt xs ys:=by
 intro xs
 induction xs with
 | nil =>
  intro ys e r _ _
  cases ys with
  | nil=>rfl
  | cons y ys=>rw [List.length_nil,Nat.zero_min];exact decide_eq_true (Nat.succ_pos _)
 | cons x xs ih =>
  intro ys e r he hr
  cases ys with
  | nil=>rw [List.length_nil,Nat.min_zero];exact decide_eq_false (Nat.not_lt_zero _)
  | cons y ys =>
   have h0:=he 0 x y rfl rfl
   rw [List.length_cons,List.length_cons,Nat.succ_min_succ,List.range_succ_eq_map,lexD,lexG,h0]
   by_cases hxy:x=y
   ·rw [if_pos (decide_eq_true hxy),if_pos hxy,zif]
    have:=ih (ys:=ys) (e:=λ j=>e (j+1)) (r:=λ j=>r (j+1)) (λ j a b h1 h2=>he (j+1) a b (by simpa using h1) (by simpa using h2)) (λ j a b h1 h2=>hr (j+1) a b (by simpa using h1) (by simpa using h2))
    rw [← this]
    congr 1
    exact decide_eq_decide.mpr (by omega)
   ·rw [if_neg (by simpa using hxy),if_neg hxy]
    exact hr 0 x y rfl rfl hxy
theorem zwq {α:Type} [DecidableEq α] {lt:α→α→Bool}:∀ {xs ys:List α} {e r:Nat→Bool},(∀ (j:Nat) x y,xs[j]? = some x→ys[j]? = some y→e j=decide (x=y))→(∀ (j:Nat) x y,xs[j]? = some x→ys[j]? = some y→x≠y→r j = !lt x y) →
  lexD e r (decide (ys.length≤xs.length)) (List.range (min xs.length ys.length)) = !lexG lt xs ys:=by
 intro xs
 induction xs with
 | nil =>
  intro ys e r _ _
  cases ys with
  | nil=>rfl
  | cons y ys=>rw [List.length_nil,Nat.zero_min];exact decide_eq_false (Nat.not_succ_le_zero _)
 | cons x xs ih =>
  intro ys e r he hr
  cases ys with
  | nil=>rw [List.length_nil,Nat.min_zero];exact decide_eq_true (Nat.zero_le _)
  | cons y ys =>
   have h0:=he 0 x y rfl rfl
   rw [List.length_cons,List.length_cons,Nat.succ_min_succ,List.range_succ_eq_map,lexD,lexG,h0]
   by_cases hxy:x=y
   ·rw [if_pos (decide_eq_true hxy),if_pos hxy,zif]
    have:=ih (ys:=ys) (e:=λ j=>e (j+1)) (r:=λ j=>r (j+1)) (λ j a b h1 h2=>he (j+1) a b (by simpa using h1) (by simpa using h2)) (λ j a b h1 h2=>hr (j+1) a b (by simpa using h1) (by simpa using h2))
    rw [← this]
    congr 1
    exact decide_eq_decide.mpr (by omega)
   ·rw [if_neg (by simpa using hxy),if_neg hxy]
    exact hr 0 x y rfl rfl hxy
noncomputable abbrev iLt (a b:Int):Bool:=decide (a<b)
noncomputable def sI (s:Stp):List Int:=[s.1,s.2.1,s.2.2]
theorem sI_inj {a b:Stp}:sI a=sI b↔a=b:=by
 obtain ⟨a1,a2,a3⟩:=a
 obtain ⟨b1,b2,b3⟩:=b
 simp [sI]
noncomputable abbrev sLt (a b:Stp):Bool:=lexG iLt (sI a) (sI b)
noncomputable abbrev pLt (a b:List Stp):Bool:=lexG sLt a b
theorem zxi {xs:List V} {us:List Value} (r:Vals xs us) {j:Nat} (h:j<us.toArray.size):∃ x,xs[j]? = some x∧RelV x us.toArray[j]:=by
 have hj:j<xs.length:=by rw [r.length];simpa using h
 obtain ⟨u,hu,q⟩:=r.get (List.getElem?_eq_getElem hj)
 refine ⟨xs[j],List.getElem?_eq_getElem hj,?_⟩
 have:us[j]? = some us.toArray[j]:=by simp
 rw [hu] at this
 cases this
 exact q
section
variable {X:Cx} {pins:List (Addr×Obj)} {σ:St} {H:Hp} {s:Shared} {A:Around}
theorem zzq (I:Inv X pins σ H s) {a b:Stp} {t u:Addr} (ha:SqT X.K H t (sV a)) (hb:SqT X.K H u (sV b)) (hu:A.units<cLine):zzc .Lt A s (.ref t) (.ref u) (sLt a b)∧zzc .GtE A s (.ref t) (.ref u) (!sLt a b):=by
 obtain ⟨its,r1,p1,_⟩:=I.tuple ha
 obtain ⟨its2,r2,p2,_⟩:=I.tuple hb
 have i1:IntsAre its (sI a):=zuf (by simpa [sI] using r1)
 have i2:IntsAre its2 (sI b):=zuf (by simpa [sI] using r2)
 have z1:its.toArray.size=(sI a).length:=by rw [← i1.length];simp
 have z2:its2.toArray.size=(sI b).length:=by rw [← i2.length];simp
 have get1:∀ j (h:j<its.toArray.size),∃ n t',(sI a)[j]? = some n∧its.toArray[j] = .int n t':=λ j h=>by
  obtain ⟨x,hx,q⟩:=zxi (xs:=(sI a).map V.int) (by simpa [sI] using r1) h
  rw [List.getElem?_map] at hx
  cases e:(sI a)[j]? with
  | none=>rw [e] at hx;cases hx
  | some n=>rw [e] at hx;cases hx;obtain ⟨t',q⟩:=q;exact ⟨n,t',rfl,q⟩
 have get2:∀ j (h:j<its2.toArray.size),∃ n t',(sI b)[j]? = some n∧its2.toArray[j] = .int n t':=λ j h=>by
  obtain ⟨x,hx,q⟩:=zxi (xs:=(sI b).map V.int) (by simpa [sI] using r2) h
  rw [List.getElem?_map] at hx
  cases e:(sI b)[j]? with
  | none=>rw [e] at hx;cases hx
  | some n=>rw [e] at hx;cases hx;obtain ⟨t',q⟩:=q;exact ⟨n,t',rfl,q⟩
 have he:∀ j (h1:j<its.toArray.size) (h2:j<its2.toArray.size),SeqAt.EqAt A.in1 s its.toArray[j] its2.toArray[j] (decide ((sI a)[j]? = (sI b)[j]?)):=λ j h1 h2=>by
  obtain ⟨n,t1,e1,q1⟩:=get1 j h1
  obtain ⟨m,t2,e2,q2⟩:=get2 j h2
  rw [q1,q2,e1,e2]
  have:decide (some n=some m)=(n == m):=by rw [Bool.eq_iff_iff];simp
  rw [this]
  exact SeqAt.EqAt.int_int n t1 m t2
 have hd:∀ (j:Nat) x y,(sI a)[j]? = some x→(sI b)[j]? = some y→decide ((sI a)[j]? = (sI b)[j]?)=decide (x=y):=λ j x y h1 h2=>by
  rw [h1,h2];exact decide_eq_decide.mpr (by simp)
 refine ⟨λ prog w E Q hq=>?_,λ prog w E Q hq=>?_⟩
 ·refine zpl (e:=λ j=>decide ((sI a)[j]? = (sI b)[j]?)) (r:=λ j=>decide (((sI a)[j]?).getD 0<((sI b)[j]?).getD 0)) p1 p2 he (λ j h1 h2 _ prog w E Q hq=>?_) hu ?_
  ·obtain ⟨n,t1,e1,q1⟩:=get1 j h1
   obtain ⟨m,t2,e2,q2⟩:=get2 j h2
   rw [q1,q2]
   rw [e1,e2] at hq
   exact (PyProof.Rows.lt_int hq:wpAny (model prog w) A.in1 (compareOp .Lt (.int n t1) (.int m t2)) Q E s)
  ·rw [z1,z2,zkq (lt:=iLt) hd (λ j x y h1 h2 _=>by rw [h1,h2];rfl)]
   exact hq
 ·refine ztl (e:=λ j=>decide ((sI a)[j]? = (sI b)[j]?)) (r:=λ j=>decide (((sI b)[j]?).getD 0≤((sI a)[j]?).getD 0)) p1 p2 he (λ j h1 h2 _ prog w E Q hq=>?_) hu ?_
  ·obtain ⟨n,t1,e1,q1⟩:=get1 j h1
   obtain ⟨m,t2,e2,q2⟩:=get2 j h2
   rw [q1,q2]
   rw [e1,e2] at hq
   exact (PyProof.Rows.ge_int hq:wpAny (model prog w) A.in1 (compareOp .GtE (.int n t1) (.int m t2)) Q E s)
  ·rw [z1,z2,zwq (lt:=iLt) hd (λ j x y h1 h2 _=>by
    rw [h1,h2]
    show decide (y≤x) = !decide (x<y)
    rw [← decide_not]
    exact decide_eq_decide.mpr (by omega))]
   exact hq
theorem zbt (I:Inv X pins σ H s) {a b:List Stp} {x y:V} {u v:Value} (ha:DV X.K H (plc a) x) (hb:DV X.K H (plc b) y) (rx:RelV x u) (ry:RelV y v) (hu:A.units+100<cLine):zzc .Lt A s u v (pLt a b)∧zzc .GtE A s u v (!pLt a b):=by
 obtain ⟨p,xs,rfl,hp,hdp⟩:=ha
 obtain ⟨q,ys,rfl,hq,hdq⟩:=hb
 cases rx
 cases ry
 obtain ⟨its,r1,p1,_⟩:=I.tuple hp
 obtain ⟨its2,r2,p2,_⟩:=I.tuple hq
 have z1:its.toArray.size=a.length:=by rw [List.size_toArray,← r1.length,hdp.length,List.length_map]
 have z2:its2.toArray.size=b.length:=by rw [List.size_toArray,← r2.length,hdq.length,List.length_map]
 have get1:∀ j (h:j<its.toArray.size),∃ n t',a[j]? = some n∧its.toArray[j] = .ref t'∧SqT X.K H t' (sV n):=λ j h=>by
  have hj:j<a.length:=by omega
  obtain ⟨t',e1,h1⟩:=zli hdp hj
  obtain ⟨x,hx,q⟩:=zxi r1 h
  rw [e1] at hx
  cases hx
  exact ⟨a[j],t',List.getElem?_eq_getElem hj,q,h1⟩
 have get2:∀ j (h:j<its2.toArray.size),∃ n t',b[j]? = some n∧its2.toArray[j] = .ref t'∧SqT X.K H t' (sV n):=λ j h=>by
  have hj:j<b.length:=by omega
  obtain ⟨t',e1,h1⟩:=zli hdq hj
  obtain ⟨x,hx,q⟩:=zxi r2 h
  rw [e1] at hx
  cases hx
  exact ⟨b[j],t',List.getElem?_eq_getElem hj,q,h1⟩
 have he:∀ j (h1:j<its.toArray.size) (h2:j<its2.toArray.size),SeqAt.EqAt A.in1 s its.toArray[j] its2.toArray[j] (decide (a[j]? = b[j]?)):=λ j h1 h2=>by
  obtain ⟨n,t1,e1,q1,w1⟩:=get1 j h1
  obtain ⟨m,t2,e2,q2,w2⟩:=get2 j h2
  rw [q1,q2,e1,e2]
  obtain ⟨as,ra⟩:=DV.reads I (stp n) (.ref t1) (.ref t1) (zdg w1) rfl
  obtain ⟨bs,rb⟩:=DV.reads I (stp m) (.ref t2) (.ref t2) (zdg w2) rfl
  have:=SeqAt.eqAt_reads (stp n) (stp m) A.in1 s _ _ as bs ra rb rfl rfl (by
   show A.units+1+min 1 1<cLine
   omega)
  rw [zfl] at this
  have e:decide (some n=some m)=decide (n=m):=decide_eq_decide.mpr (by simp)
  rw [e]
  exact this
 have hd:∀ (j:Nat) x y,a[j]? = some x→b[j]? = some y→decide (a[j]? = b[j]?)=decide (x=y):=λ j x y h1 h2=>by
  rw [h1,h2];exact decide_eq_decide.mpr (by simp)
 have hu1:A.in1.units<cLine:=by show A.units+1<cLine;omega
 refine ⟨λ prog w E Q hq=>?_,λ prog w E Q hq=>?_⟩
 ·refine zpl (e:=λ j=>decide (a[j]? = b[j]?)) (r:=λ j=>sLt ((a[j]?).getD (0,0,0)) ((b[j]?).getD (0,0,0))) p1 p2 he (λ j h1 h2 _ prog w E Q hq=>?_) (by omega) ?_
  ·obtain ⟨n,t1,e1,q1,w1⟩:=get1 j h1
   obtain ⟨m,t2,e2,q2,w2⟩:=get2 j h2
   rw [q1,q2]
   rw [e1,e2] at hq
   exact (zzq I w1 w2 hu1).1 prog w E Q hq
  ·rw [z1,z2,zkq (lt:=sLt) hd (λ j x y h1 h2 _=>by rw [h1,h2];rfl)]
   exact hq
 ·refine ztl (e:=λ j=>decide (a[j]? = b[j]?)) (r:=λ j => !sLt ((a[j]?).getD (0,0,0)) ((b[j]?).getD (0,0,0))) p1 p2 he (λ j h1 h2 _ prog w E Q hq=>?_) (by omega) ?_
  ·obtain ⟨n,t1,e1,q1,w1⟩:=get1 j h1
   obtain ⟨m,t2,e2,q2,w2⟩:=get2 j h2
   rw [q1,q2]
   rw [e1,e2] at hq
   exact (zzq I w1 w2 hu1).2 prog w E Q hq
  ·rw [z1,z2,zwq (lt:=sLt) hd (λ j x y h1 h2 _=>by rw [h1,h2];rfl)]
   exact hq
end
section
variable {X:Cx} {K:W.Frag}
noncomputable def rGeP (K:W.Frag):R2:=λ x y H Q=>∃ a b,DV K H (plc a) x∧DV K H (plc b) y∧Q (.bl (!pLt a b)) H
theorem zpy (hu:X.A.units+100<cLine):OpR X (compareOp .GtE) (rGeP X.K):=by
 intro pins s σ H x y v u Q I rx ry h
 obtain ⟨a,b,ha,hb,q⟩:=h
 exact (zbt I ha hb rx ry hu).2 _ _ _ _ ⟨.bl _,H,I,rfl,q⟩
end
theorem Room.u100 {k:Nat} {A:Around} (r:Room k A):A.units+100<cLine:=by have:=r.un;omega
end L2
namespace L2
open PySem PySem.Spec PyProof.Rows PySem.NumText
section
open PySem.SeqAt
open PySem.AutoSeq1 (wpAny_loadPart')
open PySem.MeetsSeq PySem.MeetsSeq2 PySem.MeetsSeq3
theorem zqj (l b:Addr) (items items2:Array Value) (n n2:Nat) (dd dd2:Option Addr) (sl sl2:Array (Option Value)) (e r:Nat→Bool) :
  Meets (Builtin.«tuple.__lt__» ⟨[.ref l,.ref b],[]⟩)
   (λ A R s=>s.heap.get? l=some { cls := .type "tuple",dict:=dd,data := .seq items n,slots:=sl }∧s.heap.get? b=some { cls := .type "tuple",dict:=dd2,data := .seq items2 n2,slots:=sl2 } ∧
    (∀ j (h1:j<items.size) (h2:j<items2.size),EqAt A.in1 s items[j] items2[j] (e j)) ∧
    (∀ j (h1:j<items.size) (h2:j<items2.size),(∀ i,i<j→e i=true)→e j=false→zzc .Lt A.in1 s items[j] items2[j] (r j)) ∧
    R (.ok (.ret (.bool (lexD e r (decide (items.size<items2.size)) (List.range (min items.size items2.size)))))) s) :=
 .of_wp λ prog w A R s h=>by
  obtain ⟨hp,g,d,tk,os⟩:=s;obtain ⟨hl,hb,he,hc,h⟩:=h
  have f2:=AutoSeq1.sub_tuple_tuple
  have hZ:(items.toList.zip items2.toList).length=min items.size items2.size:=by simp
  wp_walk using wpAny_loadPart' hl,wpAny_loadPart' hb,wpAny_forIn_list _ (λ rest b s'=>b.1=none∧s'=⟨hp,g,d,tk,os⟩∧∃ i,rest=(items.toList.zip items2.toList).drop i∧(∀ k,k<i→e k=true) ∧
   R (.ok (.ret (.bool (lexD e r (decide (items.size<items2.size)) ((List.range (min items.size items2.size)).drop i))))) ⟨hp,g,d,tk,os⟩) _
  case turn =>
   rintro ⟨y,x⟩ rest b s' ⟨hb',rfl,i,hz,hall,hR⟩
   have hlt:i<(items.toList.zip items2.toList).length:=by
    rcases Nat.lt_or_ge i (items.toList.zip items2.toList).length with h' | h'
    ·exact h'
    ·rw [List.drop_of_length_le h'] at hz;cases hz
   have hm:i<min items.size items2.size:=hZ ▸ hlt
   have h1:i<items.size:=Nat.lt_of_lt_of_le hm (Nat.min_le_left _ _)
   have h2:i<items2.size:=Nat.lt_of_lt_of_le hm (Nat.min_le_right _ _)
   rw [List.drop_eq_getElem_cons hlt] at hz
   injection hz with hyx hrest
   have hy:y=items[i]:=by have:=congrArg Prod.fst hyx;simpa using this
   have hx:x=items2[i]:=by have:=congrArg Prod.snd hyx;simpa using this
   subst hy hx
   have hd:(List.range (min items.size items2.size)).drop i=i::(List.range (min items.size items2.size)).drop (i+1):=by simp [List.drop_eq_getElem_cons,hm]
   rw [hd,lexD] at hR
   refine wpAny_bind (he i h1 h2 prog w _ _ ?_)
   cases hy:e i with
   | true =>
    rw [hy,if_pos rfl] at hR
    wp_walk
    exact ⟨rfl,rfl,i+1,hrest,λ k hk=>by
     rcases Nat.lt_or_ge k i with h' | h'
     ·exact hall k h'
     ·have:k=i:=by omega
      rw [this];exact hy,hR⟩
   | false =>
    rw [hy,if_neg Bool.false_ne_true] at hR
    have hri:=hc i h1 h2 hall hy prog w
    wp_walk using hri
    exact ⟨_,rfl,by simpa using hR⟩
  case fin =>
   rintro ⟨b1,b2⟩ s' ⟨hb',rfl,i,hz,hall,hR⟩
   simp only at hb'
   subst hb'
   have hge:min items.size items2.size≤i:=by
    rw [← hZ]
    rcases Nat.lt_or_ge i (items.toList.zip items2.toList).length with h' | h'
    ·rw [List.drop_eq_getElem_cons h'] at hz;cases hz
    ·exact h'
   rw [List.drop_of_length_le (by simpa using hge),lexD] at hR
   wp_walk
   exact ⟨_,rfl,by simpa [Builtin.Tuple.tupleCompareSizes] using hR⟩
  case h =>
   exact ⟨rfl,rfl,0,rfl,λ k hk=>absurd hk (Nat.not_lt_zero _),h⟩
theorem zlo {prog:Program} {w:World} {A:Around} {E:Value→Shared→Prop} {s:Shared} {l b:Addr} {items items2:Array Value} {e r:Nat→Bool} {Q:Value→Shared→Prop} (hl:IsTup s.heap l items) (hb:IsTup s.heap b items2)
  (he:∀ j (h1:j<items.size) (h2:j<items2.size),EqAt A.in1 s items[j] items2[j] (e j)) (hc:∀ j (h1:j<items.size) (h2:j<items2.size),(∀ i,i<j→e i=true)→e j=false→zzc .Lt A.in1 s items[j] items2[j] (r j))
  (hu:A.units<cLine) (h:Q (.bool (lexD e r (decide (items.size<items2.size)) (List.range (min items.size items2.size)))) s):wpAny (model prog w) A (compareOp .Lt (.ref l) (.ref b)) Q E s:=by
 obtain ⟨⟨cls,dd,data,sl⟩,ho,hc1,n,hd⟩:=id hl
 obtain ⟨⟨cls2,dd2,data2,sl2⟩,ho2,hc2,n2,hd2⟩:=id hb
 simp only at hc1 hd hc2 hd2
 subst hc1 hd hc2 hd2
 refine richCompare_meets_room (op := .Lt) ⟨_,ho,rfl⟩ ⟨_,ho2,rfl⟩ PySem.F.slot_tuple_lt PySem.F.entry_tuple_lt (PySem.F.args_tuple_lt_2 _ _) (zqj l b items items2 n n2 dd dd2 sl sl2 e r) ⟨ho,ho2,he,hc,?_⟩ hu
 exact (show Value.bool _≠Value.notImplemented∧Q (.bool _) s from ⟨(λ x=>nomatch x),h⟩)
theorem znj (l b:Addr) (items items2:Array Value) (n n2:Nat) (dd dd2:Option Addr) (sl sl2:Array (Option Value)) (e r:Nat→Bool) :
  Meets (Builtin.«tuple.__ge__» ⟨[.ref l,.ref b],[]⟩)
   (λ A R s=>s.heap.get? l=some { cls := .type "tuple",dict:=dd,data := .seq items n,slots:=sl }∧s.heap.get? b=some { cls := .type "tuple",dict:=dd2,data := .seq items2 n2,slots:=sl2 } ∧
    (∀ j (h1:j<items.size) (h2:j<items2.size),EqAt A.in1 s items[j] items2[j] (e j)) ∧
    (∀ j (h1:j<items.size) (h2:j<items2.size),(∀ i,i<j→e i=true)→e j=false→zzc .GtE A.in1 s items[j] items2[j] (r j)) ∧
    R (.ok (.ret (.bool (lexD e r (decide (items2.size≤items.size)) (List.range (min items.size items2.size)))))) s) :=
 .of_wp λ prog w A R s h=>by
  obtain ⟨hp,g,d,tk,os⟩:=s;obtain ⟨hl,hb,he,hc,h⟩:=h
  have f2:=AutoSeq1.sub_tuple_tuple
  have hZ:(items.toList.zip items2.toList).length=min items.size items2.size:=by simp
  wp_walk using wpAny_loadPart' hl,wpAny_loadPart' hb,wpAny_forIn_list _ (λ rest b s'=>b.1=none∧s'=⟨hp,g,d,tk,os⟩∧∃ i,rest=(items.toList.zip items2.toList).drop i∧(∀ k,k<i→e k=true) ∧
   R (.ok (.ret (.bool (lexD e r (decide (items2.size≤items.size)) ((List.range (min items.size items2.size)).drop i))))) ⟨hp,g,d,tk,os⟩) _
  case turn =>
   rintro ⟨y,x⟩ rest b s' ⟨hb',rfl,i,hz,hall,hR⟩
   have hlt:i<(items.toList.zip items2.toList).length:=by
    rcases Nat.lt_or_ge i (items.toList.zip items2.toList).length with h' | h'
    ·exact h'
    ·rw [List.drop_of_length_le h'] at hz;cases hz
   have hm:i<min items.size items2.size:=hZ ▸ hlt
   have h1:i<items.size:=Nat.lt_of_lt_of_le hm (Nat.min_le_left _ _)
   have h2:i<items2.size:=Nat.lt_of_lt_of_le hm (Nat.min_le_right _ _)
   rw [List.drop_eq_getElem_cons hlt] at hz
   injection hz with hyx hrest
   have hy:y=items[i]:=by have:=congrArg Prod.fst hyx;simpa using this
   have hx:x=items2[i]:=by have:=congrArg Prod.snd hyx;simpa using this
   subst hy hx
   have hd:(List.range (min items.size items2.size)).drop i=i::(List.range (min items.size items2.size)).drop (i+1):=by simp [List.drop_eq_getElem_cons,hm]
   rw [hd,lexD] at hR
   refine wpAny_bind (he i h1 h2 prog w _ _ ?_)
   cases hy:e i with
   | true =>
    rw [hy,if_pos rfl] at hR
    wp_walk
    exact ⟨rfl,rfl,i+1,hrest,λ k hk=>by
     rcases Nat.lt_or_ge k i with h' | h'
     ·exact hall k h'
     ·have:k=i:=by omega
      rw [this];exact hy,hR⟩
   | false =>
    rw [hy,if_neg Bool.false_ne_true] at hR
    have hri:=hc i h1 h2 hall hy prog w
    wp_walk using hri
    exact ⟨_,rfl,by simpa using hR⟩
  case fin =>
   rintro ⟨b1,b2⟩ s' ⟨hb',rfl,i,hz,hall,hR⟩
   simp only at hb'
   subst hb'
   have hge:min items.size items2.size≤i:=by
    rw [← hZ]
    rcases Nat.lt_or_ge i (items.toList.zip items2.toList).length with h' | h'
    ·rw [List.drop_eq_getElem_cons h'] at hz;cases hz
    ·exact h'
   rw [List.drop_of_length_le (by simpa using hge),lexD] at hR
   wp_walk
   exact ⟨_,rfl,by simpa [Builtin.Tuple.tupleCompareSizes] using hR⟩
  case h =>
   exact ⟨rfl,rfl,0,rfl,λ k hk=>absurd hk (Nat.not_lt_zero _),h⟩
theorem zln {prog:Program} {w:World} {A:Around} {E:Value→Shared→Prop} {s:Shared} {l b:Addr} {items items2:Array Value} {e r:Nat→Bool} {Q:Value→Shared→Prop} (hl:IsTup s.heap l items) (hb:IsTup s.heap b items2)
  (he:∀ j (h1:j<items.size) (h2:j<items2.size),EqAt A.in1 s items[j] items2[j] (e j)) (hc:∀ j (h1:j<items.size) (h2:j<items2.size),(∀ i,i<j→e i=true)→e j=false→zzc .GtE A.in1 s items[j] items2[j] (r j))
  (hu:A.units<cLine) (h:Q (.bool (lexD e r (decide (items2.size≤items.size)) (List.range (min items.size items2.size)))) s):wpAny (model prog w) A (compareOp .GtE (.ref l) (.ref b)) Q E s:=by
 obtain ⟨⟨cls,dd,data,sl⟩,ho,hc1,n,hd⟩:=id hl
 obtain ⟨⟨cls2,dd2,data2,sl2⟩,ho2,hc2,n2,hd2⟩:=id hb
 simp only at hc1 hd hc2 hd2
 subst hc1 hd hc2 hd2
 refine richCompare_meets_room (op := .GtE) ⟨_,ho,rfl⟩ ⟨_,ho2,rfl⟩ PySem.F.slot_tuple_ge PySem.F.entry_tuple_ge (PySem.F.args_tuple_ge_2 _ _) (znj l b items items2 n n2 dd dd2 sl sl2 e r) ⟨ho,ho2,he,hc,?_⟩ hu
 exact (show Value.bool _≠Value.notImplemented∧Q (.bool _) s from ⟨(λ x=>nomatch x),h⟩)
theorem zmj (l b:Addr) (items items2:Array Value) (n n2:Nat) (dd dd2:Option Addr) (sl sl2:Array (Option Value)) (e r:Nat→Bool) :
  Meets (Builtin.«tuple.__gt__» ⟨[.ref l,.ref b],[]⟩)
   (λ A R s=>s.heap.get? l=some { cls := .type "tuple",dict:=dd,data := .seq items n,slots:=sl }∧s.heap.get? b=some { cls := .type "tuple",dict:=dd2,data := .seq items2 n2,slots:=sl2 } ∧
    (∀ j (h1:j<items.size) (h2:j<items2.size),EqAt A.in1 s items[j] items2[j] (e j)) ∧
    (∀ j (h1:j<items.size) (h2:j<items2.size),(∀ i,i<j→e i=true)→e j=false→zzc .Gt A.in1 s items[j] items2[j] (r j)) ∧
    R (.ok (.ret (.bool (lexD e r (decide (items2.size<items.size)) (List.range (min items.size items2.size)))))) s) :=
 .of_wp λ prog w A R s h=>by
  obtain ⟨hp,g,d,tk,os⟩:=s;obtain ⟨hl,hb,he,hc,h⟩:=h
  have f2:=AutoSeq1.sub_tuple_tuple
  have hZ:(items.toList.zip items2.toList).length=min items.size items2.size:=by simp
  wp_walk using wpAny_loadPart' hl,wpAny_loadPart' hb,wpAny_forIn_list _ (λ rest b s'=>b.1=none∧s'=⟨hp,g,d,tk,os⟩∧∃ i,rest=(items.toList.zip items2.toList).drop i∧(∀ k,k<i→e k=true) ∧
   R (.ok (.ret (.bool (lexD e r (decide (items2.size<items.size)) ((List.range (min items.size items2.size)).drop i))))) ⟨hp,g,d,tk,os⟩) _
  case turn =>
   rintro ⟨y,x⟩ rest b s' ⟨hb',rfl,i,hz,hall,hR⟩
   have hlt:i<(items.toList.zip items2.toList).length:=by
    rcases Nat.lt_or_ge i (items.toList.zip items2.toList).length with h' | h'
    ·exact h'
    ·rw [List.drop_of_length_le h'] at hz;cases hz
   have hm:i<min items.size items2.size:=hZ ▸ hlt
   have h1:i<items.size:=Nat.lt_of_lt_of_le hm (Nat.min_le_left _ _)
   have h2:i<items2.size:=Nat.lt_of_lt_of_le hm (Nat.min_le_right _ _)
   rw [List.drop_eq_getElem_cons hlt] at hz
   injection hz with hyx hrest
   have hy:y=items[i]:=by have:=congrArg Prod.fst hyx;simpa using this
   have hx:x=items2[i]:=by have:=congrArg Prod.snd hyx;simpa using this
   subst hy hx
   have hd:(List.range (min items.size items2.size)).drop i=i::(List.range (min items.size items2.size)).drop (i+1):=by simp [List.drop_eq_getElem_cons,hm]
   rw [hd,lexD] at hR
   refine wpAny_bind (he i h1 h2 prog w _ _ ?_)
   cases hy:e i with
   | true =>
    rw [hy,if_pos rfl] at hR
    wp_walk
    exact ⟨rfl,rfl,i+1,hrest,λ k hk=>by
     rcases Nat.lt_or_ge k i with h' | h'
     ·exact hall k h'
     ·have:k=i:=by omega
      rw [this];exact hy,hR⟩
   | false =>
    rw [hy,if_neg Bool.false_ne_true] at hR
    have hri:=hc i h1 h2 hall hy prog w
    wp_walk using hri
    exact ⟨_,rfl,by simpa using hR⟩
  case fin =>
   rintro ⟨b1,b2⟩ s' ⟨hb',rfl,i,hz,hall,hR⟩
   simp only at hb'
   subst hb'
   have hge:min items.size items2.size≤i:=by
    rw [← hZ]
    rcases Nat.lt_or_ge i (items.toList.zip items2.toList).length with h' | h'
    ·rw [List.drop_eq_getElem_cons h'] at hz;cases hz
    ·exact h'
   rw [List.drop_of_length_le (by simpa using hge),lexD] at hR
   wp_walk
   exact ⟨_,rfl,by simpa [Builtin.Tuple.tupleCompareSizes] using hR⟩
  case h =>
   exact ⟨rfl,rfl,0,rfl,λ k hk=>absurd hk (Nat.not_lt_zero _),h⟩
theorem zyn {prog:Program} {w:World} {A:Around} {E:Value→Shared→Prop} {s:Shared} {l b:Addr} {items items2:Array Value} {e r:Nat→Bool} {Q:Value→Shared→Prop} (hl:IsTup s.heap l items) (hb:IsTup s.heap b items2)
  (he:∀ j (h1:j<items.size) (h2:j<items2.size),EqAt A.in1 s items[j] items2[j] (e j)) (hc:∀ j (h1:j<items.size) (h2:j<items2.size),(∀ i,i<j→e i=true)→e j=false→zzc .Gt A.in1 s items[j] items2[j] (r j))
  (hu:A.units<cLine) (h:Q (.bool (lexD e r (decide (items2.size<items.size)) (List.range (min items.size items2.size)))) s):wpAny (model prog w) A (compareOp .Gt (.ref l) (.ref b)) Q E s:=by
 obtain ⟨⟨cls,dd,data,sl⟩,ho,hc1,n,hd⟩:=id hl
 obtain ⟨⟨cls2,dd2,data2,sl2⟩,ho2,hc2,n2,hd2⟩:=id hb
 simp only at hc1 hd hc2 hd2
 subst hc1 hd hc2 hd2
 refine richCompare_meets_room (op := .Gt) ⟨_,ho,rfl⟩ ⟨_,ho2,rfl⟩ PySem.F.slot_tuple_gt PySem.F.entry_tuple_gt (PySem.F.args_tuple_gt_2 _ _) (zmj l b items items2 n n2 dd dd2 sl sl2 e r) ⟨ho,ho2,he,hc,?_⟩ hu
 exact (show Value.bool _≠Value.notImplemented∧Q (.bool _) s from ⟨(λ x=>nomatch x),h⟩)
theorem zxj (l b:Addr) (items items2:Array Value) (n n2:Nat) (dd dd2:Option Addr) (sl sl2:Array (Option Value)) (e r:Nat→Bool) :
  Meets (Builtin.«tuple.__le__» ⟨[.ref l,.ref b],[]⟩)
   (λ A R s=>s.heap.get? l=some { cls := .type "tuple",dict:=dd,data := .seq items n,slots:=sl }∧s.heap.get? b=some { cls := .type "tuple",dict:=dd2,data := .seq items2 n2,slots:=sl2 } ∧
    (∀ j (h1:j<items.size) (h2:j<items2.size),EqAt A.in1 s items[j] items2[j] (e j)) ∧
    (∀ j (h1:j<items.size) (h2:j<items2.size),(∀ i,i<j→e i=true)→e j=false→zzc .LtE A.in1 s items[j] items2[j] (r j)) ∧
    R (.ok (.ret (.bool (lexD e r (decide (items.size≤items2.size)) (List.range (min items.size items2.size)))))) s) :=
 .of_wp λ prog w A R s h=>by
  obtain ⟨hp,g,d,tk,os⟩:=s;obtain ⟨hl,hb,he,hc,h⟩:=h
  have f2:=AutoSeq1.sub_tuple_tuple
  have hZ:(items.toList.zip items2.toList).length=min items.size items2.size:=by simp
  wp_walk using wpAny_loadPart' hl,wpAny_loadPart' hb,wpAny_forIn_list _ (λ rest b s'=>b.1=none∧s'=⟨hp,g,d,tk,os⟩∧∃ i,rest=(items.toList.zip items2.toList).drop i∧(∀ k,k<i→e k=true) ∧
   R (.ok (.ret (.bool (lexD e r (decide (items.size≤items2.size)) ((List.range (min items.size items2.size)).drop i))))) ⟨hp,g,d,tk,os⟩) _
  case turn =>
   rintro ⟨y,x⟩ rest b s' ⟨hb',rfl,i,hz,hall,hR⟩
   have hlt:i<(items.toList.zip items2.toList).length:=by
    rcases Nat.lt_or_ge i (items.toList.zip items2.toList).length with h' | h'
    ·exact h'
    ·rw [List.drop_of_length_le h'] at hz;cases hz
   have hm:i<min items.size items2.size:=hZ ▸ hlt
   have h1:i<items.size:=Nat.lt_of_lt_of_le hm (Nat.min_le_left _ _)
   have h2:i<items2.size:=Nat.lt_of_lt_of_le hm (Nat.min_le_right _ _)
   rw [List.drop_eq_getElem_cons hlt] at hz
   injection hz with hyx hrest
   have hy:y=items[i]:=by have:=congrArg Prod.fst hyx;simpa using this
   have hx:x=items2[i]:=by have:=congrArg Prod.snd hyx;simpa using this
   subst hy hx
   have hd:(List.range (min items.size items2.size)).drop i=i::(List.range (min items.size items2.size)).drop (i+1):=by simp [List.drop_eq_getElem_cons,hm]
   rw [hd,lexD] at hR
   refine wpAny_bind (he i h1 h2 prog w _ _ ?_)
   cases hy:e i with
   | true =>
    rw [hy,if_pos rfl] at hR
    wp_walk
    exact ⟨rfl,rfl,i+1,hrest,λ k hk=>by
     rcases Nat.lt_or_ge k i with h' | h'
     ·exact hall k h'
     ·have:k=i:=by omega
      rw [this];exact hy,hR⟩
   | false =>
    rw [hy,if_neg Bool.false_ne_true] at hR
    have hri:=hc i h1 h2 hall hy prog w
    wp_walk using hri
    exact ⟨_,rfl,by simpa using hR⟩
  case fin =>
   rintro ⟨b1,b2⟩ s' ⟨hb',rfl,i,hz,hall,hR⟩
   simp only at hb'
   subst hb'
   have hge:min items.size items2.size≤i:=by
    rw [← hZ]
    rcases Nat.lt_or_ge i (items.toList.zip items2.toList).length with h' | h'
    ·rw [List.drop_eq_getElem_cons h'] at hz;cases hz
    ·exact h'
   rw [List.drop_of_length_le (by simpa using hge),lexD] at hR
   wp_walk
   exact ⟨_,rfl,by simpa [Builtin.Tuple.tupleCompareSizes] using hR⟩
  case h =>
   exact ⟨rfl,rfl,0,rfl,λ k hk=>absurd hk (Nat.not_lt_zero _),h⟩
theorem zep {prog:Program} {w:World} {A:Around} {E:Value→Shared→Prop} {s:Shared} {l b:Addr} {items items2:Array Value} {e r:Nat→Bool} {Q:Value→Shared→Prop} (hl:IsTup s.heap l items) (hb:IsTup s.heap b items2)
  (he:∀ j (h1:j<items.size) (h2:j<items2.size),EqAt A.in1 s items[j] items2[j] (e j)) (hc:∀ j (h1:j<items.size) (h2:j<items2.size),(∀ i,i<j→e i=true)→e j=false→zzc .LtE A.in1 s items[j] items2[j] (r j))
  (hu:A.units<cLine) (h:Q (.bool (lexD e r (decide (items.size≤items2.size)) (List.range (min items.size items2.size)))) s):wpAny (model prog w) A (compareOp .LtE (.ref l) (.ref b)) Q E s:=by
 obtain ⟨⟨cls,dd,data,sl⟩,ho,hc1,n,hd⟩:=id hl
 obtain ⟨⟨cls2,dd2,data2,sl2⟩,ho2,hc2,n2,hd2⟩:=id hb
 simp only at hc1 hd hc2 hd2
 subst hc1 hd hc2 hd2
 refine richCompare_meets_room (op := .LtE) ⟨_,ho,rfl⟩ ⟨_,ho2,rfl⟩ PySem.F.slot_tuple_le PySem.F.entry_tuple_le (PySem.F.args_tuple_le_2 _ _) (zxj l b items items2 n n2 dd dd2 sl sl2 e r) ⟨ho,ho2,he,hc,?_⟩ hu
 exact (show Value.bool _≠Value.notImplemented∧Q (.bool _) s from ⟨(λ x=>nomatch x),h⟩)
end
mutual
noncomputable def ltD:PyData→PyData→Option Bool
 | .int a,.int b=>some (decide (a<b))
 | .str a,.str b=>some (decide (a.cps.toList<b.cps.toList))
 | .tuple xs,.tuple ys=>ltDs xs ys
 | _,_=>none
noncomputable def ltDs:List PyData→List PyData→Option Bool
 | [],[]=>some false
 | [],_::_=>some true
 | _::_,[]=>some false
 | x::xs,y::ys=>if PyData.eqv x y=true then ltDs xs ys else ltD x y
end
theorem zmf {e r:Nat→Bool}:∀ {xs ys:List PyData} {b:Bool},ltDs xs ys=some b→(∀ (j:Nat) x y,xs[j]? = some x→ys[j]? = some y→e j=PyData.eqv x y) →
  (∀ (j:Nat) x y c,xs[j]? = some x→ys[j]? = some y→(∀ i,i<j→e i=true)→e j=false→ltD x y=some c→r j=c) →
  lexD e r (decide (xs.length<ys.length)) (List.range (min xs.length ys.length))=b:=by
 intro xs
 induction xs generalizing e r with
 | nil =>
  intro ys b h _ _
  cases ys with
  | nil=>cases h;rfl
  | cons y ys=>cases h;rw [List.length_nil,Nat.zero_min];exact decide_eq_true (Nat.succ_pos _)
 | cons x xs ih =>
  intro ys b h he hr
  cases ys with
  | nil=>cases h;rw [List.length_nil,Nat.min_zero];exact decide_eq_false (Nat.not_lt_zero _)
  | cons y ys =>
   have h0:=he 0 x y rfl rfl
   rw [List.length_cons,List.length_cons,Nat.succ_min_succ,List.range_succ_eq_map,lexD]
   rw [ltDs] at h
   by_cases hxy:PyData.eqv x y=true
   ·rw [if_pos hxy] at h
    rw [if_pos (h0.trans hxy),zif]
    have:=ih (ys:=ys) (e:=λ j=>e (j+1)) (r:=λ j=>r (j+1)) h (λ j a b h1 h2=>he (j+1) a b (by simpa using h1) (by simpa using h2))
     (λ j a b c h1 h2 h3 h4 h5=>hr (j+1) a b c (by simpa using h1) (by simpa using h2) (λ i hi=>by
      cases i with
      | zero=>exact h0.trans hxy
      | succ i=>exact h3 i (by omega)) h4 h5)
    rw [← this]
    congr 1
    exact decide_eq_decide.mpr (by omega)
   ·rw [if_neg hxy] at h
    have hf:e 0=false:=by rw [h0];simpa using hxy
    rw [if_neg (by rw [hf];exact Bool.false_ne_true)]
    exact hr 0 x y b rfl rfl (λ i hi=>absurd hi (Nat.not_lt_zero _)) hf h
theorem zhh {e r:Nat→Bool} {d:Bool}:∀ js:List Nat,lexD e (λ j => !r j) (!d) js = !lexD e r d js
 | []=>rfl
 | j::js=>by
  rw [lexD,lexD,zhh js]
  split <;> rfl
theorem zdb {h:Heap}:∀ {xs:List PyData} {vs:List Value} {as:List Addr} {j:Nat} {v:Value},ReadsAll h vs xs as→vs[j]? = some v→∃ d bs,xs[j]? = some d∧Reads h v d bs∧d∈xs
 | _,_,_,0,v,.cons (v:=u) (d:=d) r rr,e=>by
  have:u=v:=by simpa using e
  subst this
  exact ⟨_,_,rfl,r,List.mem_cons_self⟩
 | _,_,_,j+1,v,.cons r rr,e=>by
  obtain ⟨d,bs,h1,h2,h3⟩:=zdb rr (j:=j) (by simpa using e)
  exact ⟨d,bs,by simpa using h1,h2,List.mem_cons_of_mem _ h3⟩
theorem zna:∀ {xs:List PyData} {d:PyData},d∈xs→PyData.canLayAll0 xs=true→PyData.canLay0 d=true
 | x::xs,d,h,c=>by
  rw [PyData.canLayAll0,Bool.and_eq_true] at c
  rcases List.mem_cons.mp h with rfl | h
  ·exact c.1
  ·exact zna h c.2
theorem zob:∀ {xs:List PyData} {d:PyData},d∈xs→PyData.depth d≤PyData.depthAll xs
 | x::xs,d,h=>by
  rw [PyData.depthAll]
  rcases List.mem_cons.mp h with rfl | h
  ·omega
  ·have:=zob h
   omega
theorem zid:∀ (n:Nat) (da db:PyData) (c:Bool) (A:Around) (s:Shared) (a b:Value) (as bs:List Addr),PyData.depth da≤n→Reads s.heap a da as→Reads s.heap b db bs→da.canLay0=true→db.canLay0=true→ltD da db=some c →
  A.units+n+2<cLine→zzc .Lt A s a b c∧zzc .GtE A s a b (!c):=by
 intro n
 induction n with
 | zero =>
  intro da db c A s a b as bs hd ra rb _ _ hc hu
  cases ra with
  | int i t =>
   cases rb with
   | int j u =>
    have hc:decide (i<j)=c:=by simpa [ltD] using hc
    subst hc
    refine ⟨λ prog w E Q hq=>(PyProof.Rows.lt_int hq:wpAny (model prog w) A (compareOp .Lt (.int i t) (.int j u)) Q E s),λ prog w E Q hq=>?_⟩
    have e:(!decide (i<j))=decide (j≤i):=by rw [← decide_not];exact decide_eq_decide.mpr (by omega)
    rw [e] at hq
    exact (PyProof.Rows.ge_int hq:wpAny (model prog w) A (compareOp .GtE (.int i t) (.int j u)) Q E s)
   | _=>simp [ltD] at hc
  | str x t =>
   cases rb with
   | str y u =>
    have hc:decide (x.cps.toList<y.cps.toList)=c:=by simpa [ltD] using hc
    subst hc
    exact ⟨λ prog w E Q hq=>(PyProof.Rows.lt_str hq:wpAny (model prog w) A (compareOp .Lt (.str x t) (.str y u)) Q E s),λ prog w E Q hq=>(PySem.P.ge_str hq:wpAny (model prog w) A (compareOp .GtE (.str x t) (.str y u)) Q E s)⟩
   | _=>simp [ltD] at hc
  | tuple h1 h2 h3 h4=>simp [PyData.depth] at hd
  | _=>simp [ltD] at hc
 | succ n ih =>
  intro da db c A s a b as bs hd ra rb la lb hc hu
  cases ra with
  | int i t =>
   cases rb with
   | int j u =>
    have hc:decide (i<j)=c:=by simpa [ltD] using hc
    subst hc
    refine ⟨λ prog w E Q hq=>(PyProof.Rows.lt_int hq:wpAny (model prog w) A (compareOp .Lt (.int i t) (.int j u)) Q E s),λ prog w E Q hq=>?_⟩
    have e:(!decide (i<j))=decide (j≤i):=by rw [← decide_not];exact decide_eq_decide.mpr (by omega)
    rw [e] at hq
    exact (PyProof.Rows.ge_int hq:wpAny (model prog w) A (compareOp .GtE (.int i t) (.int j u)) Q E s)
   | _=>simp [ltD] at hc
  | str x t =>
   cases rb with
   | str y u =>
    have hc:decide (x.cps.toList<y.cps.toList)=c:=by simpa [ltD] using hc
    subst hc
    exact ⟨λ prog w E Q hq=>(PyProof.Rows.lt_str hq:wpAny (model prog w) A (compareOp .Lt (.str x t) (.str y u)) Q E s),λ prog w E Q hq=>(PySem.P.ge_str hq:wpAny (model prog w) A (compareOp .GtE (.str x t) (.str y u)) Q E s)⟩
   | _=>simp [ltD] at hc
  | @tuple l o vs m xs as h1 h2 h3 h4 =>
   cases rb with
   | @tuple l2 o2 vs2 m2 ys bs g1 g2 g3 g4 =>
    have hc:ltDs xs ys=some c:=by simpa [ltD] using hc
    have z1:vs.size=xs.length:=by have:=SeqAt.ReadsAll.length _ _ _ h4;simpa using this
    have z2:vs2.size=ys.length:=by have:=SeqAt.ReadsAll.length _ _ _ g4;simpa using this
    have la':PyData.canLayAll0 xs=true:=la
    have lb':PyData.canLayAll0 ys=true:=lb
    have hd':PyData.depthAll xs≤n:=by have:PyData.depth (.tuple xs)=PyData.depthAll xs+1:=rfl;omega
    have at1:∀ j (h:j<vs.size),∃ d bs,xs[j]? = some d∧Reads s.heap vs[j] d bs∧d∈xs:=λ j h=>zdb h4 (by simp [h])
    have at2:∀ j (h:j<vs2.size),∃ d bs,ys[j]? = some d∧Reads s.heap vs2[j] d bs∧d∈ys:=λ j h=>zdb g4 (by simp [h])
    have he:∀ j (k1:j<vs.size) (k2:j<vs2.size),SeqAt.EqAt A.in1 s vs[j] vs2[j] (PyData.eqv ((xs[j]?).getD .none) ((ys[j]?).getD .none)):=λ j k1 k2=>by
     obtain ⟨d,b1,e1,r1,m1⟩:=at1 j k1
     obtain ⟨d2,b2,e2,r2,m2⟩:=at2 j k2
     rw [e1,e2]
     refine SeqAt.eqAt_reads d d2 A.in1 s _ _ b1 b2 r1 r2 (zna m1 la') (zna m2 lb') ?_
     have:=zob m1
     have:min d.depth d2.depth≤d.depth:=Nat.min_le_left _ _
     show A.units+1+min d.depth d2.depth<cLine
     omega
    have hl:IsTup s.heap l vs:=⟨o,h1,h2,m,h3⟩
    have hr:IsTup s.heap l2 vs2:=⟨o2,g1,g2,m2,g3⟩
    have e0:∀ (j:Nat) x y,xs[j]? = some x→ys[j]? = some y→PyData.eqv ((xs[j]?).getD .none) ((ys[j]?).getD .none)=PyData.eqv x y:=λ j x y e1 e2=>by rw [e1,e2];rfl
    have lexlt:=zmf (e:=λ j=>PyData.eqv ((xs[j]?).getD .none) ((ys[j]?).getD .none)) (r:=λ j=>(ltD ((xs[j]?).getD .none) ((ys[j]?).getD .none)).getD false) hc e0 (λ j x y c' e1 e2 _ _ e3=>by rw [e1,e2];simp only [Option.getD_some];rw [e3];rfl)
    have ans:∀ (xs ys:List PyData) (c:Bool),ltDs xs ys=some c→∀ (j:Nat) x y,xs[j]? = some x→ys[j]? = some y→(∀ i x y,i<j→xs[i]? = some x→ys[i]? = some y→PyData.eqv x y=true)→PyData.eqv x y=false→∃ c',ltD x y=some c':=by
     intro xs
     induction xs with
     | nil=>intro ys c _ j x y e1;simp at e1
     | cons x0 xs ih2 =>
      intro ys c h j x y e1 e2 hall hne
      cases ys with
      | nil=>simp at e2
      | cons y0 ys =>
       rw [ltDs] at h
       cases j with
       | zero =>
        simp at e1 e2
        subst e1 e2
        rw [if_neg (by rw [hne];exact Bool.false_ne_true)] at h
        exact ⟨c,h⟩
       | succ j =>
        rw [if_pos (hall 0 x0 y0 (Nat.succ_pos _) rfl rfl)] at h
        exact ih2 ys c h j x y (by simpa using e1) (by simpa using e2) (λ i a b hi h1 h2=>hall (i+1) a b (by omega) (by simpa using h1) (by simpa using h2)) hne
    have hu1:A.in1.units+n+2<cLine:=by show A.units+1+n+2<cLine;omega
    have cmp:∀ j (k1:j<vs.size) (k2:j<vs2.size),(∀ i,i<j→PyData.eqv ((xs[i]?).getD .none) ((ys[i]?).getD .none)=true)→PyData.eqv ((xs[j]?).getD .none) ((ys[j]?).getD .none)=false →
      zzc .Lt A.in1 s vs[j] vs2[j] ((ltD ((xs[j]?).getD .none) ((ys[j]?).getD .none)).getD false)∧zzc .GtE A.in1 s vs[j] vs2[j] (!(ltD ((xs[j]?).getD .none) ((ys[j]?).getD .none)).getD false):=λ j k1 k2 hall hne=>by
     obtain ⟨d,b1,e1,r1,m1⟩:=at1 j k1
     obtain ⟨d2,b2,e2,r2,m2⟩:=at2 j k2
     rw [e1,e2] at hne ⊢
     obtain ⟨c',hc'⟩:=ans xs ys c hc j d d2 e1 e2 (λ i x y hi h1 h2=>by have:=hall i hi;rw [h1,h2] at this;exact this) hne
     simp only [Option.getD_some]
     rw [hc']
     exact ih d d2 c' A.in1 s _ _ b1 b2 (Nat.le_trans (zob m1) hd') r1 r2 (zna m1 la') (zna m2 lb') hc' hu1
    refine ⟨λ prog w E Q hq=>?_,λ prog w E Q hq=>?_⟩
    ·refine (zlo hl hr he (λ j k1 k2 h3 h4=>(cmp j k1 k2 h3 h4).1) (by omega) ?_:wpAny (model prog w) A (compareOp .Lt (.ref l) (.ref l2)) Q E s)
     rw [z1,z2,lexlt]
     exact hq
    ·refine (zln hl hr he (λ j k1 k2 h3 h4=>(cmp j k1 k2 h3 h4).2) (by omega) ?_:wpAny (model prog w) A (compareOp .GtE (.ref l) (.ref l2)) Q E s)
     have e:decide (vs2.size≤vs.size) = !decide (vs.size<vs2.size):=by rw [← decide_not];exact decide_eq_decide.mpr (by omega)
     rw [e,zhh,z1,z2,lexlt]
     exact hq
   | _=>simp [ltD] at hc
  | _=>simp [ltD] at hc
section
variable {X:Cx}
noncomputable def rLtG (K:W.Frag):R2:=λ x y H Q=>∃ d e c,DV K H d x∧DV K H e y∧SeqAt.shaped d=true∧SeqAt.shaped e=true∧ltD d e=some c∧Q (.bl c) H
theorem zgv (hu:X.A.units+100<cLine):OpR X (compareOp .Lt) (rLtG X.K):=by
 intro pins s σ H x y v u Q I rx ry h
 obtain ⟨d,e,c,hd,he,sd,se,hc,q⟩:=h
 obtain ⟨as,ra⟩:=DV.reads I d x v hd rx
 obtain ⟨bs,rb⟩:=DV.reads I e y u he ry
 exact (zid 64 d e c X.A s v u as bs (SeqAt.depth_of_shaped sd) ra rb (SeqAt.canLay_of_shaped sd) (SeqAt.canLay_of_shaped se) hc (by omega)).1 _ _ _ _ ⟨.bl _,H,I,rfl,q⟩
end
end L2
namespace L2
open PySem
noncomputable abbrev ST:=SetTable
structure Fit (t:ST):Prop where
 dum:t.dummies = #[]
 sz:t.place.size≤t.mask
 msk:t.mask=7 ∨ t.mask=31 ∨ t.mask=127 ∨ t.mask=511
noncomputable def lcg (m i:Nat):Nat:=(i * 5+1) % m
noncomputable def orb (m:Nat):Nat→Nat→Nat
 | 0,i=>i
 | n+1,i=>orb m n (lcg m i)
theorem zfi (m:Nat):∀ (a b i:Nat),orb m (a+b) i=orb m b (orb m a i)
 | 0,b,i=>by rw [Nat.zero_add];rfl
 | a+1,b,i=>by rw [Nat.succ_add];exact zfi m a b (lcg m i)
noncomputable def zom (m:Nat):Nat→Nat→List Nat
 | 0,_=>[]
 | n+1,i=>i::zom m n (lcg m i)
theorem zte {m:Nat}:∀ {n i j:Nat},j∈zom m n i→∃ k,k<n∧orb m k i=j
 | n+1,i,j,h=>by
  rcases List.mem_cons.mp h with rfl | h
  ·exact ⟨0,Nat.succ_pos _,rfl⟩
  ·obtain ⟨k,hk,e⟩:=zte h
   exact ⟨k+1,by omega,e⟩
noncomputable def zzb (m:Nat):Bool:=(List.range m).all (λ j=>(zom m m 0).contains j) && (orb m m 0 == 0)
theorem cov8:zzb 8=true:=by decide +kernel
theorem zxy:zzb 32=true:=by decide +kernel
theorem zfv:zzb 128=true:=by decide +kernel
theorem zcv:zzb 512=true:=by decide +kernel
theorem zno {t:ST} (f:Fit t):zzb (t.mask+1)=true:=by
 rcases f.msk with e | e | e | e <;> rw [e]
 ·exact cov8
 ·exact zxy
 ·exact zfv
 ·exact zcv
theorem zeu {m j:Nat} (c:zzb m=true) (hj:j<m):∃ k,k<m∧orb m k 0=j:=by
 unfold zzb at c
 rw [Bool.and_eq_true] at c
 have:=List.all_eq_true.mp c.1 j (List.mem_range.mpr hj)
 exact zte (by simpa using this)
theorem zow {m:Nat} (c:zzb m=true):orb m m 0=0:=by
 unfold zzb at c
 rw [Bool.and_eq_true] at c
 exact eq_of_beq c.2
theorem zc1 {m i j:Nat} (c:zzb m=true) (hi:i<m) (hj:j<m):∃ k,k<m∧orb m k i=j:=by
 obtain ⟨a,ha,ea⟩:=zeu c hi
 obtain ⟨b,hb,eb⟩:=zeu c hj
 rcases Nat.lt_or_ge b a with h | h
 ·refine ⟨m - a+b,by omega,?_⟩
  rw [← ea,← zfi,show a+(m - a+b)=m+b by omega,zfi,zow c,eb]
 ·refine ⟨b - a,by omega,?_⟩
  rw [← ea,← zfi,show a+(b - a)=b by omega,eb]
noncomputable abbrev zix (mask:Nat) (p:Nat×Nat):Nat×Nat:=SetTable.leap mask p.1 p.2
noncomputable def zvh (mask:Nat):Nat→Nat×Nat→Nat×Nat
 | 0,p=>p
 | n+1,p=>zvh mask n (zix mask p)
theorem zpi (mask:Nat):∀ (a b:Nat) (p:Nat×Nat),zvh mask (a+b) p=zvh mask b (zvh mask a p)
 | 0,b,p=>by rw [Nat.zero_add];rfl
 | a+1,b,p=>by rw [Nat.succ_add];exact zpi mask a b (zix mask p)
theorem zqc (mask:Nat):∀ (n:Nat) (p:Nat×Nat),(zvh mask n p).2=p.2 / 32 ^ n
 | 0,p=>by simp [zvh]
 | n+1,p=>by
  show (zvh mask n (zix mask p)).2=_
  rw [zqc mask n]
  show p.2 / 32 / 32 ^ n=_
  rw [Nat.div_div_eq_div_mul,Nat.pow_succ,Nat.mul_comm]
theorem zyf (mask:Nat):∀ (n i:Nat),zvh mask n (i,0)=(orb (mask+1) n i,0)
 | 0,i=>rfl
 | n+1,i=>by
  show zvh mask n ((i * 5+1+0 / 32) % (mask+1),0 / 32)=_
  rw [Nat.zero_div,Nat.add_zero,zyf mask n]
  rfl
theorem zxl (mask:Nat):∀ (n:Nat) (p:Nat×Nat),p.1<mask+1→(zvh mask n p).1<mask+1
 | 0,p,h=>h
 | n+1,p,h=>zxl mask n _ (Nat.mod_lt _ (Nat.succ_pos _))
theorem zug {mask i perturb j:Nat} (c:zzb (mask+1)=true) (hi:i<mask+1) (hp:perturb<2 ^ 64) (hj:j<mask+1):∃ k,k<mask+14∧(zvh mask k (i,perturb)).1=j:=by
 have h13:(zvh mask 13 (i,perturb)).2=0:=by
  rw [zqc]
  exact Nat.div_eq_of_lt (Nat.lt_of_lt_of_le hp (by decide))
 have hl:=zxl mask 13 (i,perturb) hi
 generalize hq:zvh mask 13 (i,perturb)=q at h13 hl
 obtain ⟨qi,qp⟩:=q
 dsimp only at h13 hl
 subst h13
 obtain ⟨k,hk,e⟩:=zc1 c hl hj
 refine ⟨13+k,by omega,?_⟩
 rw [zpi,hq,zyf]
 exact e
open SetTable in
noncomputable def path (t:ST):Nat→Probe→Probe
 | 0,p=>p
 | n+1,p=>path t n (t.advance p)
theorem zfd (t:ST):∀ (a b:Nat) (p:SetTable.Probe),path t (a+b) p=path t b (path t a p)
 | 0,b,p=>by rw [Nat.zero_add];rfl
 | a+1,b,p=>by rw [Nat.succ_add];exact zfd t a b (t.advance p)
theorem zjb (t:ST) (n:Nat) (p:SetTable.Probe):path t (n+1) p=t.advance (path t n p):=by
 rw [zfd];rfl
theorem zfo (t:ST) (p:SetTable.Probe):(t.advance p).dummy=p.dummy:=by
 unfold SetTable.advance
 split <;> rfl
theorem zxf (t:ST):∀ (n:Nat) (p:SetTable.Probe),(path t n p).dummy=p.dummy
 | 0,p=>rfl
 | n+1,p=>by show (path t n (t.advance p)).dummy=_;rw [zxf t n,zfo]
theorem zti (t:ST):∀ (m:Nat) (p:SetTable.Probe),p.more=m→path t (m+1) p={ p with j:=(SetTable.leap t.mask p.i p.perturb).1,more:=SetTable.runEnd t.mask (SetTable.leap t.mask p.i p.perturb).1 - (SetTable.leap t.mask p.i p.perturb).1,i:=(SetTable.leap t.mask p.i p.perturb).1,perturb:=(SetTable.leap t.mask p.i p.perturb).2 }
 | 0,p,h=>by
  show t.advance p=_
  unfold SetTable.advance
  rw [if_neg (by omega)]
 | m+1,p,h=>by
  show path t (m+1) (t.advance p)=_
  have e:t.advance p={ p with j:=p.j+1,more:=p.more - 1 }:=by
   unfold SetTable.advance
   rw [if_pos (by omega)]
  rw [e,zti t m _ (by show p.more - 1=m;omega)]
theorem ztp (mask i:Nat):SetTable.runEnd mask i - i≤9:=by
 unfold SetTable.runEnd
 split <;> omega
theorem zog (t:ST):∀ (k:Nat) (p:SetTable.Probe),p.more≤9→∃ n,n≤10+10 * k∧(path t n p).j=(zvh t.mask (k+1) (p.i,p.perturb)).1
 | 0,p,h=>by
  refine ⟨p.more+1,by omega,?_⟩
  rw [zti t p.more p rfl]
  rfl
 | k+1,p,h=>by
  have e:=zti t p.more p rfl
  obtain ⟨n,hn,e2⟩:=zog t k (path t (p.more+1) p) (by rw [e];exact ztp _ _)
  refine ⟨(p.more+1)+n,by omega,?_⟩
  rw [zfd,e2,e]
  rfl
theorem met {t:ST} (f:Fit t) {p:SetTable.Probe} {j:Nat} (h9:p.more≤9) (hp:p.perturb<2 ^ 64) (hj:j<t.mask+1):∃ n,n<10 * SetTable.turns t.mask∧(path t n p).j=j:=by
 have hl:(SetTable.leap t.mask p.i p.perturb).1<t.mask+1:=Nat.mod_lt _ (Nat.succ_pos _)
 have hp2:(SetTable.leap t.mask p.i p.perturb).2<2 ^ 64:=Nat.lt_of_le_of_lt (Nat.div_le_self _ _) hp
 obtain ⟨k,hk,e⟩:=zug (zno f) hl hp2 hj
 obtain ⟨n,hn,e2⟩:=zog t k p h9
 refine ⟨n,?_,?_⟩
 ·unfold SetTable.turns
  omega
 ·rw [e2];exact e
theorem zzg {t:ST} (f:Fit t) (j:Nat):t.slot j = .empty ∨ ∃ i,t.slot j = .live i∧t.place[i]? = some j:=by
 unfold SetTable.slot
 dsimp only
 by_cases h:(t.place[SetTable.below t.place j]? == some j)=true
 ·rw [if_pos h]
  exact .inr ⟨_,rfl,eq_of_beq h⟩
 ·rw [if_neg h]
  have hd:SetTable.has t.dummies j=false:=by rw [f.dum];unfold SetTable.has;simp
  rw [hd,if_neg Bool.false_ne_true]
  exact .inl rfl
theorem znw:∀ (n:Nat) (g:Nat→Nat) (m:Nat),(∀ j,j<n→g j<m)→(∀ i j,i<n→j<n→g i=g j→i=j)→n≤m:=by
 intro n g m hm hi
 have h1:((List.range n).map g).Nodup:=by
  unfold List.Nodup
  rw [List.pairwise_map]
  refine List.Pairwise.imp_of_mem (λ ha hb hab e=>?_) (List.nodup_range (n:=n))
  exact hab (hi _ _ (List.mem_range.mp ha) (List.mem_range.mp hb) e)
 have h2:((List.range n).map g).length≤(List.range m).length:=List.Nodup.length_le_of_subset h1 (λ x hx=>by
  obtain ⟨j,hj,rfl⟩:=List.mem_map.mp hx
  exact List.mem_range.mpr (hm j (List.mem_range.mp hj)))
 simpa using h2
theorem zrk {t:ST} (f:Fit t):∃ j,j<t.mask+1∧t.slot j = .empty:=by
 refine Classical.byContradiction λ hn=>?_
 have h:∀ j,j<t.mask+1→t.place[SetTable.below t.place j]? = some j:=λ j hj=>by
  rcases zzg f j with e | ⟨i,e,e2⟩
  ·exact absurd ⟨j,hj,e⟩ hn
  ·unfold SetTable.slot at e
   dsimp only at e
   by_cases h:(t.place[SetTable.below t.place j]? == some j)=true
   ·exact eq_of_beq h
   ·rw [if_neg h] at e
    split at e <;> cases e
 have:=znw (t.mask+1) (λ j=>SetTable.below t.place j) t.place.size (λ j hj=>(Array.getElem?_eq_some_iff.mp (h j hj)).1) (λ i j hi hj e=>by
  have h1:=h i hi
  have h2:=h j hj
  have e:SetTable.below t.place i=SetTable.below t.place j:=e
  rw [e,h2] at h1
  exact (Option.some.inj h1).symm)
 have:=f.sz
 omega
theorem zje {t:ST} (f:Fit t) {p:SetTable.Probe} (h9:p.more≤9) (hp:p.perturb<2 ^ 64):∃ N,N<10 * SetTable.turns t.mask∧t.slot (path t N p).j = .empty∧∀ k,k<N→∃ i,t.slot (path t k p).j = .live i∧t.place[i]? = some (path t k p).j:=by
 obtain ⟨j,hj,he⟩:=zrk f
 obtain ⟨n,hn,e⟩:=met f h9 hp hj
 have hex:∃ n,t.slot (path t n p).j = .empty:=⟨n,by rw [e];exact he⟩
 have hfirst:∀ m,t.slot (path t m p).j = .empty→∃ N,N≤m∧t.slot (path t N p).j = .empty∧∀ k,k<N→t.slot (path t k p).j ≠ .empty:=by
  intro m
  induction m using Nat.strongRecOn with
  | ind m ih =>
   intro hm
   by_cases h:∃ k,k<m∧t.slot (path t k p).j = .empty
   ·obtain ⟨k,hk,hk2⟩:=h
    obtain ⟨N,h1,h2,h3⟩:=ih k hk hk2
    exact ⟨N,by omega,h2,h3⟩
   ·exact ⟨m,Nat.le_refl _,hm,λ k hk hk2=>h ⟨k,hk,hk2⟩⟩
 obtain ⟨N,h1,h2,h3⟩:=hfirst n (by rw [e];exact he)
 refine ⟨N,by omega,h2,λ k hk=>?_⟩
 rcases zzg f (path t k p).j with e | e
 ·exact absurd e (h3 k hk)
 ·exact e
theorem zxt {t:ST} {hashAt:Nat→Int} {h:Int} {p:SetTable.Probe} {N:Nat} (hd:p.dummy=none) (he:t.slot (path t N p).j = .empty) (hl:∀ k,k<N→∃ i,t.slot (path t k p).j = .live i∧t.place[i]? = some (path t k p).j) :
  ∀ (d m fuel:Nat),d=N - m→m≤N→d<fuel →
   (∃ k i,m≤k∧k<N∧t.slot (path t k p).j = .live i∧(hashAt i == h)=true∧SetTable.probe.go t hashAt h fuel (path t m p)=some (.candidate (path t k p).j i (path t (k+1) p))) ∨ SetTable.probe.go t hashAt h fuel (path t m p)=some (.empty (path t N p).j none):=by
 intro d
 induction d with
 | zero =>
  intro m fuel hdm hm hf
  have e:m=N:=by omega
  subst e
  cases fuel with
  | zero=>omega
  | succ fuel =>
   right
   unfold SetTable.probe.go
   rw [he,zxf,hd]
 | succ d ih =>
  intro m fuel hdm hm hf
  cases fuel with
  | zero=>omega
  | succ fuel =>
   obtain ⟨i,hi,_⟩:=hl m (by omega)
   unfold SetTable.probe.go
   rw [hi]
   dsimp only
   by_cases hh:(hashAt i == h)=true
   ·left
    refine ⟨m,i,Nat.le_refl _,by omega,hi,hh,?_⟩
    rw [if_pos hh,zjb]
   ·rw [if_neg hh,← zjb]
    rcases ih (m+1) fuel (by omega) (by omega) (by omega) with ⟨k,i',h1,h2,h3,h4,h5⟩ | h5
    ·exact .inl ⟨k,i',by omega,h2,h3,h4,h5⟩
    ·exact .inr h5
end L2
namespace L2
open PySem
noncomputable abbrev own (o:Array (Option Nat)) (j:Nat):Option Nat:=o.getD j none
theorem zrp {mask:Nat} {owner:Array (Option Nat)} (hs:owner.size=mask+1) {j0:Nat} (hj:j0<mask+1) (he:own owner j0=none) :
  ∀ (k fuel i perturb:Nat),k<fuel→i<mask+1→(zvh mask k (i,perturb)).1=j0→∃ j,SetTable.layClean.free mask owner fuel i perturb=some j∧j<mask+1∧own owner j=none:=by
 have get0:∀ j,(owner.getD j (some 0)).isNone=true→j<mask+1∧own owner j=none:=λ j h=>by
  rcases Nat.lt_or_ge j owner.size with hj | hj
  ·rw [Array.getD_eq_getD_getElem?,Array.getElem?_eq_getElem hj] at h
   refine ⟨by omega,?_⟩
   show owner.getD j none=none
   rw [Array.getD_eq_getD_getElem?,Array.getElem?_eq_getElem hj]
   cases e:owner[j] with
   | none=>rfl
   | some v=>rw [e] at h;cases h
  ·rw [Array.getD_eq_getD_getElem?,Array.getElem?_eq_none hj] at h
   cases h
 intro k
 induction k with
 | zero =>
  intro fuel i perturb hf hi e
  cases fuel with
  | zero=>omega
  | succ fuel =>
   have e:i=j0:=e
   subst e
   unfold SetTable.layClean.free
   cases hfd:(List.range (SetTable.runEnd mask i+1 - i)).find? λ k=>(owner.getD (i+k) (some 0)).isNone with
   | some q =>
    have:=List.find?_some hfd
    obtain ⟨h1,h2⟩:=get0 _ this
    exact ⟨_,rfl,h1,h2⟩
   | none =>
    exfalso
    have hr:0∈List.range (SetTable.runEnd mask i+1 - i):=by
     rw [List.mem_range]
     unfold SetTable.runEnd
     split <;> omega
    have:=List.find?_eq_none.mp hfd 0 hr
    apply this
    rw [Nat.add_zero,Array.getD_eq_getD_getElem?,Array.getElem?_eq_getElem (by omega)]
    have he2:owner.getD i none=none:=he
    rw [Array.getD_eq_getD_getElem?,Array.getElem?_eq_getElem (by omega)] at he2
    have he3:owner[i]=none:=he2
    rw [Option.getD_some,he3]
    rfl
 | succ k ih =>
  intro fuel i perturb hf hi e
  cases fuel with
  | zero=>omega
  | succ fuel =>
   unfold SetTable.layClean.free
   cases hfd:(List.range (SetTable.runEnd mask i+1 - i)).find? λ k=>(owner.getD (i+k) (some 0)).isNone with
   | some q =>
    have:=List.find?_some hfd
    obtain ⟨h1,h2⟩:=get0 _ this
    exact ⟨_,rfl,h1,h2⟩
   | none=>exact ih fuel _ _ (by omega) (Nat.mod_lt _ (Nat.succ_pos _)) e
noncomputable def zbe (M:Nat) (o:Array (Option Nat)):List (Nat×Nat):=(List.range M).filterMap λ j=>(own o j).map (j, ·)
theorem zbk {β:Type} {f g:Nat→Option β}:∀ {l:List Nat},(∀ x∈l,g x=f x)→l.filterMap g=l.filterMap f:=by
 intro l
 induction l with
 | nil=>intro _;rfl
 | cons x l ih =>
  intro h
  have h1:=ih λ y hy=>h y (List.mem_cons_of_mem _ hy)
  have h2:=h x List.mem_cons_self
  rw [List.filterMap_cons,List.filterMap_cons,h2,h1]
theorem zng {β:Type} {f g:Nat→Option β} {y:β} {j:Nat}:∀ {l:List Nat},l.Nodup→j∈l→f j=none→g j=some y→(∀ x,x≠j→g x=f x)→(l.filterMap g).Perm (y::l.filterMap f):=by
 intro l hn hj hf hg he
 obtain ⟨a,b,rfl⟩:=List.append_of_mem hj
 have hna:∀ x∈a,x≠j:=λ x hx e=>by
  subst e
  have:=List.nodup_append.mp hn
  exact this.2.2 x hx x List.mem_cons_self rfl
 have hnb:∀ x∈b,x≠j:=λ x hx e=>by
  subst e
  have:=(List.nodup_append.mp hn).2.1
  exact (List.nodup_cons.mp this).1 hx
 have ea:a.filterMap g=a.filterMap f:=by
  refine zbk λ x hx=>he x (hna x hx)
 have eb:b.filterMap g=b.filterMap f:=by
  refine zbk λ x hx=>he x (hnb x hx)
 rw [List.filterMap_append,List.filterMap_append,List.filterMap_cons_some hg,List.filterMap_cons_none hf,ea,eb]
 exact List.perm_middle
theorem zwn {M j k:Nat} {o:Array (Option Nat)} (hs:o.size=M) (hj:j<M) (he:own o j=none):(zbe M (o.setIfInBounds j (some k))).Perm ((j,k)::zbe M o):=by
 refine zng List.nodup_range (List.mem_range.mpr hj) (by rw [he];rfl) ?_ λ x hx=>?_
 ·have:own (o.setIfInBounds j (some k)) j=some k:=by
   show (o.setIfInBounds j (some k)).getD j none=some k
   rw [Array.getD_eq_getD_getElem?,Array.getElem?_setIfInBounds_self_of_lt (by omega)]
   rfl
  rw [this]
  rfl
 ·have:own (o.setIfInBounds j (some k)) x=own o x:=by
   show (o.setIfInBounds j (some k)).getD x none=o.getD x none
   rw [Array.getD_eq_getD_getElem?,Array.getD_eq_getD_getElem?,Array.getElem?_setIfInBounds_ne (λ e=>hx e.symm)]
  rw [this]
theorem zmo {M n:Nat} {o:Array (Option Nat)} (h:((zbe M o).map (·.2)).Perm (List.range n)) (hn:n<M):∃ j,j<M∧own o j=none:=by
 refine Classical.byContradiction λ hno=>?_
 have hl:(zbe M o).length=M:=by
  have:∀ l:List Nat,(∀ x∈l,x<M)→(l.filterMap λ j=>(own o j).map (j, ·)).length=l.length:=by
   intro l
   induction l with
   | nil=>intro _;rfl
   | cons x l ih =>
    intro hx
    have h1:=ih λ y hy=>hx y (List.mem_cons_of_mem _ hy)
    cases e:own o x with
    | none=>exact absurd ⟨x,hx x List.mem_cons_self,e⟩ hno
    | some v=>rw [List.filterMap_cons_some (by rw [e];rfl),List.length_cons,List.length_cons,h1]
  have h2:=this (List.range M) λ x hx=>List.mem_range.mp hx
  rw [List.length_range] at h2
  exact h2
 have:=h.length_eq
 rw [List.length_map,hl,List.length_range] at this
 omega
end L2
namespace L2
open PySem PySem.Spec PyProof.Rows PySem.NumText
mutual
noncomputable def zyd:PyData→Bool
 | .int _=>true
 | .tuple xs=>zkb xs
 | _=>false
noncomputable def zkb:List PyData→Bool
 | []=>true
 | x::xs=>zyd x && zkb xs
end
section
variable {prog:Program} {w:World}
theorem zmg:∀ (n:Nat) (d:PyData) (A:Around) (E:Value→Shared→Prop) (s:Shared) (v:Value) (as:List Addr),d.depth≤n→Reads s.heap v d as→zyd d=true→∀ (k:Nat) (Q:Bool→Shared→Prop),n≤k→Q true s→wpAny (model prog w) A (eqIsQuiet k v) Q E s:=by
 intro n
 induction n with
 | zero =>
  intro d A E s v as hd r ho k Q hk h
  cases r with
  | int i t=>rw [eqIsQuiet_byValue _ rfl];exact wpAny_pure h
  | tuple=>simp [PyData.depth] at hd
  | _=>simp [zyd] at ho
 | succ n ih =>
  intro d A E s v as hd r ho k Q hk h
  cases r with
  | int i t=>rw [eqIsQuiet_byValue _ rfl];exact wpAny_pure h
  | @tuple a o vs m xs as h1 h2 h3 h4 =>
   have hT:s.TypeIs (.ref a) "tuple" := ⟨o,h1,h2⟩
   have hdx:PyData.depthAll xs≤n:=by have:PyData.depth (.tuple xs)=PyData.depthAll xs+1:=rfl;omega
   have hox:zkb xs=true:=ho
   obtain ⟨k,rfl⟩:∃ k',k=k'+1:=⟨k - 1,by omega⟩
   unfold eqIsQuiet
   refine wpAny_bind (wpAny_specialOf hT F.slot_tuple_eq.lookup ?_)
   show wpAny _ _ (isInstance (.ref a) (.type "tuple") >>= _) _ _ s
   refine wpAny_bind (wpAny_isInstance hT isSubtype_tuple_tuple ?_)
   simp only [Bool.not_true,Bool.false_eq_true,if_false]
   refine wpAny_bind (wpAny_seqItems h1 h3 ?_)
   refine wpAny_bind ?_
   show wpAny _ _ (forIn vs _ _) _ _ s
   rw [← Array.forIn_toList]
   refine wpAny_forIn_list _ (λ rest r s'=>r.1=none∧s'=s∧∃ ds bs,ReadsAll s.heap rest ds bs∧PyData.depthAll ds≤n∧zkb ds=true) _ ?_ ?_ _ _ ⟨rfl,rfl,xs,as,h4,hdx,hox⟩
   ·rintro x rest r s' ⟨hr,rfl,ds,bs,hrd,hd',ho'⟩
    cases hrd with
    | @cons _ _ d1 ds1 as1 bs1 r1 rr =>
     rw [PyData.depthAll] at hd'
     rw [zkb,Bool.and_eq_true] at ho'
     refine wpAny_bind (ih d1 _ _ _ x as1 (by omega) r1 ho'.1 k _ (by omega) ?_)
     simp only [Bool.not_true,Bool.false_eq_true,if_false]
     exact wpAny_pure ⟨rfl,rfl,ds1,bs1,rr,by omega,ho'.2⟩
   ·rintro ⟨r1,r2⟩ s' ⟨hr,rfl,_⟩
    simp only at hr
    subst hr
    exact wpAny_pure h
  | _=>simp [zyd] at ho
end
end L2
namespace L2
open PySem PySem.Spec PyProof.Rows PySem.NumText
mutual
theorem zyp {h h':Heap} (k:∀ b o,h.get? b=some o→h'.get? b=some o):∀ (d:PyData) (v:Value) (as:List Addr),zyd d=true→Reads h v d as→Reads h' v d as
 | .int i,_,_,_,.int _ t=>.int i t
 | .tuple xs,_,_,ho,.tuple h1 h2 h3 h4=>.tuple (k _ _ h1) h2 h3 (zwk k xs _ _ ho h4)
theorem zwk {h h':Heap} (k:∀ b o,h.get? b=some o→h'.get? b=some o):∀ (ds:List PyData) (vs:List Value) (as:List Addr),zkb ds=true→ReadsAll h vs ds as→ReadsAll h' vs ds as
 | [],_,_,_,.nil=>.nil
 | d::ds,_,_,ho,.cons r rr=>by
  rw [zkb,Bool.and_eq_true] at ho
  exact .cons (zyp k d _ _ ho.1 r) (zwk k ds _ _ ho.2 rr)
end
section
variable {prog:Program} {w:World}
theorem zyk:∀ (n:Nat) (d:PyData) (A:Around) (E:Value→Shared→Prop) (s:Shared) (v:Value) (as:List Addr),d.depth≤n→Reads s.heap v d as→zyd d=true→∀ (k:Nat) (Q:Bool→Shared→Prop),n≤k→Q false s→wpAny (model prog w) A (ofAClassStatement k v) Q E s:=by
 intro n
 induction n with
 | zero =>
  intro d A E s v as hd r ho k Q hk h
  cases r with
  | int i t=>unfold ofAClassStatement;exact wpAny_pure h
  | tuple=>simp [PyData.depth] at hd
  | _=>simp [zyd] at ho
 | succ n ih =>
  intro d A E s v as hd r ho k Q hk h
  cases r with
  | int i t=>unfold ofAClassStatement;exact wpAny_pure h
  | @tuple a o vs m xs as h1 h2 h3 h4 =>
   have hT:s.TypeIs (.ref a) "tuple" := ⟨o,h1,h2⟩
   have hdx:PyData.depthAll xs≤n:=by have:PyData.depth (.tuple xs)=PyData.depthAll xs+1:=rfl;omega
   have hox:zkb xs=true:=ho
   obtain ⟨k,rfl⟩:∃ k',k=k'+1:=⟨k - 1,by omega⟩
   unfold ofAClassStatement
   refine wpAny_bind (wpAny_typeOf hT ?_)
   dsimp only
   rw [if_pos (by decide)]
   refine wpAny_bind (wpAny_pure ?_)
   simp only [Bool.not_true,Bool.false_eq_true,if_false]
   refine wpAny_bind (wpAny_seqItems h1 h3 ?_)
   dsimp only
   refine wpAny_bind ?_
   rw [← Array.forIn_toList]
   refine wpAny_forIn_list _ (λ rest r s'=>r.1=none∧s'=s∧∃ ds bs,ReadsAll s.heap rest ds bs∧PyData.depthAll ds≤n∧zkb ds=true) _ ?_ ?_ _ _ ⟨rfl,rfl,xs,as,h4,hdx,hox⟩
   ·rintro x rest r s' ⟨hr,rfl,ds,bs,hrd,hd',ho'⟩
    cases hrd with
    | @cons _ _ d1 ds1 as1 bs1 r1 rr =>
     rw [PyData.depthAll] at hd'
     rw [zkb,Bool.and_eq_true] at ho'
     refine wpAny_bind (ih d1 _ _ _ x as1 (by omega) r1 ho'.1 k _ (by omega) ?_)
     simp only [Bool.false_eq_true,if_false]
     exact wpAny_pure ⟨rfl,rfl,ds1,bs1,rr,by omega,ho'.2⟩
   ·rintro ⟨r1,r2⟩ s' ⟨hr,rfl,_⟩
    simp only at hr
    subst hr
    exact wpAny_pure h
  | _=>simp [zyd] at ho
theorem zdn:∀ (n:Nat) (d:PyData) (A:Around) (E:Value→Shared→Prop) (s:Shared) (v:Value) (as:List Addr),d.depth≤n→Reads s.heap v d as→zyd d=true→∀ (k:Nat) (Q:Bool→Shared→Prop),n≤k→Q true s→wpAny (model prog w) A (hashByValue k v) Q E s:=by
 intro n
 induction n with
 | zero =>
  intro d A E s v as hd r ho k Q hk h
  cases r with
  | int i t=>cases k <;> exact wpAny_pure h
  | tuple=>simp [PyData.depth] at hd
  | _=>simp [zyd] at ho
 | succ n ih =>
  intro d A E s v as hd r ho k Q hk h
  cases r with
  | int i t=>cases k <;> exact wpAny_pure h
  | @tuple a o vs m xs as h1 h2 h3 h4 =>
   have hT:s.TypeIs (.ref a) "tuple" := ⟨o,h1,h2⟩
   have hdx:PyData.depthAll xs≤n:=by have:PyData.depth (.tuple xs)=PyData.depthAll xs+1:=rfl;omega
   have hox:zkb xs=true:=ho
   obtain ⟨k,rfl⟩:∃ k',k=k'+1:=⟨k - 1,by omega⟩
   unfold hashByValue
   refine wpAny_bind (wpAny_specialOf hT F.slot_tuple_hash.lookup ?_)
   dsimp only
   refine wpAny_bind (wpAny_seqItems h1 h3 ?_)
   refine wpAny_bind ?_
   show wpAny _ _ (forIn vs _ _) _ _ s
   rw [← Array.forIn_toList]
   refine wpAny_forIn_list _ (λ rest r s'=>r.1=none∧s'=s∧∃ ds bs,ReadsAll s.heap rest ds bs∧PyData.depthAll ds≤n∧zkb ds=true) _ ?_ ?_ _ _ ⟨rfl,rfl,xs,as,h4,hdx,hox⟩
   ·rintro x rest r s' ⟨hr,rfl,ds,bs,hrd,hd',ho'⟩
    cases hrd with
    | @cons _ _ d1 ds1 as1 bs1 r1 rr =>
     rw [PyData.depthAll] at hd'
     rw [zkb,Bool.and_eq_true] at ho'
     refine wpAny_bind (ih d1 _ _ _ x as1 (by omega) r1 ho'.1 k _ (by omega) ?_)
     simp only [Bool.not_true,Bool.false_eq_true,if_false]
     exact wpAny_pure ⟨rfl,rfl,ds1,bs1,rr,by omega,ho'.2⟩
   ·rintro ⟨r1,r2⟩ s' ⟨hr,rfl,_⟩
    simp only at hr
    subst hr
    exact wpAny_pure h
  | _=>simp [zyd] at ho
structure El (h:Heap) (v:Value) (d:PyData):Prop where
 rd:∃ as,Reads h v d as
 oi:zyd d=true
 dp:d.depth≤4
 rf:∃ a,v = .ref a
theorem zoq {s:Shared} {A:Around} {E:Value→Shared→Prop} {x:Value} {dx:PyData} (hx:El s.heap x dx):∀ (l:List Value) (Q:Bool→Shared→Prop),(∀ y∈l,∃ d,El s.heap y d)→Q false s→wpAny (model prog w) A (searchCouldBeSeen x l) Q E s:=by
 intro l Q hl h
 obtain ⟨as,rx⟩:=hx.rd
 unfold searchCouldBeSeen
 refine wpAny_bind ?_
 refine wpAny_forIn_list _ (λ rest r s'=>r.1=none∧s'=s∧∀ y∈rest,∃ d,El s.heap y d) _ ?_ ?_ _ _ ⟨rfl,rfl,hl⟩
 ·rintro y rest r s' ⟨hr,rfl,hall⟩
  obtain ⟨d,hy⟩:=hall y List.mem_cons_self
  obtain ⟨bs,ry⟩:=hy.rd
  obtain ⟨a,rfl⟩:=hx.rf
  obtain ⟨b,rfl⟩:=hy.rf
  have nxt:(none:Option Bool)=none∧s'=s'∧∀ y∈rest,∃ d,El s'.heap y d:=⟨rfl,rfl,λ z hz=>hall z (List.mem_cons_of_mem _ hz)⟩
  dsimp only
  split
  ·exact wpAny_pure nxt
  ·refine wpAny_bind (zmg 4 dx A _ _ _ as hx.dp rx hx.oi 8 _ (by decide) ?_)
   simp only [Bool.not_true,Bool.false_eq_true,if_false]
   refine wpAny_bind (zmg 4 d A _ _ _ bs hy.dp ry hy.oi 8 _ (by decide) ?_)
   simp only [Bool.not_true,Bool.false_eq_true,if_false]
   refine wpAny_bind (zyk 4 dx A _ _ _ as hx.dp rx hx.oi 8 _ (by decide) ?_)
   simp only [Bool.false_eq_true,if_false]
   refine wpAny_bind (zyk 4 d A _ _ _ bs hy.dp ry hy.oi 8 _ (by decide) ?_)
   simp only [Bool.false_eq_true,if_false]
   exact wpAny_pure nxt
 ·rintro ⟨r1,r2⟩ s' ⟨hr,rfl,_⟩
  simp only at hr
  subst hr
  exact wpAny_pure h
end
end L2
namespace L2
open PySem PySem.Spec PyProof.Rows PySem.NumText
mutual
theorem zdc:∀ (d:PyData),zyd d=true→PyData.canLay0 d=true
 | .int _,_=>rfl
 | .tuple xs,h=>zqd xs h
 | .none,h=>by cases h
 | .bool _,h=>by cases h
 | .str _,h=>by cases h
 | .list _,h=>by cases h
 | .dict _,h=>by cases h
theorem zqd:∀ (ds:List PyData),zkb ds=true→PyData.canLayAll0 ds=true
 | [],_=>rfl
 | d::ds,h=>by
  rw [zkb,Bool.and_eq_true] at h
  rw [PyData.canLayAll0,zdc d h.1,zqd ds h.2]
  rfl
end
theorem zek (t:ST) (h:Int):(t.probeStart h).more≤9∧(t.probeStart h).perturb<2 ^ 64∧(t.probeStart h).dummy=none:=by
 refine ⟨ztp _ _,?_,rfl⟩
 show SetTable.bits h<2 ^ 64
 unfold SetTable.bits
 have:=Int.emod_nonneg h (show (2 ^ 64:Int)≠0 by decide)
 have:=Int.emod_lt_of_pos h (show (0:Int)<2 ^ 64 by decide)
 omega
section
variable {prog:Program} {w:World} {A:Around} {E:Value→Shared→Prop} {s:Shared}
end
end L2
namespace L2
open PySem PySem.Spec PyProof.Rows PySem.NumText
theorem zxh {α:Type} (xs:Array α) (p:Nat) (x:α):(SetTable.insertAt xs p x).toList=xs.toList.take p++x::xs.toList.drop p:=by
 unfold SetTable.insertAt
 simp [Array.toList_append,Array.toList_push,Array.toList_extract]
 rw [List.take_of_length_le (by rw [List.length_drop,Array.length_toList];exact Nat.le_refl _)]
theorem znk {α:Type} (xs:Array α) (p:Nat) (x:α):(SetTable.insertAt xs p x).size=xs.size+1:=by
 rw [← Array.length_toList,zxh,List.length_append,List.length_cons,List.length_take,List.length_drop,Array.length_toList]
 omega
theorem El.kept {h h':Heap} {v:Value} {d:PyData} (e:El h v d) (k:∀ b o,h.get? b=some o→h'.get? b=some o):El h' v d :=
 ⟨let ⟨as,r⟩:=e.rd; ⟨as,zyp k d v as e.oi r⟩,e.oi,e.dp,e.rf⟩
section
variable {prog:Program} {w:World} {A:Around} {E:Value→Shared→Prop} {s:Shared}
end
end L2
namespace L2
open PySem PySem.Spec PyProof.Rows PySem.NumText
section
variable {prog:Program} {w:World} {A:Around} {R:Result→Shared→Prop} {I:Addr} {fp wr:List Addr} {G:Array GenState→Array GenState→Prop} {n:Nat} {P:Nat→Value→Prop} {St:Nat→Shared→Prop}
end
section
variable {prog:Program} {w:World} {A:Around} {E:Value→Shared→Prop} {s:Shared}
end
end L2
namespace L2
open PySem PySem.Spec PyProof.Rows PySem.NumText
section
variable {X:Cx}
end
end L2
namespace L2
open PySem PySem.Spec PyProof.Rows PySem.NumText
noncomputable def redH (i:Int):Int :=
 if (decide (-(2:Int) ^ 63≤i) && decide (i<2 ^ 63))=true then (if (i == -1)=true then -2 else i)
 else if ((if i<0 then -((i.natAbs:Int) % (2 ^ 61 - 1)) else (i.natAbs:Int) % (2 ^ 61 - 1)) == -1)=true then -2 else (if i<0 then -((i.natAbs:Int) % (2 ^ 61 - 1)) else (i.natAbs:Int) % (2 ^ 61 - 1))
mutual
noncomputable def zak:PyData→Int
 | .int i=>hashInt i
 | .tuple xs=>redH (Builtin.Tuple.tupleHashOf (zud xs))
 | _=>0
noncomputable def zud:List PyData→List Int
 | []=>[]
 | x::xs=>zak x::zud xs
end
theorem ztc:∀ (xs ys:List PyData),zud (xs++ys)=zud xs++zud ys
 | [],ys=>rfl
 | x::xs,ys=>by rw [List.cons_append,zud,zud,ztc xs ys,List.cons_append]
section
variable {prog:Program} {w:World}
theorem zhn:∀ (n:Nat) (d:PyData) (A:Around) (E:Value→Shared→Prop) (s:Shared) (v:Value) (as:List Addr),d.depth≤n→Reads s.heap v d as→zyd d=true→A.units+n<cLine→∀ (Q:Int→Shared→Prop),(∀ tk,s.toks≤tk→Q (zak d) { s with toks:=tk })→wpAny (model prog w) A (pyHash v) Q E s:=by
 intro n
 induction n with
 | zero =>
  intro d A E s v as hd r ho hu Q h
  cases r with
  | int i t=>exact (intKind prog w).pyHash (k:=i) (intKind_is _ _ _ _) (h _ (Nat.le_succ _))
  | tuple=>simp [PyData.depth] at hd
  | _=>simp [zyd] at ho
 | succ n ih =>
  intro d A E s v as hd r ho hu Q h
  cases r with
  | int i t=>exact (intKind prog w).pyHash (k:=i) (intKind_is _ _ _ _) (h _ (Nat.le_succ _))
  | @tuple a o vs m xs as h1 h2 h3 h4 =>
   have hT:s.TypeIs (.ref a) "tuple" := ⟨o,h1,h2⟩
   have hdx:PyData.depthAll xs≤n:=by have:PyData.depth (.tuple xs)=PyData.depthAll xs+1:=rfl;omega
   have hox:zkb xs=true:=ho
   unfold pyHash
   first | unfold pyHashByItsType | skip
   first | refine wpAny_bind (wpAny_cRoomFor_or (.inr (by omega)) ?_) | skip
   refine wpAny_bind (wpAny_specialOf hT F.slot_tuple_hash.lookup ?_)
   show wpAny _ _ (if (some (Value.builtin "tuple.__hash__") == some Value.none)=true then _ else _) Q E s
   rw [if_neg (by rw [beq_builtin_none];exact Bool.false_ne_true)]
   refine wpAny_bind (wpAny_specialOf hT F.slot_tuple_hash.lookup ?_)
   show wpAny _ _ (callSpecialIfBoundUnlessNone? (.ref a) "__hash__" _ >>= _) Q E s
   refine wpAny_bind (wpAny_callSpecialIfBoundUnlessNone?_slot hT F.slot_tuple_hash (wpAny_call_entry F.slot_tuple_hash hT F.entry_tuple_hash ?_ (F.args_tuple_hash_1 _)))
   show wpAny _ _ (Builtin.Tuple.tupleItemsOf (.ref a) >>= _) _ _ s
   refine wpAny_bind (wpAny_tupleItemsOf h1 h3 ?_)
   refine wpAny_bind ?_
   rw [← Array.forIn_toList]
   refine wpAny_forIn_list _ (λ rest (b:Array Int) s'=>∃ tk gone ds bs,s.toks≤tk∧s'={ s with toks:=tk }∧ReadsAll s.heap rest ds bs∧PyData.depthAll ds≤n∧zkb ds=true∧xs=gone++ds∧b.toList=zud gone) _ ?_ ?_ _ _ ⟨s.toks,[],xs,as,Nat.le_refl _,rfl,h4,hdx,hox,rfl,rfl⟩
   ·rintro x rest b s' ⟨tk,gone,ds,bs,htk,rfl,hr,hd',ho',hx,hb⟩
    cases hr with
    | @cons _ _ d1 ds1 as1 bs1 r1 rr =>
     rw [PyData.depthAll] at hd'
     rw [zkb,Bool.and_eq_true] at ho'
     refine wpAny_bind (ih d1 _ _ { s with toks:=tk } x as1 (by omega) r1 ho'.1 (by show A.units+1+n<cLine;omega) _ λ tk' htk'=>?_)
     have e1:xs=(gone++[d1])++ds1:=by rw [hx,List.append_assoc];rfl
     have e2:(b.push (zak d1)).toList=zud (gone++[d1]):=by rw [Array.toList_push,hb,ztc];rfl
     first
      | exact wpAny_pure ⟨tk',_,ds1,bs1,Nat.le_trans htk htk',rfl,rr,by omega,ho'.2,e1,e2⟩
      | exact wpAny_bind (wpAny_pure (wpAny_pure ⟨tk',_,ds1,bs1,Nat.le_trans htk htk',rfl,rr,by omega,ho'.2,e1,e2⟩))
   ·rintro b s' ⟨tk,gone,ds,bs,htk,rfl,hr,hd',ho',hx,hb⟩
    cases hr
    rw [List.append_nil] at hx
    subst hx
    show wpAny _ _ (retInt (Builtin.Tuple.tupleHashOf b.toList)) _ _ _
    refine wpAny_ret_mkInt ?_
    rw [hb]
    have hq:∀ tk,s.toks≤tk→Q (redH (Builtin.Tuple.tupleHashOf (zud xs))) { s with toks:=tk }:=h
    generalize Builtin.Tuple.tupleHashOf (zud xs)=hv at hq ⊢
    show wpAny _ _ (if (decide (-(2:Int) ^ 63≤hv) && decide (hv<2 ^ 63))=true then _ else _) Q E _
    unfold redH at hq
    by_cases hr:(decide (-(2:Int) ^ 63≤hv) && decide (hv<2 ^ 63))=true
    ·rw [if_pos hr] at hq ⊢
     exact wpAny_pure (hq _ (Nat.le_succ_of_le htk))
    ·rw [if_neg hr] at hq ⊢
     exact wpAny_bind (wpAny_rule (wpAny_pure (hq _ (Nat.le_succ_of_le htk))))
  | _=>simp [zyd] at ho
end
mutual
theorem zmv:∀ (d e:PyData),zyd d=true→zyd e=true→PyData.eqv d e=true→d=e
 | .int a,.int b,_,_,h=>by
  have h:(a == b)=true:=by simpa [PyData.eqv] using h
  rw [eq_of_beq h]
 | .tuple xs,.tuple ys,h1,h2,h=>by
  have h:PyData.eqvAll xs ys=true:=h
  rw [zvi xs ys h1 h2 h]
 | .int a,.tuple ys,_,_,h=>by simp [PyData.eqv] at h
 | .tuple xs,.int b,_,_,h=>by simp [PyData.eqv] at h
theorem zvi:∀ (ds es:List PyData),zkb ds=true→zkb es=true→PyData.eqvAll ds es=true→ds=es
 | [],[],_,_,_=>rfl
 | d::ds,e::es,h1,h2,h=>by
  rw [zkb,Bool.and_eq_true] at h1 h2
  have h:(PyData.eqv d e && PyData.eqvAll ds es)=true:=h
  rw [Bool.and_eq_true] at h
  rw [zmv d e h1.1 h2.1 h.1,zvi ds es h1.2 h2.2 h.2]
 | [],e::es,_,_,h=>by simp [PyData.eqvAll] at h
 | d::ds,[],_,_,h=>by simp [PyData.eqvAll] at h
end
theorem zls {d:PyData} (h:zyd d=true):PyData.eqv d d=true:=by
 cases d with
 | int i=>simp [PyData.eqv]
 | tuple xs=>exact SeqAt.eqvAll_refl xs (zqd xs h)
 | _=>simp [zyd] at h
noncomputable def Mono (xs:Array Nat):Prop:=∀ (a b u v:Nat),a<b→xs[a]? = some u→xs[b]? = some v→u<v
theorem zhs {xs:Array Nat} {j:Nat} (hs:Mono xs):∀ (fuel lo hi:Nat),hi - lo≤fuel→lo≤hi→hi≤xs.size→(∀ i v,i<lo→xs[i]? = some v→v<j)→(∀ i v,hi≤i→xs[i]? = some v→j≤v) →
  SetTable.below.go xs j fuel lo hi≤xs.size∧(∀ i v,i<SetTable.below.go xs j fuel lo hi→xs[i]? = some v→v<j)∧(∀ i v,SetTable.below.go xs j fuel lo hi≤i→xs[i]? = some v→j≤v):=by
 intro fuel
 induction fuel with
 | zero =>
  intro lo hi h1 h2 h3 h4 h5
  have e:lo=hi:=by omega
  subst e
  unfold SetTable.below.go
  exact ⟨h3,h4,h5⟩
 | succ fuel ih =>
  intro lo hi h1 h2 h3 h4 h5
  unfold SetTable.below.go
  by_cases hl:lo<hi
  ·rw [if_pos hl]
   dsimp only
   have hm:(lo+hi) / 2<xs.size:=by omega
   have em:xs[(lo+hi) / 2]? = some (xs.getD ((lo+hi) / 2) j):=by rw [Array.getD_eq_getD_getElem?,Array.getElem?_eq_getElem hm];rfl
   by_cases hx:xs.getD ((lo+hi) / 2) j<j
   ·rw [if_pos hx]
    refine ih _ _ (by omega) (by omega) h3 (λ i v hi' e=>?_) h5
    rcases Nat.lt_or_ge i ((lo+hi) / 2) with hlt | hge
    ·exact Nat.lt_trans (hs _ _ _ _ hlt e em) hx
    ·have:i=(lo+hi) / 2:=by omega
     subst this
     rw [em] at e
     cases e
     exact hx
   ·rw [if_neg hx]
    refine ih _ _ (by omega) (by omega) (by omega) h4 (λ i v hi' e=>?_)
    rcases Nat.lt_or_ge ((lo+hi) / 2) i with hlt | hge
    ·exact Nat.le_of_lt (Nat.lt_of_le_of_lt (Nat.le_of_not_lt hx) (hs _ _ _ _ hlt em e))
    ·have:i=(lo+hi) / 2:=by omega
     subst this
     rw [em] at e
     cases e
     exact Nat.le_of_not_lt hx
  ·rw [if_neg hl]
   exact ⟨by omega,h4,λ i v hi' e=>h5 i v (by omega) e⟩
theorem zsd {xs:Array Nat} (hs:Mono xs) (j:Nat):SetTable.below xs j≤xs.size∧(∀ i v,i<SetTable.below xs j→xs[i]? = some v→v<j)∧(∀ i v,SetTable.below xs j≤i→xs[i]? = some v→j≤v):=by
 unfold SetTable.below
 exact zhs hs _ _ _ (by omega) (Nat.zero_le _) (Nat.le_refl _) (λ i v h=>by omega) (λ i v h e=>by rw [Array.getElem?_eq_none h] at e;cases e)
theorem zsr {xs:Array Nat} (hs:Mono xs) {i j:Nat} (h:xs[i]? = some j):SetTable.below xs j=i:=by
 obtain ⟨h1,h2,h3⟩:=zsd hs j
 rcases Nat.lt_trichotomy (SetTable.below xs j) i with hl | he | hg
 ·have hb:SetTable.below xs j<xs.size:=Nat.lt_trans hl (Array.getElem?_eq_some_iff.mp h).1
  have e:=Array.getElem?_eq_getElem hb
  have a1:=h3 _ _ (Nat.le_refl _) e
  have a2:=hs _ _ _ _ hl e h
  omega
 ·exact he
 ·have:=h2 _ _ hg h
  omega
theorem zpk {t:ST} (hs:Mono t.place) {i j:Nat} (h:t.place[i]? = some j):t.slot j = .live i:=by
 unfold SetTable.slot
 dsimp only
 rw [zsr hs h,h,if_pos (beq_self_eq_true _)]
theorem zll {α:Type} {xs:Array α} {p:Nat} {x:α} (hp:p≤xs.size) (i:Nat):(SetTable.insertAt xs p x)[i]? = if i<p then xs[i]? else if i=p then some x else xs[i - 1]?:=by
 rw [← Array.getElem?_toList,zxh]
 by_cases h1:i<p
 ·rw [if_pos h1,List.getElem?_append_left (by rw [List.length_take,Array.length_toList];omega),List.getElem?_take,if_pos h1,Array.getElem?_toList]
 ·rw [if_neg h1,List.getElem?_append_right (by rw [List.length_take,Array.length_toList];omega),List.length_take,Array.length_toList,Nat.min_eq_left hp]
  by_cases h2:i=p
  ·subst h2
   rw [if_pos rfl,Nat.sub_self]
   rfl
  ·rw [if_neg h2]
   obtain ⟨k,hk⟩:∃ k,i - p=k+1:=⟨i - p - 1,by omega⟩
   rw [hk,List.getElem?_cons_succ,List.getElem?_drop,Array.getElem?_toList]
   congr 1
   omega
theorem zir {xs:Array Nat} (hs:Mono xs) {j:Nat} (hn:∀ i:Nat,xs[i]? ≠ some j):Mono (SetTable.insertAt xs (SetTable.below xs j) j):=by
 obtain ⟨h1,h2,h3⟩:=zsd hs j
 have h3':∀ (i v:Nat),SetTable.below xs j≤i→xs[i]? = some v→j<v:=λ i v hi e=>by
  have:=h3 i v hi e
  rcases Nat.lt_or_eq_of_le this with hl | he
  ·exact hl
  ·subst he;exact absurd e (hn i)
 intro a b u v hab ea eb
 rw [zll h1] at ea eb
 by_cases a1:a<SetTable.below xs j
 ·rw [if_pos a1] at ea
  have a2:=h2 _ _ a1 ea
  by_cases b1:b<SetTable.below xs j
  ·rw [if_pos b1] at eb
   exact hs _ _ _ _ hab ea eb
  ·rw [if_neg b1] at eb
   by_cases b2:b=SetTable.below xs j
   ·rw [if_pos b2] at eb;cases eb;exact a2
   ·rw [if_neg b2] at eb
    exact Nat.lt_trans a2 (h3' _ _ (by omega) eb)
 ·rw [if_neg a1] at ea
  rw [if_neg (by omega:¬ b<SetTable.below xs j)] at eb
  rw [if_neg (by omega:¬ b=SetTable.below xs j)] at eb
  by_cases a2:a=SetTable.below xs j
  ·rw [if_pos a2] at ea;cases ea
   exact h3' _ _ (by omega) eb
  ·rw [if_neg a2] at ea
   exact hs _ _ _ _ (by omega) ea eb
theorem zds {t t':ST} (h:t.mask=t'.mask) (p:SetTable.Probe):t.advance p=t'.advance p:=by
 unfold SetTable.advance
 rw [h]
theorem zbc {t t':ST} (h:t.mask=t'.mask):∀ (n:Nat) (p:SetTable.Probe),path t n p=path t' n p
 | 0,p=>rfl
 | n+1,p=>by rw [zjb,zjb,zbc h n p,zds h]
theorem zhc {t t':ST} (h:t.mask=t'.mask) (x:Int):t.probeStart x=t'.probeStart x:=by
 unfold SetTable.probeStart
 rw [h]
structure Wp (t:ST) (es:Array (Int×Value)):Prop where
 mono:Mono t.place
 rch:∀ (i j:Nat) (e:Int×Value),t.place[i]? = some j→es[i]? = some e→∃ n,(path t n (t.probeStart e.1)).j=j∧∀ k,k<n→∃ i':Nat,t.place[i']? = some (path t k (t.probeStart e.1)).j
theorem Wp.ins {t t1:ST} {es:Array (Int×Value)} (h:Wp t es) (hz:t.place.size=es.size) {j N:Nat} {e:Int×Value} (he:(path t N (t.probeStart e.1)).j=j) (hf:∀ i:Nat,t.place[i]? ≠ some j) (hl:∀ k,k<N→∃ i':Nat,t.place[i']? = some (path t k (t.probeStart e.1)).j)
  (hm:t1.mask=t.mask) (hp:t1.place=SetTable.insertAt t.place (SetTable.below t.place j) j):Wp t1 (SetTable.insertAt es (SetTable.below t.place j) e):=by
 obtain ⟨b1,b2,b3⟩:=zsd h.mono j
 have grow:∀ (i' v:Nat),t.place[i']? = some v→∃ i'':Nat,t1.place[i'']? = some v:=λ i' v hv=>by
  rw [hp]
  by_cases hi:i'<SetTable.below t.place j
  ·exact ⟨i',by rw [zll b1,if_pos hi];exact hv⟩
  ·exact ⟨i'+1,by rw [zll b1,if_neg (by omega),if_neg (by omega),Nat.add_sub_cancel];exact hv⟩
 have mk:∀ (e':Int×Value) (j':Nat),(∃ n,(path t n (t.probeStart e'.1)).j=j'∧∀ k,k<n→∃ i':Nat,t.place[i']? = some (path t k (t.probeStart e'.1)).j)→∃ n,(path t1 n (t1.probeStart e'.1)).j=j'∧∀ k,k<n→∃ i':Nat,t1.place[i']? = some (path t1 k (t1.probeStart e'.1)).j:=by
  rintro e' j' ⟨n,q1,q2⟩
  refine ⟨n,?_,λ k hk=>?_⟩
  ·rw [zbc hm,zhc hm];exact q1
  ·obtain ⟨i',hi'⟩:=q2 k hk
   rw [zbc hm,zhc hm]
   exact grow i' _ hi'
 refine ⟨by rw [hp];exact zir h.mono hf,λ i j' e' h1 h2=>mk e' j' ?_⟩
 rw [hp,zll b1] at h1
 rw [zll (by rw [← hz];exact b1)] at h2
 by_cases i1:i<SetTable.below t.place j
 ·rw [if_pos i1] at h1 h2
  exact h.rch i j' e' h1 h2
 ·rw [if_neg i1] at h1 h2
  by_cases i2:i=SetTable.below t.place j
  ·rw [if_pos i2] at h1 h2
   cases h1
   cases h2
   exact ⟨N,he,hl⟩
  ·rw [if_neg i2] at h1 h2
   exact h.rch (i - 1) j' e' h1 h2
noncomputable abbrev tm (mask:Nat):ST:={ mask,place := #[],dummies := #[],finger:=0,led:=false,moves:=0,plain:=false }
theorem zxc (t:ST):∀ (q:Nat) (p:SetTable.Probe),q≤p.more→path t q p={ p with j:=p.j+q,more:=p.more - q }
 | 0,p,_=>rfl
 | q+1,p,h=>by
  rw [zjb,zxc t q p (by omega)]
  unfold SetTable.advance
  dsimp only
  rw [if_pos (by omega)]
  congr 1
theorem zxn {mask:Nat} {owner:Array (Option Nat)} (hs:owner.size=mask+1):∀ (fuel i perturb j:Nat) (p:SetTable.Probe),i<mask+1→p.j=i→p.more=SetTable.runEnd mask i - i→p.i=i→p.perturb=perturb→SetTable.layClean.free mask owner fuel i perturb=some j →
  ∃ N,(path (tm mask) N p).j=j∧∀ k,k<N→own owner (path (tm mask) k p).j≠none:=by
 have occ:∀ j,j<mask+1→¬ (owner.getD j (some 0)).isNone=true→own owner j≠none:=λ j hj h e=>by
  apply h
  rw [Array.getD_eq_getD_getElem?,Array.getElem?_eq_getElem (by omega)]
  have e:owner.getD j none=none:=e
  rw [Array.getD_eq_getD_getElem?,Array.getElem?_eq_getElem (by omega)] at e
  have e:owner[j]=none:=e
  rw [e]
  rfl
 have rng:∀ i k,i<mask+1→k<SetTable.runEnd mask i+1 - i→i+k<mask+1:=λ i k hi hk=>by
  unfold SetTable.runEnd at hk
  split at hk <;> omega
 intro fuel
 induction fuel with
 | zero =>
  intro i perturb j p hi h1 h2 h3 h4 hf
  unfold SetTable.layClean.free at hf
  cases hf
 | succ fuel ih =>
  intro i perturb j p hi h1 h2 h3 h4 hf
  unfold SetTable.layClean.free at hf
  cases hfd:(List.range (SetTable.runEnd mask i+1 - i)).find? λ k=>(owner.getD (i+k) (some 0)).isNone with
  | some q =>
   rw [hfd] at hf
   have hf:some (i+q)=some j:=hf
   cases hf
   have hq:q<SetTable.runEnd mask i+1 - i:=List.mem_range.mp (List.mem_of_find?_eq_some hfd)
   refine ⟨q,?_,λ k hk=>?_⟩
   ·rw [zxc _ q p (by rw [h2];omega)]
    show p.j+q=i+q
    rw [h1]
   ·rw [zxc _ k p (by rw [h2];omega)]
    show own owner (p.j+k)≠none
    rw [h1]
    refine occ _ (rng i k hi (by omega)) ?_
    have:=(List.find?_range_eq_some.mp hfd).2.2 k hk
    intro hc
    rw [hc] at this
    exact absurd this (by decide)
  | none =>
   rw [hfd] at hf
   have hall:=List.find?_eq_none.mp hfd
   have hrun:∀ k,k≤p.more→(path (tm mask) k p).j=i+k∧own owner (i+k)≠none:=λ k hk=>by
    have hk':k<SetTable.runEnd mask i+1 - i:=by
     rw [h2] at hk
     have:i≤SetTable.runEnd mask i:=by unfold SetTable.runEnd;split <;> omega
     omega
    refine ⟨?_,occ _ (rng i k hi hk') (hall k (List.mem_range.mpr hk'))⟩
    rw [zxc _ k p hk]
    show p.j+k=i+k
    rw [h1]
   have he:=zti (tm mask) p.more p rfl
   obtain ⟨N,n1,n2⟩:=ih _ _ j (path (tm mask) (p.more+1) p) (Nat.mod_lt _ (Nat.succ_pos mask)) (by rw [he];show (SetTable.leap mask p.i p.perturb).1=_;rw [h3,h4];rfl) (by rw [he];show SetTable.runEnd mask (SetTable.leap mask p.i p.perturb).1 - (SetTable.leap mask p.i p.perturb).1=_;rw [h3,h4];rfl) (by rw [he];show (SetTable.leap mask p.i p.perturb).1=_;rw [h3,h4];rfl) (by rw [he];show (SetTable.leap mask p.i p.perturb).2=_;rw [h3,h4];rfl) hf
   refine ⟨p.more+1+N,by rw [zfd];exact n1,λ k hk=>?_⟩
   rcases Nat.lt_or_ge k (p.more+1) with hl | hg
   ·obtain ⟨e1,e2⟩:=hrun k (by omega)
    rw [e1]
    exact e2
   ·obtain ⟨d,rfl⟩:∃ d,k=p.more+1+d:=⟨k - (p.more+1),by omega⟩
    rw [zfd]
    exact n2 d (by omega)
end L2
namespace L2
open PySem PySem.Spec PyProof.Rows PySem.NumText
mutual
theorem zeh:∀ a b:PyData,PyData.eqv a b=PyData.eqv b a
 | .list xs,.list ys=>by rw [PyData.eqv,PyData.eqv];exact zoc xs ys
 | .tuple xs,.tuple ys=>by rw [PyData.eqv,PyData.eqv];exact zoc xs ys
 | .bool a,.bool b=>by rw [PyData.eqv,PyData.eqv];exact Bool.beq_comm
 | .bool a,.int j=>by rw [PyData.eqv,PyData.eqv];exact Bool.beq_comm
 | .int i,.bool b=>by rw [PyData.eqv,PyData.eqv];exact Bool.beq_comm
 | .int i,.int j=>by rw [PyData.eqv,PyData.eqv];exact Bool.beq_comm
 | .str x,.str y=>by rw [PyData.eqv,PyData.eqv];exact Bool.beq_comm
 | .dict _,.dict _=>by rw [PyData.eqv,PyData.eqv]
 | .none,b=>by cases b <;> simp [PyData.eqv]
 | .bool _,.none | .bool _,.str _ | .bool _,.list _ | .bool _,.tuple _ | .bool _,.dict _=>by simp [PyData.eqv]
 | .int _,.none | .int _,.str _ | .int _,.list _ | .int _,.tuple _ | .int _,.dict _=>by simp [PyData.eqv]
 | .str _,.none | .str _,.bool _ | .str _,.int _ | .str _,.list _ | .str _,.tuple _ | .str _,.dict _=>by simp [PyData.eqv]
 | .list _,.none | .list _,.bool _ | .list _,.int _ | .list _,.str _ | .list _,.tuple _ | .list _,.dict _=>by simp [PyData.eqv]
 | .tuple _,.none | .tuple _,.bool _ | .tuple _,.int _ | .tuple _,.str _ | .tuple _,.list _ | .tuple _,.dict _=>by simp [PyData.eqv]
 | .dict _,.none | .dict _,.bool _ | .dict _,.int _ | .dict _,.str _ | .dict _,.list _ | .dict _,.tuple _=>by simp [PyData.eqv]
theorem zoc:∀ a b:List PyData,PyData.eqvAll a b=PyData.eqvAll b a
 | [],[]=>rfl
 | [],_::_=>by simp [PyData.eqvAll]
 | _::_,[]=>by simp [PyData.eqvAll]
 | x::xs,y::ys=>by rw [PyData.eqvAll,PyData.eqvAll,zeh x y,zoc xs ys]
end
theorem zol:∀ (xs ys:List PyData) (c:Bool),ltDs xs ys=some c→∀ (j:Nat) x y,xs[j]? = some x→ys[j]? = some y→(∀ i x y,i<j→xs[i]? = some x→ys[i]? = some y→PyData.eqv x y=true)→PyData.eqv x y=false→∃ c',ltD x y=some c':=by
 intro xs
 induction xs with
 | nil=>intro ys c _ j x y e1;simp at e1
 | cons x0 xs ih2 =>
  intro ys c h j x y e1 e2 hall hne
  cases ys with
  | nil=>simp at e2
  | cons y0 ys =>
   rw [ltDs] at h
   cases j with
   | zero =>
    simp at e1 e2
    subst e1 e2
    rw [if_neg (by rw [hne];exact Bool.false_ne_true)] at h
    exact ⟨c,h⟩
   | succ j =>
    rw [if_pos (hall 0 x0 y0 (Nat.succ_pos _) rfl rfl)] at h
    exact ih2 ys c h j x y (by simpa using e1) (by simpa using e2) (λ i a b hi h1 h2=>hall (i+1) a b (by omega) (by simpa using h1) (by simpa using h2)) hne
theorem zsm:∀ (n:Nat) (da db:PyData) (c:Bool) (A:Around) (s:Shared) (a b:Value) (as bs:List Addr),PyData.depth da≤n→Reads s.heap a da as→Reads s.heap b db bs→da.canLay0=true→db.canLay0=true→ltD db da=some c →
  A.units+n+2<cLine→zzc .Gt A s a b c:=by
 intro n
 induction n with
 | zero =>
  intro da db c A s a b as bs hd ra rb _ _ hc hu
  cases ra with
  | int i t =>
   cases rb with
   | int j u =>
    have hc:decide (j<i)=c:=by simpa [ltD] using hc
    subst hc
    exact λ prog w E Q hq=>(PyProof.Rows.gt_int hq:wpAny (model prog w) A (compareOp .Gt (.int i t) (.int j u)) Q E s)
   | _=>simp [ltD] at hc
  | str x t =>
   cases rb with
   | str y u =>
    have hc:decide (y.cps.toList<x.cps.toList)=c:=by simpa [ltD] using hc
    subst hc
    exact λ prog w E Q hq=>(PySem.P.gt_str hq:wpAny (model prog w) A (compareOp .Gt (.str x t) (.str y u)) Q E s)
   | _=>simp [ltD] at hc
  | tuple h1 h2 h3 h4=>simp [PyData.depth] at hd
  | _=>cases rb <;> simp [ltD] at hc
 | succ n ih =>
  intro da db c A s a b as bs hd ra rb la lb hc hu
  cases ra with
  | int i t =>
   cases rb with
   | int j u =>
    have hc:decide (j<i)=c:=by simpa [ltD] using hc
    subst hc
    exact λ prog w E Q hq=>(PyProof.Rows.gt_int hq:wpAny (model prog w) A (compareOp .Gt (.int i t) (.int j u)) Q E s)
   | _=>simp [ltD] at hc
  | str x t =>
   cases rb with
   | str y u =>
    have hc:decide (y.cps.toList<x.cps.toList)=c:=by simpa [ltD] using hc
    subst hc
    exact λ prog w E Q hq=>(PySem.P.gt_str hq:wpAny (model prog w) A (compareOp .Gt (.str x t) (.str y u)) Q E s)
   | _=>simp [ltD] at hc
  | @tuple l o vs m xs as h1 h2 h3 h4 =>
   cases rb with
   | @tuple l2 o2 vs2 m2 ys bs g1 g2 g3 g4 =>
    have hc:ltDs ys xs=some c:=by simpa [ltD] using hc
    have z1:vs.size=xs.length:=by have:=SeqAt.ReadsAll.length _ _ _ h4;simpa using this
    have z2:vs2.size=ys.length:=by have:=SeqAt.ReadsAll.length _ _ _ g4;simpa using this
    have la':PyData.canLayAll0 xs=true:=la
    have lb':PyData.canLayAll0 ys=true:=lb
    have hd':PyData.depthAll xs≤n:=by have:PyData.depth (.tuple xs)=PyData.depthAll xs+1:=rfl;omega
    have at1:∀ j (h:j<vs.size),∃ d bs,xs[j]? = some d∧Reads s.heap vs[j] d bs∧d∈xs:=λ j h=>zdb h4 (by simp [h])
    have at2:∀ j (h:j<vs2.size),∃ d bs,ys[j]? = some d∧Reads s.heap vs2[j] d bs∧d∈ys:=λ j h=>zdb g4 (by simp [h])
    have he:∀ j (k1:j<vs.size) (k2:j<vs2.size),SeqAt.EqAt A.in1 s vs[j] vs2[j] (PyData.eqv ((ys[j]?).getD .none) ((xs[j]?).getD .none)):=λ j k1 k2=>by
     obtain ⟨d,b1,e1,r1,m1⟩:=at1 j k1
     obtain ⟨d2,b2,e2,r2,m2⟩:=at2 j k2
     rw [e1,e2,zeh]
     refine SeqAt.eqAt_reads d d2 A.in1 s _ _ b1 b2 r1 r2 (zna m1 la') (zna m2 lb') ?_
     have:=zob m1
     have:min d.depth d2.depth≤d.depth:=Nat.min_le_left _ _
     show A.units+1+min d.depth d2.depth<cLine
     omega
    have hl:IsTup s.heap l vs:=⟨o,h1,h2,m,h3⟩
    have hr:IsTup s.heap l2 vs2:=⟨o2,g1,g2,m2,g3⟩
    have e0:∀ (j:Nat) x y,ys[j]? = some x→xs[j]? = some y→PyData.eqv ((ys[j]?).getD .none) ((xs[j]?).getD .none)=PyData.eqv x y:=λ j x y e1 e2=>by rw [e1,e2];rfl
    have lexlt:=zmf (e:=λ j=>PyData.eqv ((ys[j]?).getD .none) ((xs[j]?).getD .none)) (r:=λ j=>(ltD ((ys[j]?).getD .none) ((xs[j]?).getD .none)).getD false) hc e0 (λ j x y c' e1 e2 _ _ e3=>by rw [e1,e2];simp only [Option.getD_some];rw [e3];rfl)
    have hu1:A.in1.units+n+2<cLine:=by show A.units+1+n+2<cLine;omega
    have cmp:∀ j (k1:j<vs.size) (k2:j<vs2.size),(∀ i,i<j→PyData.eqv ((ys[i]?).getD .none) ((xs[i]?).getD .none)=true)→PyData.eqv ((ys[j]?).getD .none) ((xs[j]?).getD .none)=false →
      zzc .Gt A.in1 s vs[j] vs2[j] ((ltD ((ys[j]?).getD .none) ((xs[j]?).getD .none)).getD false):=λ j k1 k2 hall hne=>by
     obtain ⟨d,b1,e1,r1,m1⟩:=at1 j k1
     obtain ⟨d2,b2,e2,r2,m2⟩:=at2 j k2
     rw [e1,e2] at hne ⊢
     obtain ⟨c',hc'⟩:=zol ys xs c hc j d2 d e2 e1 (λ i x y hi h1 h2=>by have:=hall i hi;rw [h1,h2] at this;exact this) hne
     simp only [Option.getD_some]
     rw [hc']
     exact ih d d2 c' A.in1 s _ _ b1 b2 (Nat.le_trans (zob m1) hd') r1 r2 (zna m1 la') (zna m2 lb') hc' hu1
    intro prog w E Q hq
    refine (zyn hl hr he (λ j k1 k2 h3 h4=>cmp j k1 k2 h3 h4) (by omega) ?_:wpAny (model prog w) A (compareOp .Gt (.ref l) (.ref l2)) Q E s)
    rw [z1,z2,Nat.min_comm,lexlt]
    exact hq
   | _=>simp [ltD] at hc
  | _=>cases rb <;> simp [ltD] at hc
section
variable {X:Cx}
noncomputable def rGtG (K:W.Frag):R2:=λ x y H Q=>∃ d e c,DV K H d x∧DV K H e y∧SeqAt.shaped d=true∧SeqAt.shaped e=true∧ltD e d=some c∧Q (.bl c) H
theorem zay (hu:X.A.units+100<cLine):OpR X (compareOp .Gt) (rGtG X.K):=by
 intro pins s σ H x y v u Q I rx ry h
 obtain ⟨d,e,c,hd,he,sd,se,hc,q⟩:=h
 obtain ⟨as,ra⟩:=DV.reads I d x v hd rx
 obtain ⟨bs,rb⟩:=DV.reads I e y u he ry
 exact zsm 64 d e c X.A s v u as bs (SeqAt.depth_of_shaped sd) ra rb (SeqAt.canLay_of_shaped sd) (SeqAt.canLay_of_shaped se) hc (by omega) _ _ _ _ ⟨.bl _,H,I,rfl,q⟩
end
noncomputable abbrev Ext (h h':Heap):Prop:=∀ b o,h.get? b=some o→h'.get? b=some o
noncomputable def zky (prog:Program) (w:World) (A:Around) (op:CmpOp) (h0:Heap) (P:Nat→Value→Prop) (bt:Nat→Nat→Bool):Prop :=
 ∀ (i j:Nat) (x y:Value) (s:Shared) (Q E:Value→Shared→Prop),j<i→Ext h0 s.heap→P i x→P j y→Q (.bool (bt i j)) s→wpAny (model prog w) A (richCompare op x y) Q E s
theorem zpf (bt:Nat→Nat→Bool):∀ k,argBest bt k≤k
 | 0=>Nat.le_refl _
 | k+1=>by have:=zpf bt k;rw [argBest];split <;> omega
section
variable {prog:Program} {w:World} {A:Around} {R:Result→Shared→Prop} {I:Addr} {fp wr:List Addr} {n:Nat} {P:Nat→Value→Prop} {St:Nat→Heap→Prop} {h0:Heap} {kw:List (Str×Value)}
theorem zaw (W:Walks prog w A.in1 I fp wr n P St) (bt:Nat→Nat→Bool) (cmp:zky prog w A.in1 .Lt h0 P bt) (S:Addr) (S1:S∉fp) (N1:∀ b∈wr,h0.get? b=none) (N2:h0.get? S=none)
  (k:Nat):∀ (j:Nat) (s:Shared) (best:Value) (c:Nat),n - (j+1)=k→j+1≤n→St (j+1) s.heap→P (argBest bt j) best→Ext h0 s.heap →
   s.heap.get? S=some { cls := .type "list",dict:=none,data := .seq #[best,best] c,slots := #[] } →
   (∀ v h' tk,P (argBest bt (n - 1)) v→Ext h0 h'→R (.ok (.ret v)) { s with heap:=h',toks:=tk }) →
   codeAny (model prog w) A (.builtin "min.loop" ⟨[.ref I,.none,.ref S],kw⟩) R s:=by
 have S2:S∉wr:=λ z=>S1 (W.sub _ z)
 have nm:(toString "min" ++ toString ".loop" : String) = "min.loop" := by decide
 have keep:∀ {h h':Heap},Ext h0 h→(∀ b o,b∉wr→h.get? b=some o→h'.get? b=some o)→Ext h0 h':=fun {h h'} e1 e2 b o e=>e2 b o (λ z=>by rw [N1 b z] at e;cases e) (e1 b o e)
 have keepS:∀ {h:Heap} {f:Obj→Obj},Ext h0 h→Ext h0 (h.update S f):=fun {h f} e1 b o e=>(Heap.get?_update_other _ _ (λ z:S=b=>by rw [← z,N2] at e;cases e)).trans (e1 b o e)
 induction k with
 | zero =>
  intro j s best c hk hj st hP ex hS fin
  have jn:j+1=n:=by omega
  refine codeAny_builtin F.entry_min_loop ?_
  rw [Around.under_plainId F.plain_min_loop _]
  show wpAny _ A.in1 (seqItems? (.ref S) >>= _) _ _ s
  refine wpAny_bind (wpAny_seqItems hS rfl ?_)
  show wpAny _ A.in1 (tryCatch (pyNext (.ref I)) _ >>= _) _ _ s
  refine wpAny_bind (wpAny_tryCatch (W.done s _ _ (jn ▸ st) λ h' tk kp=>?_))
  have hS':=kp S _ S2 hS
  show wpAny _ A.in1 (updateSeq S (λ _ => #[]) >>= _) _ _ _
  refine wpAny_bind (wpAny_updateSeq hS' rfl (wpAny_bind (wpAny_letGo (wpAny_pure ?_))))
  exact fin best _ tk (by rw [← jn];exact hP) (keepS (keep ex kp))
 | succ k ih =>
  intro j s best c hk hj st hP ex hS fin
  have jl:j+1<n:=by omega
  refine codeAny_builtin F.entry_min_loop ?_
  rw [Around.under_plainId F.plain_min_loop _]
  show wpAny _ A.in1 (seqItems? (.ref S) >>= _) _ _ s
  refine wpAny_bind (wpAny_seqItems hS rfl ?_)
  show wpAny _ A.in1 (tryCatch (pyNext (.ref I)) _ >>= _) _ _ s
  refine wpAny_bind (wpAny_tryCatch (W.item (j+1) s _ _ jl st λ v h' tk pv st' kp=>?_))
  have hS':=kp S _ S2 hS
  have ex':=keep ex kp
  show wpAny _ A.in1 (tryCatch (holding [v,v] (richCompare .Lt v best >>= _)) _ >>= _) _ _ _
  refine wpAny_bind (wpAny_tryCatch (wpAny_holding (wpAny_bind (cmp (j+1) (argBest bt j) v best _ _ _ (Nat.lt_succ_of_le (zpf bt j)) ex' pv hP ?_))))
  refine wpAny_bind (wpAny_holding (wpAny_truthy_bool (wpAny_bind (wpAny_letGo (wpAny_pure ?_)))))
  cases hb:bt (j+1) (argBest bt j) with
  | true =>
   simp only [if_true]
   refine wpAny_bind (wpAny_updateSeq hS' rfl (wpAny_bind (wpAny_letGo ?_)))
   rw [nm]
   have st2:=W.frame _ _ (h'.update S (Obj.mapSeq λ _ => #[v,v])) st' λ b bf o e=>(Heap.get?_update_other _ _ (λ z:S=b=>S1 (by rw [z];exact bf))).trans e
   exact wpAny_pure ⟨plainId_quiet F.plain_min_loop _,ih (j+1) _ v _ (by omega) jl st2 (by simp only [argBest,hb,if_true];exact pv) (keepS ex') (Heap.get?_update_self _ hS' rfl) λ v' h2 tk2 p2 e2=>fin v' h2 tk2 p2 e2⟩
  | false =>
   simp only [Bool.false_eq_true,if_false]
   refine wpAny_bind (wpAny_letGo ?_)
   rw [nm]
   exact wpAny_pure ⟨plainId_quiet F.plain_min_loop _,ih (j+1) _ best c (by omega) jl st' (by simp only [argBest,hb,Bool.false_eq_true,if_false];exact hP) ex' hS' λ v' h2 tk2 p2 e2=>fin v' h2 tk2 p2 e2⟩
theorem zcs (W:Walks prog w A.in1 I fp wr n P St) (bt:Nat→Nat→Bool) (cmp:zky prog w A.in1 .Lt h0 P bt) (S:Addr) (S1:S∉fp) (N1:∀ b∈wr,h0.get? b=none) (N2:h0.get? S=none) (n0:0<n)
  {s:Shared} {c:Nat} (st:St 0 s.heap) (ex:Ext h0 s.heap) (hS:s.heap.get? S=some { cls := .type "list",dict:=none,data := .seq #[] c,slots := #[] })
  (fin:∀ v h' tk,P (argBest bt (n - 1)) v→Ext h0 h'→R (.ok (.ret v)) { s with heap:=h',toks:=tk }) :
  codeAny (model prog w) A (.builtin "min.loop" ⟨[.ref I,.none,.ref S],kw⟩) R s:=by
 have S2:S∉wr:=λ z=>S1 (W.sub _ z)
 have nm:(toString "min" ++ toString ".loop" : String) = "min.loop" := by decide
 refine codeAny_builtin F.entry_min_loop ?_
 rw [Around.under_plainId F.plain_min_loop _]
 show wpAny _ A.in1 (seqItems? (.ref S) >>= _) _ _ s
 refine wpAny_bind (wpAny_seqItems hS rfl ?_)
 show wpAny _ A.in1 (tryCatch (pyNext (.ref I)) _ >>= _) _ _ s
 refine wpAny_bind (wpAny_tryCatch (W.item 0 s _ _ n0 st λ v h' tk pv st' kp=>?_))
 have hS':=kp S _ S2 hS
 have ex':Ext h0 h':=λ b o e=>kp b o (λ z=>by rw [N1 b z] at e;cases e) (ex b o e)
 have ex2:Ext h0 (h'.update S (Obj.mapSeq λ _ => #[v,v])):=λ b o e=>(Heap.get?_update_other _ _ (λ z:S=b=>by rw [← z,N2] at e;cases e)).trans (ex' b o e)
 show wpAny _ A.in1 (updateSeq S (λ _ => #[v,v]) >>= _) _ _ _
 refine wpAny_bind (wpAny_updateSeq hS' rfl ?_)
 rw [nm]
 have st2:=W.frame _ _ (h'.update S (Obj.mapSeq λ _ => #[v,v])) st' λ b bf o e=>(Heap.get?_update_other _ _ (λ z:S=b=>S1 (by rw [z];exact bf))).trans e
 exact wpAny_pure ⟨plainId_quiet F.plain_min_loop _,zaw W bt cmp S S1 N1 N2 _ 0 _ v _ rfl n0 st2 pv ex2 (Heap.get?_update_self _ hS' rfl) λ v' h2 tk2 p2 e2=>fin v' h2 tk2 p2 e2⟩
end
section
variable {X:Cx}
mutual
theorem zcf {h h':Heap} (e:Ext h h'):∀ {v:Value} {d:PyData} {as:List Addr},Reads h v d as→Reads h' v d as
 | _,_,_,.none=>.none
 | _,_,_,.bool b=>.bool b
 | _,_,_,.int i t=>.int i t
 | _,_,_,.str x t=>.str x t
 | _,_,_,.list a b c d=>.list (e _ _ a) b c (zcb e d)
 | _,_,_,.tuple a b c d=>.tuple (e _ _ a) b c (zcb e d)
 | _,_,_,.dict a b c d f=>.dict (e _ _ a) b c (zcb e d) (zcb e f)
theorem zcb {h h':Heap} (e:Ext h h'):∀ {vs:List Value} {ds:List PyData} {as:List Addr},ReadsAll h vs ds as→ReadsAll h' vs ds as
 | _,_,_,.nil=>.nil
 | _,_,_,.cons a b=>.cons (zcf e a) (zcb e b)
end
end
end L2
namespace L2
open PySem PySem.Spec PyProof.Rows
section
variable {X:Cx} {CX:CXT} {k:Nat} {f C D:Addr} {fd:FuncData} {ps:List Str} {sp:Sp} {dvs:List V} {ds:List Value} {EX:XK} {x m:Str} {p pos apos:Pos} {e o:Expr} {es:List Expr} {ta:TE} {t:TA} {σ₀:St}
noncomputable def za1 (K:W.Frag) (i:Nat) (D:Addr) (tb:St→XK→TS) (th:TS):TS:=λ Dn σ H=>∃ E1:XK,tb σ E1 Dn σ H ∧
 ∀ (C y:Addr) (H1:Hp),E1 (.ref C) none H1→H1 y=none→XCls K C∧W.mroIn K C (.ref D)=some true ∧
  th { nx:=λ σ2 H2=>Dn.nx (σ2.set i none) H2,rt:=λ v H2=>Dn.rt v H2,bk:=λ σ2 H2=>Dn.bk (σ2.set i none) H2,ct:=λ σ2 H2=>Dn.ct (σ2.set i none) H2 } (σ.set i (some (.ref y))) (upd H1 y (excO y C))
theorem zht {i:Nat} {n dn:Str} {body:List Stmt} {tb:St→XK→TS} {b₀:Stmt} {suite:List Stmt} {th:TS} {p3 p4 pos:Pos} (nd:X.N.Nodup) (xd:XCls X.K D) (hg:Gl X dn) (hm:X.mg dn=some (.ref D)) (tp:X.Top)
  (hb:∀ σ₀ E' pn' E1,zhk (CX1 X.prog X.w X.base) (X.tryC E' pn') σ₀ E1→PSs (X.tryC E' pn') body (tb σ₀ E1))
  (hh:∀ x,PSs (X.hand x) (b₀::suite) th) (hi:X.N[i]? = some n:=by rfl) (hn:X.env.scope.names.lookup n=some .local:=by rfl) (hdb:(dn == ("__debug__" : Str))=false:=by decide) :
  PS X (.Try body [.ExceptHandler (some (.Name dn p3)) (some n) (b₀::suite) p4] [] [] pos) (za1 X.K i D tb th) := .mk <| by
 intro pins s σ H Dn I h
 obtain ⟨E1,hte,hth⟩:=h
 show wpAny (model X.prog X.w) X.A (do standAt pos;tryStmt false (execs body X.env) [.ExceptHandler (some (.Name dn p3)) (some n) (b₀::suite) p4] (execs [] X.env) [] X.env) (SP X pins Dn) X.xe s
 refine wpAny_bind (wpAny_standAt (wpAny_tryStmt_except ?_))
 generalize hE:(λ (e:Value) (s₁:Shared)=>wpAny (model X.prog X.w) X.A (noteFrame e X.env) (λ _ s₂=>wpAny (model X.prog X.w) X.A (setFlight e none) (λ _ s₃ =>
  wpAny (model X.prog X.w) X.A (handleBy e X.env [.ExceptHandler (some (.Name dn p3)) (some n) (b₀::suite) p4]) (SP X pins Dn) X.xe s₃) X.xe s₂) X.xe s₁)=E'
 have hx:zhk (CX1 X.prog X.w X.base) (X.tryC E' pins) σ E1:=by
  rintro pins' H1 s1 _ s' J1 ⟨x,C,H',rfl,os,bare,un,hok,F,q⟩
  have J:Inv (X.tryC E' pins) [] σ H' s':=(J1.call' (ch:=[]) os un hok bare λ b z=>absurd z (by simp)).nopins
  have F':Fly (X.tryC E' pins).new H' x C s'.heap:=F.imp λ b hb=>zoy J1 hb
  have tp':(X.tryC E' pins).Top:=⟨tp.top⟩
  show E' (.ref x) s'
  rw [← hE]
  refine zlm (X:=X.tryC E' pins) J tp' F' λ h1 I1 F1 t1=>?_
  refine zod (X:=X.tryC E' pins) (A:=X.A) I1 F1 t1 λ h2 I2 F2 t2=>?_
  obtain ⟨xc,hmro,hsuite⟩:=hth C x H' q F2.free
  obtain ⟨oe,vs,a1,a2,a3,a4,_,_⟩:=id F2.ob
  refine wpAny_handleBy_cons (codeAny_handlers_test ?_) (by intro q;cases q)
  refine zde (X:=X.hand x) (I2.ofTry.toHand x) hg hm ?_ hdb
  refine zqn (I2.kIn) xd xc hmro a1 a2 ?_
  refine codeAny_handlers_suite_as ?_
  refine zod (X:=X.tryC E' pins) (A:=X.A.mark (some (.ref x))) I2 F2 t2 λ h3 I3 F3 _=>?_
  obtain ⟨oe3,vs3,c1,c2,c3,c4,_,_⟩:=id F3.ob
  have I4:Inv (X.hand x) pins σ (upd H' x (excO x C)) { s' with heap:=h3 }:=(I3.ofTry.toHand x).track (λ o e=>F3.new.1 o e) (λ p hp=>F3.new.2 p hp) F3.free ⟨_,_,c1,c2,c3,c4⟩
  refine zfh (X:=X.hand x) (v := .ref x) I4 nd hi (.inl hn) rfl (λ s5 I5=>?_) (.inr hn)
  refine wpAny_mono (hh x pins s5 _ _ _ I5 hsuite) (λ fl s6 q6=>?_) λ _ _ z=>z.elim
  show wpAny (model X.prog X.w) X.A (do bindName X.env n .none;unbindBehindTheSuite X.env n p4) (λ _ s₃=>SP X pins Dn fl s₃) X.xe s6
  have hcls:(X.env.scope.kind == .class || (X.env.scope.kind == .module && X.env.locals != X.env.globals))=false:=by rw [I.ok.kind];rfl
  have go:∀ {σ6:St} {H6:Hp} {R:Unit→Shared→Prop},Inv (X.hand x) pins σ6 H6 s6→(∀ s7,Inv X pins (σ6.set i none) H6 s7→R () s7)→wpAny (model X.prog X.w) X.A (do bindName X.env n .none;unbindBehindTheSuite X.env n p4) R X.xe s6:=fun {σ6 H6 R} I6 k=>by
   have I6':Inv X pins σ6 H6 s6:=I6.ofHand I.ok.hd
   obtain ⟨m,hm6,hl6⟩:=I6'.loc
   exact wpAny_nameGoes_keeps hn hm6 hcls λ h' v a b=>k _ (I6'.goes nd hi hm6 hl6 a b)
  cases fl with
  | next=>obtain ⟨σ6,H6,I6,r6⟩:=q6;exact go I6 λ s7 I7=>⟨_,H6,I7,r6⟩
  | brk=>obtain ⟨σ6,H6,I6,r6⟩:=q6;exact go I6 λ s7 I7=>⟨_,H6,I7,r6⟩
  | cont=>obtain ⟨σ6,H6,I6,r6⟩:=q6;exact go I6 λ s7 I7=>⟨_,H6,I7,r6⟩
  | ret u=>obtain ⟨v,σ6,H6,I6,rv,r6⟩:=q6;exact go I6 λ s7 I7=>⟨v,_,H6,I7,rv,r6⟩
 refine thn (hb σ E' pins E1 hx [] s σ H Dn (I.toTry E') hte) λ fl s1 q1=>?_
 cases fl with
 | next=>obtain ⟨σ1,H1,I1,r1⟩:=q1;exact wpAny_execs_nil ⟨σ1,H1,I1.ofTry,r1⟩
 | brk=>obtain ⟨σ1,H1,I1,r1⟩:=q1;exact ⟨σ1,H1,I1.ofTry,r1⟩
 | cont=>obtain ⟨σ1,H1,I1,r1⟩:=q1;exact ⟨σ1,H1,I1.ofTry,r1⟩
 | ret u=>obtain ⟨v,σ1,H1,I1,rv,r1⟩:=q1;exact ⟨v,σ1,H1,I1.ofTry,rv,r1⟩
end
end L2
namespace L2
open PySem PySem.Spec PyProof.Rows PySem.NumText
section
variable {X:Cx}
end
end L2
namespace L2
open PySem PySem.Spec PyProof.Rows PySem.NumText
theorem znu {z:Str}:PyData.strOk z=true ↔ ∀ n∈z.cps.toList,n<0x110000:=by
 unfold PyData.strOk
 rw [← Array.all_toList,List.all_eq_true]
 constructor
 ·intro h n hn;exact of_decide_eq_true (h n hn)
 ·intro h n hn;exact decide_eq_true (h n hn)
theorem zrm {z:Str} (h:PyData.strOk z=true) (lo hi:Option Int):PyData.strOk (Txt.slice z lo hi)=true:=by
 rw [znu] at *
 intro n hn
 rw [zhm] at hn
 exact h n (List.mem_of_mem_drop (List.mem_of_mem_take hn))
theorem ztn (s:String):PyData.strOk (Str.ofString s)=true:=by
 rw [znu]
 intro n hn
 rw [signs_ofString] at hn
 obtain ⟨c,_,rfl⟩:=List.mem_map.mp hn
 have:=c.valid
 unfold UInt32.isValidChar Nat.isValidChar at this
 show c.val.toNat<1114112
 omega
end L2
namespace L2
open PySem PySem.Spec PyProof.Rows PySem.NumText
structure STO {α:Type} (lt:α→α→Bool):Prop where
 irr:∀ a,lt a a=false
 tr:∀ a b c,lt a b=true→lt b c=true→lt a c=true
 tri:∀ a b,a≠b→lt a b=false→lt b a=true
theorem STO.asym {α:Type} {lt:α→α→Bool} (h:STO lt) {a b:α} (x:lt a b=true):lt b a=false:=by
 cases e:lt b a with
 | false=>rfl
 | true=>have:=h.tr a b a x e;rw [h.irr] at this;cases this
theorem zbu:STO iLt where
 irr:=λ a=>decide_eq_false (by omega)
 tr:=λ a b c h1 h2=>decide_eq_true (by have:=of_decide_eq_true h1;have:=of_decide_eq_true h2;omega)
 tri:=λ a b h1 h2=>decide_eq_true (by have:=of_decide_eq_false h2;omega)
theorem zvm {α:Type} [DecidableEq α] {lt:α→α→Bool} (h:STO lt):STO (lexG lt) where
 irr:=λ a=>by
  induction a with
  | nil=>rfl
  | cons x xs ih=>rw [lexG,if_pos rfl];exact ih
 tr:=λ a=>by
  induction a with
  | nil =>
   intro b c h1 h2
   cases c with
   | nil=>cases b <;> cases h2
   | cons z zs=>rfl
  | cons x xs ih =>
   intro b c h1 h2
   cases b with
   | nil=>cases h1
   | cons y ys =>
    cases c with
    | nil=>cases h2
    | cons z zs =>
     rw [lexG] at h1 h2 ⊢
     by_cases e1:x=y
     ·rw [if_pos e1] at h1
      by_cases e2:y=z
      ·rw [if_pos e2] at h2
       rw [if_pos (e1.trans e2)]
       exact ih ys zs h1 h2
      ·rw [if_neg e2] at h2
       rw [e1,if_neg e2]
       exact h2
     ·rw [if_neg e1] at h1
      by_cases e2:y=z
      ·rw [if_pos e2] at h2
       subst e2
       rw [if_neg e1]
       exact h1
      ·rw [if_neg e2] at h2
       have h3:=h.tr x y z h1 h2
       have e3:x≠z:=λ e=>by rw [e,h.irr] at h3;cases h3
       rw [if_neg e3]
       exact h3
 tri:=λ a=>by
  induction a with
  | nil =>
   intro b h1 h2
   cases b with
   | nil=>exact absurd rfl h1
   | cons y ys=>cases h2
  | cons x xs ih =>
   intro b h1 h2
   cases b with
   | nil=>rfl
   | cons y ys =>
    rw [lexG] at h2 ⊢
    by_cases e:x=y
    ·rw [if_pos e] at h2
     rw [if_pos e.symm]
     exact ih ys (λ z=>h1 (by rw [e,z])) h2
    ·rw [if_neg e] at h2
     rw [if_neg (λ z=>e z.symm)]
     exact h.tri x y e h2
theorem STO.map {α β:Type} {lt:β→β→Bool} (h:STO lt) {f:α→β} (inj:∀ a b,f a=f b→a=b):STO (λ a b=>lt (f a) (f b)) where
 irr:=λ a=>h.irr _
 tr:=λ a b c=>h.tr _ _ _
 tri:=λ a b hn=>h.tri _ _ λ e=>hn (inj a b e)
theorem zut:STO sLt:=(zvm zbu).map (f:=sI) λ a b e=>sI_inj.mp e
theorem pLt_sto:STO pLt:=zvm zut
noncomputable def zxg {α β:Type} [DecidableEq α] (l1:α→α→Bool) (l2:β→β→Bool) (a b:α×β):Bool:=if a.1=b.1 then l2 a.2 b.2 else l1 a.1 b.1
theorem zkh {α β:Type} [DecidableEq α] {l1:α→α→Bool} {l2:β→β→Bool} (h1:STO l1) (h2:STO l2):STO (zxg l1 l2) where
 irr:=λ a=>by unfold zxg;rw [if_pos rfl];exact h2.irr _
 tr:=λ a b c x y=>by
  unfold zxg at *
  by_cases e1:a.1=b.1
  ·rw [if_pos e1] at x
   by_cases e2:b.1=c.1
   ·rw [if_pos e2] at y
    rw [if_pos (e1.trans e2)]
    exact h2.tr _ _ _ x y
   ·rw [if_neg e2] at y
    rw [e1,if_neg e2]
    exact y
  ·rw [if_neg e1] at x
   by_cases e2:b.1=c.1
   ·rw [if_pos e2] at y
    rw [← e2,if_neg e1]
    exact x
   ·rw [if_neg e2] at y
    have z:=h1.tr _ _ _ x y
    have e3:a.1≠c.1:=λ e=>by rw [e,h1.irr] at z;cases z
    rw [if_neg e3]
    exact z
 tri:=λ a b hn x=>by
  unfold zxg at *
  by_cases e:a.1=b.1
  ·rw [if_pos e] at x
   rw [if_pos e.symm]
   exact h2.tri _ _ (λ z=>hn (Prod.ext e z)) x
  ·rw [if_neg e] at x
   rw [if_neg (λ z=>e z.symm)]
   exact h1.tri _ _ e x
noncomputable abbrev Ver:=Int×List Stp×Str
noncomputable def ver (v:Ver):PyData := .tuple [.int v.1,plc v.2.1,.str v.2.2]
noncomputable def vdat:Option Ver→PyData
 | none=>.none
 | some v=>ver v
noncomputable def okV (v:Ver):Prop:=PySem.PyData.strOk v.2.2=true
theorem zae {K:W.Frag} {H:Hp} {v:Ver} {x:V} (h:DV K H (ver v) x):∃ t pv,x = .ref t∧SqT K H t [.int v.1,pv,.str v.2.2]∧DV K H (plc v.2.1) pv:=by
 obtain ⟨t,vs,rfl,hq,a,r,rfl,ha,b,r2,rfl,hb,c,r3,rfl,hc,h4⟩:=h
 cases (show a=V.int v.1 from ha)
 cases (show c=V.str v.2.2 from hc)
 cases (show r3=[] from h4)
 exact ⟨t,b,rfl,hq,hb⟩
theorem zaf {K:W.Frag} {H:Hp} {v:Ver} {t:Addr} {pv:V} (h:SqT K H t [.int v.1,pv,.str v.2.2]) (hp:DV K H (plc v.2.1) pv):DV K H (ver v) (.ref t):=⟨t,_,rfl,h,_,_,rfl,rfl,_,_,rfl,hp,_,_,rfl,rfl,rfl⟩
theorem zts (o:Option Ver):noL (vdat o)=true:=by
 cases o with
 | none=>rfl
 | some v =>
  show (noL (.int v.1) && (noL (plc v.2.1) && (noL (.str v.2.2) && true)))=true
  rw [zml]
  rfl
theorem zdt (a b:Stp):ltD (stp a) (stp b)=some (sLt a b):=by
 obtain ⟨a1,a2,a3⟩:=a
 obtain ⟨b1,b2,b3⟩:=b
 show ltDs [.int a1,.int a2,.int a3] [.int b1,.int b2,.int b3]=some (lexG iLt [a1,a2,a3] [b1,b2,b3])
 have ie:∀ x y:Int,PyData.eqv (.int x) (.int y)=decide (x=y):=λ x y=>by rw [show PyData.eqv (.int x) (.int y)=(x == y) from rfl,Bool.eq_iff_iff];simp
 rw [ltDs,ltDs,ltDs,ltDs,lexG,lexG,lexG,lexG,ie,ie,ie]
 by_cases e1:a1=b1
 ·rw [if_pos (decide_eq_true e1),if_pos e1]
  by_cases e2:a2=b2
  ·rw [if_pos (decide_eq_true e2),if_pos e2]
   by_cases e3:a3=b3
   ·rw [if_pos (decide_eq_true e3),if_pos e3]
   ·rw [if_neg (by simpa using e3),if_neg e3];rfl
  ·rw [if_neg (by simpa using e2),if_neg e2];rfl
 ·rw [if_neg (by simpa using e1),if_neg e1];rfl
theorem zmk:∀ a b:List Stp,ltDs (a.map stp) (b.map stp)=some (pLt a b)
 | [],[]=>rfl
 | [],_::_=>rfl
 | _::_,[]=>rfl
 | x::a,y::b=>by
  rw [List.map_cons,List.map_cons,ltDs,zfl,zmk a b,zdt]
  show _=some (if x=y then lexG sLt a b else sLt x y)
  by_cases e:x=y
  ·rw [if_pos (decide_eq_true e),if_pos e]
  ·rw [if_neg (by simpa using e),if_neg e]
theorem zwe (a b:List Stp):ltD (plc a) (plc b)=some (pLt a b):=zmk a b
end L2
namespace L2
open PySem PySem.Spec PyProof.Rows PySem.NumText PySem.W
section
variable {n:Nat} {s:Shared} {cmp:Nat→Nat→(Bool→Shared→Prop)→Shared→Prop} {lt:Nat→Nat→Bool}
noncomputable def Asks (n:Nat) (s:Shared) (cmp:Nat→Nat→(Bool→Shared→Prop)→Shared→Prop) (lt:Nat→Nat→Bool):Prop:=∀ i j C,i<n→j<n→C (lt i j) s→cmp i j C s
structure Ord (n:Nat) (lt:Nat→Nat→Bool):Prop where
 tr:∀ a b c,a<n→b<n→c<n→lt a b=true→lt b c=true→lt a c=true
 tri:∀ a b,a<n→b<n→a≠b→lt a b=false→lt b a=true
 asy:∀ a b,a<n→b<n→lt a b=true→lt b a=false
structure Pm (n:Nat) (p:Array Nat):Prop where
 pm:p.toList.Perm (List.range n)
noncomputable abbrev at_ (p:Array Nat) (k:Nat):Nat:=p.getD k 0
theorem Pm.size {p:Array Nat} (h:Pm n p):p.size=n:=by have:=h.pm.length_eq;simpa using this
theorem zpu {p:Array Nat} {k:Nat} (h:k<p.size):at_ p k=p[k]:=by simp [at_,Array.getD,h]
theorem Pm.inb {p:Array Nat} (h:Pm n p) {k:Nat} (hk:k<n):at_ p k<n:=by
 have hs:=h.size
 rw [zpu (by omega)]
 have:p[k]'(by omega)∈p.toList:=by simp
 have:=h.pm.mem_iff.mp this
 simpa using this
theorem Pm.inj {p:Array Nat} (h:Pm n p) {i j:Nat} (hi:i<n) (hj:j<n) (e:at_ p i=at_ p j):i=j:=by
 have hs:=h.size
 rw [zpu (by omega),zpu (by omega)] at e
 have nd:p.toList.Nodup:=h.pm.nodup_iff.mpr List.nodup_range
 have pw:=List.pairwise_iff_getElem.mp nd
 rcases Nat.lt_trichotomy i j with z | z | z
 ·exact absurd e (pw i j (by simp;omega) (by simp;omega) z)
 ·exact z
 ·exact absurd e.symm (pw j i (by simp;omega) (by simp;omega) z)
noncomputable def Up (lt:Nat→Nat→Bool) (p:Array Nat) (m:Nat):Prop:=∀ i j,i<j→j<m→lt (at_ p i) (at_ p j)=true
theorem zzk {p:Array Nat} {m:Nat} (O:Ord n lt) (h:Pm n p) (hm:m≤n) (c:∀ k,1≤k→k<m→lt (at_ p (k - 1)) (at_ p k)=true):Up lt p m:=by
 intro i j hij hj
 induction j with
 | zero=>omega
 | succ j ih =>
  have h1:=c (j+1) (by omega) hj
  rw [Nat.add_sub_cancel] at h1
  by_cases e:i=j
  ·rw [e];exact h1
  ·exact O.tr _ _ _ (h.inb (by omega)) (h.inb (by omega)) (h.inb (by omega)) (ih (by omega) (by omega)) h1
theorem zes (hc:Asks n s cmp lt) {p:Array Nat} (h:Pm n p):∀ (f m:Nat) {Q:Nat→Shared→Prop},1≤m→m+f≤n →
  (∀ r,m≤r→r≤m+f→(∀ k,m≤k→k<r→lt (at_ p k) (at_ p (k - 1))=false)→(r<m+f→lt (at_ p r) (at_ p (r - 1))=true)→Q r s)→(kas_asc p f m).kasWp cmp Q s
 | 0,m,Q,h1,hm,q=>q m (Nat.le_refl _) (Nat.le_refl _) (λ k a b=>by omega) (λ a=>by omega)
 | f+1,m,Q,h1,hm,q=>by
  refine hc _ _ _ (h.inb (by omega)) (h.inb (by omega)) ?_
  cases e:lt (at_ p m) (at_ p (m - 1)) with
  | true=>exact q m (Nat.le_refl _) (by omega) (λ k a b=>by omega) (λ _=>e)
  | false =>
   refine zes hc h f (m+1) (by omega) (by omega) λ r a b c d=>q r (by omega) (by omega) (λ k k1 k2=>?_) (λ z=>d (by omega))
   by_cases ek:k=m
   ·rw [ek];exact e
   ·exact c k (by omega) k2
theorem zvq (O:Ord n lt) (hc:Asks n s cmp lt) {p:Array Nat} (h:Pm n p):∀ (f m:Nat) {Q:Array Nat×Nat×Nat→Shared→Prop},1≤m→m+f≤n →
  (∀ r,m≤r→r≤m+f→(∀ k,m≤k→k<r→lt (at_ p k) (at_ p (k - 1))=true)→Q (p,r,0) s)→(kas_desc f p m 0).kasWp cmp Q s
 | 0,m,Q,h1,hm,q=>q m (Nat.le_refl _) (Nat.le_refl _) (λ k a b=>by omega)
 | f+1,m,Q,h1,hm,q=>by
  refine hc _ _ _ (h.inb (by omega)) (h.inb (by omega)) ?_
  cases e:lt (at_ p m) (at_ p (m - 1)) with
  | true =>
   show (kas_desc f p (m+1) 0).kasWp cmp Q s
   refine zvq O hc h f (m+1) (by omega) (by omega) λ r a b c=>q r (by omega) (by omega) (λ k k1 k2=>?_)
   by_cases ek:k=m
   ·rw [ek];exact e
   ·exact c k (by omega) k2
  | false =>
   refine hc _ _ _ (h.inb (by omega)) (h.inb (by omega)) ?_
   have:=O.tri _ _ (h.inb (k:=m) (by omega)) (h.inb (k:=m - 1) (by omega)) (λ z=>by have:=h.inj (by omega) (by omega) z;omega) e
   rw [show lt (p.getD (m - 1) 0) (p.getD m 0)=true from this]
   exact q m (Nat.le_refl _) (by omega) (λ k a b=>by omega)
theorem zrf {p q:Array Nat} (h:Pm n p) (e:q.Perm p):Pm n q:=⟨(Array.perm_iff_toList_perm.mp e).trans h.pm⟩
theorem zku {p:Array Nat} (h:Pm n p) {m:Nat} (hm:m≤n) {k:Nat} (hk:k<n):at_ (kas_rev p 0 m) k=if k<m then at_ p (m - 1 - k) else at_ p k:=by
 have hs:=h.size
 have:=getElem?_mirror_all (xs:=p) (i:=0) (j:=m) (by omega) k
 unfold at_
 rw [Array.getD_eq_getD_getElem?,kas_rev,this]
 by_cases hkm:k<m
 ·rw [if_pos hkm,if_pos ⟨by omega,hkm⟩,Array.getD_eq_getD_getElem?,show 0+m - 1 - k=m - 1 - k by omega]
 ·rw [if_neg hkm,if_neg (by omega),Array.getD_eq_getD_getElem?]
theorem znr (O:Ord n lt) (hc:Asks n s cmp lt) {p:Array Nat} (h:Pm n p) {m:Nat} {Q:Nat×Array Nat→Shared→Prop} (h1:1≤m) (hm:m≤n) (hd:∀ k,1≤k→k<m→lt (at_ p k) (at_ p (k - 1))=true)
  (q:∀ r p',1≤r→r≤n→Pm n p'→Up lt p' r→Q (r,p') s):(kas_tail3 m n p).kasWp cmp Q s:=by
 have hp':Pm n (kas_rev p 0 m):=zrf h (mirror_perm _ _ _ _)
 unfold kas_tail3
 rw [KasT.kasWp_bind]
 refine zes hc hp' (n - m) m h1 (by omega) λ r a b c _=>q r _ (by omega) (by omega) hp' (zzk O hp' (by omega) λ k k1 k2=>?_)
 by_cases hk:k<m
 ·rw [zku h hm (by omega),zku h hm (by omega),if_pos (by omega),if_pos hk]
  have:=hd (m - 1 - (k - 1)) (by omega) (by omega)
  rw [show m - 1 - (k - 1) - 1=m - 1 - k by omega] at this
  exact this
 ·exact O.tri _ _ (hp'.inb (by omega)) (hp'.inb (by omega)) (λ z=>by have:=hp'.inj (by omega) (by omega) z;omega) (c k (by omega) k2)
theorem zoj (O:Ord n lt) (hc:Asks n s cmp lt) {p:Array Nat} (h:Pm n p) {Q:Nat×Array Nat→Shared→Prop} (h2:2≤n) (hd:lt (at_ p 1) (at_ p 0)=true)
  (q:∀ r p',1≤r→r≤n→Pm n p'→Up lt p' r→Q (r,p') s):(kas_descPart 1 n p).kasWp cmp Q s:=by
 unfold kas_descPart
 rw [KasT.kasWp_bind]
 refine zvq O hc h (n - 2) 2 (by omega) (by omega) λ r a b c=>?_
 show (kas_tail3 r n p).kasWp cmp Q s
 refine znr O hc h (by omega) (by omega) (λ k k1 k2=>?_) q
 by_cases e:k=1
 ·rw [e];exact hd
 ·exact c k (by omega) k2
theorem zkr (O:Ord n lt) (hc:Asks n s cmp lt) {p:Array Nat} (h:Pm n p) {Q:Nat×Array Nat→Shared→Prop} (h2:2≤n)
  (q:∀ r p',1≤r→r≤n→Pm n p'→Up lt p' r→Q (r,p') s):(kas_count n p).kasWp cmp Q s:=by
 unfold kas_count
 rw [KasT.kasWp_bind]
 refine zes hc h (n - 1) 1 (by omega) (by omega) λ r a b c d=>?_
 have up:Up lt p r:=zzk O h (by omega) λ k k1 k2=>O.tri _ _ (h.inb (by omega)) (h.inb (by omega)) (λ z=>by have:=h.inj (by omega) (by omega) z;omega) (c k k1 k2)
 by_cases e:r=n
 ·rw [if_pos (by simp [e])]
  exact q r p (by omega) (by omega) h up
 ·rw [if_neg (by simp [e])]
  by_cases e1:r > 1
  ·rw [if_pos e1]
   refine hc _ _ _ (h.inb (by omega)) (h.inb (by omega)) ?_
   have:=up 0 (r - 1) (by omega) (by omega)
   rw [show lt (p.getD 0 0) (p.getD (r - 1) 0)=true from this]
   exact q r p (by omega) (by omega) h up
  ·rw [if_neg e1]
   obtain rfl:r=1:=by omega
   exact zoj O hc h h2 (d (by omega)) q
theorem zwh (O:Ord n lt) (hc:Asks n s cmp lt) {p:Array Nat} (h:Pm n p) {k:Nat} (hk:k<n) (up:Up lt p k):∀ (f l r:Nat) {Q:Nat→Shared→Prop},l≤r→r≤k→r - l≤f →
  (∀ i,i<l→lt (at_ p k) (at_ p i)=false)→(∀ i,r≤i→i<k→lt (at_ p k) (at_ p i)=true) →
  (∀ l',l'≤k→(∀ i,i<l'→lt (at_ p k) (at_ p i)=false)→(∀ i,l'≤i→i<k→lt (at_ p k) (at_ p i)=true)→Q l' s)→(kas_place p k f l r).kasWp cmp Q s
 | 0,l,r,Q,h1,h2,h3,a,b,q=>q l (by omega) a λ i i1 i2=>b i (by omega) i2
 | f+1,l,r,Q,h1,h2,h3,a,b,q=>by
  unfold kas_place
  by_cases e:l ≥ r
  ·rw [if_pos e]
   exact q l (by omega) a λ i i1 i2=>b i (by omega) i2
  ·rw [if_neg e]
   refine hc _ _ _ (h.inb hk) (h.inb (by omega)) ?_
   cases e2:lt (p.getD k 0) (p.getD ((l+r) / 2) 0) with
   | true =>
    refine zwh O hc h hk up f l ((l+r) / 2) (by omega) (by omega) (by omega) a (λ i i1 i2=>?_) q
    by_cases ei:i=(l+r) / 2
    ·rw [ei];exact e2
    ·exact O.tr _ _ _ (h.inb hk) (h.inb (by omega)) (h.inb (by omega)) e2 (up _ _ (by omega) i2)
   | false =>
    refine zwh O hc h hk up f ((l+r) / 2+1) r (by omega) h2 (by omega) (λ i i1=>?_) b q
    have hm:=O.tri _ _ (h.inb hk) (h.inb (k:=(l+r) / 2) (by omega)) (λ z=>by have:=h.inj hk (by omega) z;omega) e2
    by_cases ei:i=(l+r) / 2
    ·rw [ei];exact e2
    ·exact O.asy _ _ (h.inb (by omega)) (h.inb hk) (O.tr _ _ _ (h.inb (by omega)) (h.inb (k:=(l+r) / 2) (by omega)) (h.inb hk) (up i _ (by omega) (by omega)) hm)
theorem zju {p:Array Nat} (h:Pm n p) {k l:Nat} (hk:k<n) (hl:l≤k) {i:Nat} (hi:i<n):at_ (bubble p k (k - l)) i=if i<l then at_ p i else if i=l then at_ p k else if i≤k then at_ p (i - 1) else at_ p i:=by
 have hs:=h.size
 have:=getElem?_bubble (xs:=p) (src:=k) (by omega) (k - l) (by omega) i
 unfold at_
 simp only [Array.getD_eq_getD_getElem?]
 rw [this]
 rw [show k - (k - l)=l by omega]
 by_cases e1:i<l
 ·rw [if_pos e1,if_neg (by omega),if_neg (by omega)]
 ·rw [if_neg e1]
  by_cases e2:i=l
  ·rw [if_pos e2,if_pos e2]
  ·rw [if_neg e2,if_neg e2]
   by_cases e3:i≤k
   ·rw [if_pos e3,if_pos ⟨by omega,e3⟩]
   ·rw [if_neg e3,if_neg (by omega)]
theorem zyt (O:Ord n lt) (hc:Asks n s cmp lt):∀ (f:Nat) (p:Array Nat) (k:Nat) {Q:Array Nat→Shared→Prop},Pm n p→k+f=n→Up lt p k→(∀ p',Pm n p'→Up lt p' n→Q p' s)→(kas_bin f p k).kasWp cmp Q s
 | 0,p,k,Q,h,hk,up,q=>by
  obtain rfl:k=n:=by omega
  exact q p h up
 | f+1,p,k,Q,h,hk,up,q=>by
  unfold kas_bin
  rw [KasT.kasWp_bind]
  have hkn:k<n:=by omega
  refine zwh O hc h hkn up k 0 k (by omega) (Nat.le_refl _) (by omega) (λ i z=>by omega) (λ i z z2=>by omega) λ l hl a b=>?_
  have hp':Pm n (bubble p k (k - l)):=zrf h (bubble_perm _ _ _)
  refine zyt O hc f _ (k+1) hp' (by omega) (λ i j hij hj=>?_) q
  rw [zju h hkn hl (by omega),zju h hkn hl (by omega)]
  have lo:∀ i,i<l→lt (at_ p i) (at_ p k)=true:=λ i hi=>O.tri _ _ (h.inb hkn) (h.inb (by omega)) (λ z=>by have:=h.inj hkn (by omega) z;omega) (a i hi)
  by_cases i1:i<l
  ·rw [if_pos i1]
   by_cases j1:j<l
   ·rw [if_pos j1];exact up i j hij (by omega)
   ·rw [if_neg j1]
    by_cases j2:j=l
    ·rw [if_pos j2];exact lo i i1
    ·rw [if_neg j2,if_pos (by omega)];exact up i (j - 1) (by omega) (by omega)
  ·rw [if_neg i1,if_neg (show ¬ j<l by omega),if_neg (show ¬ j=l by omega),if_pos (show j≤k by omega)]
   by_cases i2:i=l
   ·rw [if_pos i2];exact b (j - 1) (by omega) (by omega)
   ·rw [if_neg i2,if_pos (by omega)];exact up (i - 1) (j - 1) (by omega) (by omega)
theorem znm:Pm n (List.range n).toArray:=⟨by simp⟩
theorem zpv (O:Ord n lt) (hc:Asks n s cmp lt) (h2:2≤n) {Q:Array Nat→Shared→Prop} (q:∀ p',Pm n p'→Up lt p' n→Q p' s):(kas_sort n).kasWp cmp Q s:=by
 unfold kas_sort
 rw [KasT.kasWp_bind]
 refine zkr O hc znm h2 λ r p' a b hp up=>?_
 by_cases e:r<n
 ·show (if r<n then kas_bin (n - max r 1) p' (max r 1) else .ret p':KasT _).kasWp cmp Q s
  rw [if_pos e,show max r 1=r by omega]
  exact zyt O hc _ p' r hp (by omega) up q
 ·show (if r<n then kas_bin (n - max r 1) p' (max r 1) else .ret p':KasT _).kasWp cmp Q s
  rw [if_neg e]
  obtain rfl:r=n:=by omega
  exact q p' hp up
end
end L2
namespace L2
open PySem PySem.Spec PyProof.Rows PySem.NumText PySem.W
section
variable {prog:Program} {w:World} {A:Around} {E:Value→Shared→Prop} {s:Shared} {a:Addr} {vs:List Value} {lt:Nat→Nat→Bool}
noncomputable abbrev zkj (vs:List Value) (p:Array Nat):List Value:=p.toList.map λ i=>vs.getD i .none
theorem zdp (vs:List Value):zkj vs (List.range vs.length).toArray=vs:=by
 unfold zkj
 refine List.ext_getElem (by simp) λ i h1 h2=>?_
 simp only [List.getElem_map,List.getElem_range]
 simp [h2]
theorem zcm {c:Nat} {P:PySem.Fin→Shared→Prop} (ho:s.heap.get? a=some (seqObj "list" vs.toArray c)) (few:vs.length<64) (O:Ord vs.length lt)
  (hk:2≤vs.length→∀ h',(∀ b o,b≠a→s.heap.get? b=some o→h'.get? b=some o)→∃ κ,(∀ (R:SortKind→Shared→Prop) (E':Value→Shared→Prop),R κ { s with heap:=h' }→wpAny (model prog w) A (keyKind' vs.toArray) R E' { s with heap:=h' })∧Asks vs.length { s with heap:=h' } (kas_ask prog w A κ vs) lt)
  (h:∀ (p:Array Nat) (h':Heap) (c':Nat),Pm vs.length p→Up lt p vs.length→h'.get? a=some (seqObj "list" (zkj vs p).toArray c')→(∀ b o,b≠a→s.heap.get? b=some o→h'.get? b=some o)→P (.done (.ret .none)) { s with heap:=h' }) :
  wpAny (model prog w) A (Builtin.«list.sort» ⟨[.ref a],[]⟩) P E s:=by
 have la:a<s.heap.objs.size:=Heap.lt_size ho
 have line:vs.length≤sizeLine:=by rw [sizeLine_eq];omega
 obtain ⟨e1,ho1⟩:∃ e1,(s.heap.update a (Obj.mapSeq λ _=>(#[]:Array Value))).get? a=some (seqObj "list" #[] e1):=⟨_,get?_update_seq ho λ _ => #[]⟩
 generalize hh:((s.heap.update a (Obj.mapSeq λ _=>(#[]:Array Value))).push (seqObj "tuple" vs.toArray 0)).push (seqObj "list" #[] 0)=h3
 have keep3:∀ b o,b≠a→s.heap.get? b=some o→h3.get? b=some o:=λ b o nb q=>by
  rw [← hh]
  refine Heap.get?_push_of_some _ (Heap.get?_push_of_some _ ?_)
  rw [Heap.get?_update_other _ _ (Ne.symm nb)]
  exact q
 have at3:h3.get? a=some (seqObj "list" #[] e1):=by rw [← hh];exact Heap.get?_push_of_some _ (Heap.get?_push_of_some _ ho1)
 have fin:∀ (p:Array Nat),Pm vs.length p→Up lt p vs.length→P (.done (.ret .none)) { s with heap:=h3.update a (Obj.mapSeq λ _=>(zkj vs p).toArray) }:=λ p hp up=>by
  obtain ⟨c2,hc2⟩:∃ c2,(h3.update a (Obj.mapSeq λ _=>(zkj vs p).toArray)).get? a=some (seqObj "list" (zkj vs p).toArray c2):=⟨_,get?_update_seq at3 λ _=>(zkj vs p).toArray⟩
  refine h p _ c2 hp up hc2 λ b o nb q=>?_
  rw [Heap.get?_update_other _ _ (Ne.symm nb)]
  exact keep3 b o nb q
 rw [list_sort_plain]
 refine wpAny_bind (listItems_at ho rfl (wpAny_bind (listUpdate_at ho rfl ?_ (by rw [List.size_toArray];exact line) (Nat.zero_le _))))
 refine wpAny_bind (seqEpoch_at ho1 rfl (wpAny_bind (wpAny_newTuple (wpAny_bind (wpAny_newList (wpAny_holding ?_) (Nat.zero_le _))) line)))
 show wpAny (model prog w) A _ P E { s with heap:=((s.heap.update a (Obj.mapSeq λ _=>(#[]:Array Value))).push (seqObj "tuple" vs.toArray 0)).push (seqObj "list" #[] 0) }
 rw [hh]
 dsimp only
 by_cases few2:vs.toArray.size<2
 ·rw [if_pos few2,if_pos few2]
  refine wpAny_bind (wpAny_pure ?_)
  rw [StateT.run_pure]
  refine wpAny_bind (wpAny_pure ?_)
  dsimp only
  have hsz:vs.length<2:=by simpa using few2
  have e:(arrOf (SortSt.mk' general' (vs.toArray.zip vs.toArray) #[] 7 none)).map (·.2)=(zkj vs (List.range vs.length).toArray).toArray:=by
   rw [zdp]
   show (vs.toArray.zip vs.toArray).map (·.2)=vs.toArray
   refine Array.ext (by simp) λ i h1 h2=>?_
   simp
  refine wpAny_bind (seqEpoch_at at3 rfl (wpAny_bind (listUpdate_at at3 rfl ?_ (Nat.zero_le _) ?_)))
  ·simp only [bne_self_eq_false,Bool.false_eq_true,if_false]
   refine wpAny_pure ?_
   rw [e]
   exact fin _ znm λ i j hij hj=>by omega
  ·rw [e]
   simp only [zkj,List.size_toArray,List.length_map,List.length_range]
   omega
 ·rw [if_neg few2,if_neg few2]
  have two:2≤vs.length:=by
   have:¬ vs.length<2:=by simpa using few2
   omega
  obtain ⟨κ,kind,asks⟩:=hk two h3 keep3
  refine wpAny_bind (kind _ _ ?_)
  refine wpAny_bind (wpAny_mono (kat_run (Q:=λ st' s'=>s'={ s with heap:=h3 }∧∃ p:Array Nat,Pm vs.length p∧Up lt p vs.length∧arrOf st'=p.map (kas_item (vs.toArray.zip vs.toArray))∧failedOf st'=none)
   (G:=λ p s'=>s'={ s with heap:=h3 }∧Pm vs.length p∧Up lt p vs.length) rfl two few (λ p' st' s' _ a2 a3 a4=>⟨a4.1,p',a4.2.1,a4.2.2,a2,a3⟩) (zpv O asks two λ p' hp up=>⟨rfl,hp,up⟩)) ?_ λ _ _ e=>e)
  rintro ⟨⟨⟩,st'⟩ s' ⟨rfl,p,hp,up,har,hf⟩
  have e:=kat_snds rfl har
  dsimp only
  rw [e]
  refine wpAny_bind (seqEpoch_at at3 rfl (wpAny_bind (listUpdate_at at3 rfl ?_ (Nat.zero_le _) ?_)))
  ·rw [hf]
   simp only [bne_self_eq_false,Bool.false_eq_true,if_false]
   exact wpAny_pure (fin p hp up)
  ·rw [List.size_toArray,List.length_map,Array.length_toList,hp.size]
   omega
noncomputable def zqr (prog:Program) (w:World) (A:Around) (vs:List Value) (s:Shared) (Q:Value→Shared→Prop):Prop:=∃ lt,vs.length<64∧Ord vs.length lt ∧
 (2≤vs.length→∀ h',(∀ b o,s.heap.get? b=some o→h'.get? b=some o)→∃ κ,(∀ (R:SortKind→Shared→Prop) (E':Value→Shared→Prop),R κ { s with heap:=h' }→wpAny (model prog w) A.in1.in1 (keyKind' vs.toArray) R E' { s with heap:=h' })∧Asks vs.length { s with heap:=h' } (kas_ask prog w A.in1.in1 κ vs) lt) ∧
 ∀ (p:Array Nat) (h':Heap) (l c:Nat),Pm vs.length p→Up lt p vs.length→s.heap.objs.size≤l→h'.get? l=some (seqObj "list" (zkj vs p).toArray c)→(∀ b o,s.heap.get? b=some o→h'.get? b=some o)→Q (.ref l) { s with heap:=h' }
theorem zdd {x:Value} {Q:Value→Shared→Prop} (hc:wpAny (model prog w) A.in1 (collect x) (λ us s1=>zqr prog w A us s1 Q) E s) :
  wpAny (model prog w) A (call (.builtin "sorted") [x]) Q E s:=by
 refine Calls.call_function_entry kind_sorted plain_sorted entry_sorted (args_sorted1 _) ?_
 unfold Builtin.«sorted»
 refine wpAny_bind (m:=checkCount "sorted" 1 1 _) (wpAny_pure (wpAny_bind (wpAny_mono hc (λ us s1 hg=>?_) λ _ _ e=>e)))
 obtain ⟨lt,few,O,hk,h⟩:=hg
 have line:us.length≤sizeLine:=by rw [sizeLine_eq];omega
 refine wpAny_bind (wpAny_newList ?_ line)
 have at2:(s1.heap.push (seqObj "list" us.toArray 0)).get? s1.heap.objs.size=some (seqObj "list" us.toArray 0):=Heap.get?_push_size _ rfl
 have old:∀ b o,s1.heap.get? b=some o→b≠s1.heap.objs.size:=λ b o q=>Nat.ne_of_lt (Heap.lt_size q)
 refine wpAny_bind (wpAny_holding (wpAny_call_entry slot_list_sort ⟨_,at2,rfl⟩ entry_list_sort (zcm at2 few O (λ two h' kp=>hk two h' λ b o q=>kp b o (old b o q) (Heap.get?_push_of_some _ q)) λ p h' c hp up hl kp=>⟨_,rfl,?_⟩) (args_list_sort _)))
 exact wpAny_pure ⟨_,rfl,h p h' _ c hp up (Nat.le_refl _) hl λ b o q=>kp b o (old b o q) (Heap.get?_push_of_some _ q)⟩
end
end L2
namespace L2
open PySem PySem.Spec PyProof.Rows PySem.NumText PySem.W
section
variable {prog:Program} {w:World} {A:Around} {E:Value→Shared→Prop} {s:Shared}
theorem zge (hu:A.units+70<cLine) {b fin:Bool} {Q:Bool→Shared→Prop}:∀ (ds es:List PyData) (us ws:List Value) (as bs:List Addr) (i:Nat) (c:Bool),ReadsAll s.heap us ds as→ReadsAll s.heap ws es bs →
  PyData.canLayAll0 ds=true→PyData.canLayAll0 es=true→PyData.depthAll ds≤64→(b=true→i=0→∀ d e r t,ds=d::r→es=e::t→∃ m n,d = .int m∧e = .int n) →
  fin=decide (us.length<ws.length)→ltDs ds es=some c→Q c s→KatLex prog w A b fin Q (us.zip ws) i s
 | [],[],_,_,_,_,i,c,.nil,.nil,_,_,_,_,hf,hc,hq=>by
  cases hc
  subst hf
  exact kat_nil hq
 | [],e::es,_,_,_,_,i,c,.nil,.cons r rr,_,_,_,_,hf,hc,hq=>by
  cases hc
  subst hf
  refine kat_nil ?_
  simpa using hq
 | d::ds,[],_,_,_,_,i,c,.cons r rr,.nil,_,_,_,_,hf,hc,hq=>by
  cases hc
  subst hf
  rw [List.zip_nil_right]
  refine kat_nil ?_
  simpa using hq
 | d::ds,e::es,_,_,_,_,i,c,.cons (v:=u) (vs:=us) r rr,.cons (v:=x) (vs:=ws) q qq,la,lb,hd,hi,hf,hc,hq=>by
  rw [PyData.canLayAll0,Bool.and_eq_true] at la lb
  rw [PyData.depthAll] at hd
  rw [ltDs] at hc
  have d1:PyData.depth d≤64:=by omega
  have d2:PyData.depthAll ds≤64:=by omega
  have hmin:min d.depth e.depth≤d.depth:=Nat.min_le_left _ _
  refine kat_cons (SeqAt.eqAt_reads d e A s _ _ _ _ r q la.1 lb.1 (by omega) prog w _ _ ?_)
  cases he:PyData.eqv d e with
  | true =>
   rw [he,if_pos rfl] at hc
   refine kat_yes (zge hu ds es us ws _ _ (i+1) c rr qq la.2 lb.2 d2 (λ _ z=>by omega) ?_ hc hq)
   rw [hf]
   exact decide_eq_decide.mpr (by simp)
  | false =>
   rw [he,if_neg Bool.false_ne_true] at hc
   refine kat_no ?_
   cases hb:(b && i == 0) with
   | false=>exact kat_one _ _ ((zid 64 d e c A s _ _ _ _ d1 r q la.1 lb.1 hc (by omega)).1 prog w _ _ (show W.BoolBack Q (.bool c) s from hq))
   | true =>
    rw [Bool.and_eq_true] at hb
    obtain ⟨m,n,rfl,rfl⟩:=hi hb.1 (by simpa using hb.2) d e ds es rfl rfl
    cases r
    cases q
    have hc:decide (m<n)=c:=by simpa [ltD] using hc
    subst hc
    exact oneLt_int hq
inductive FirstTy | int | tup
noncomputable def FirstTy.ty:FirstTy→Value
 | .int=>.type "int"
 | .tup=>.type "tuple"
noncomputable def FirstTy.of:FirstTy→PyData→Prop
 | .int,d=>∃ n,d = .int n
 | .tup,d=>∃ l,d = .tuple l
theorem zgh {h:Heap} {v:Value} {d:PyData} {as:List Addr} (r:Reads h v d as) {f:FirstTy} (hf:f.of d):Looks (model prog w) h (typeOf v) f.ty:=by
 cases f with
 | int =>
  obtain ⟨n,rfl⟩:=hf
  cases r
  exact λ A Q E s _ q=>wpAny_pure q
 | tup =>
  obtain ⟨l,rfl⟩:=hf
  cases r with
  | tuple h1 h2 h3 h4 =>
   have:=(show Looks (model prog w) h (typeOf (.ref _)) _ from (Looks.ld h1).andThen .now)
   rw [h2] at this
   exact this
theorem zsq {prog:Program} {w:World} {h:Heap} {f:FirstTy}:∀ {vs:List Value} {ds:List PyData} {as:List Addr},ReadsAll h vs ds as→(∀ d∈ds,∃ x r,d = .tuple (x::r)∧f.of x)→∃ fs,KatTups h vs fs∧fs.length=vs.length∧∀ v∈fs,Looks (model prog w) h (typeOf v) f.ty
 | _,_,_,.nil,_=>⟨[],trivial,rfl,λ _ z=>nomatch z⟩
 | _,_,_,.cons r rr,hd=>by
  obtain ⟨fs,k,l,t⟩:=zsq (prog:=prog) (w:=w) rr λ d hm=>hd d (List.mem_cons_of_mem _ hm)
  obtain ⟨x,rest,rfl,hx⟩:=hd _ List.mem_cons_self
  cases r with
  | @tuple a o vs n xs as h1 h2 h3 h4 =>
   have h4':=h4
   generalize hvs:vs.toList=vl at h4
   cases h4 with
   | @cons y ys _ _ _ _ ry rys =>
    refine ⟨y::fs,⟨⟨_,_,_,_,rfl,h1,h2,h3,?_⟩,k⟩,by simp [l],λ v hv=>?_⟩
    ·rw [← Array.getElem?_toList,hvs];rfl
    ·rcases List.mem_cons.mp hv with rfl | hv
     ·exact zgh ry hx
     ·exact t v hv
end
theorem zlc {h:Heap}:∀ {vs:List Value} {ds:List PyData} {as:List Addr},ReadsAll h vs ds as→∀ {i:Nat} {d:PyData},ds[i]? = some d→∃ v bs,vs[i]? = some v∧Reads h v d bs
 | _,_,_,.nil,i,d,e=>by simp at e
 | _,_,_,.cons r rr,0,d,e=>by
  have e:=Option.some.inj e
  subst e
  exact ⟨_,_,rfl,r⟩
 | _,_,_,.cons r rr,i+1,d,e=>by
  obtain ⟨v,bs,h1,h2⟩:=zlc rr (i:=i) (d:=d) (by simpa using e)
  exact ⟨v,bs,by simpa using h1,h2⟩
theorem znd {h:Heap}:∀ {vs:List Value} {ds:List PyData} {as:List Addr},ReadsAll h vs ds as→vs.length=ds.length
 | _,_,_,.nil=>rfl
 | _,_,_,.cons r rr=>by rw [List.length_cons,List.length_cons,znd rr]
structure Srt {α:Type} (as:List α) (enc:α→List PyData) (lt:α→α→Bool) (f:FirstTy):Prop where
 sto:STO lt
 few:as.length<64
 nd:as.Nodup
 lts:∀ a∈as,∀ b∈as,ltDs (enc a) (enc b)=some (lt a b)
 fst:∀ a∈as,∃ x r,enc a=x::r∧f.of x
 shp:∀ a∈as,SeqAt.shaped (.tuple (enc a))=true
section
variable {α:Type} {as:List α} {enc:α→List PyData} {lt:α→α→Bool} {f:FirstTy}
theorem Srt.ord (S:Srt as enc lt f) (d:α):Ord as.length (λ i j=>lt (as.getD i d) (as.getD j d)) where
 tr:=λ a b c _ _ _ h1 h2=>S.sto.tr _ _ _ h1 h2
 tri:=λ a b ha hb hn h=>S.sto.tri _ _ (λ e=>hn (by
  rw [List.getD_eq_getElem?_getD,List.getD_eq_getElem?_getD,List.getElem?_eq_getElem ha,List.getElem?_eq_getElem hb] at e
  have e:as[a]=as[b]:=e
  have pw:=List.pairwise_iff_getElem.mp S.nd
  rcases Nat.lt_trichotomy a b with z | z | z
  ·exact absurd e (pw a b ha hb z)
  ·exact z
  ·exact absurd e.symm (pw b a hb ha z))) h
 asy:=λ a b _ _ h=>S.sto.asym h
theorem Srt.go (S:Srt as enc lt f) (d:α) {prog:Program} {w:World} {A:Around} {s:Shared} {us:List Value} {bs:List Addr} {Q:Value→Shared→Prop} (hu:A.units+80<cLine) (r:ReadsAll s.heap us (as.map λ a=>.tuple (enc a)) bs)
  (q:∀ (p:Array Nat) (h':Heap) (l c:Nat),Pm as.length p→(p.toList.map λ i=>as.getD i d).Pairwise (λ a b=>lt a b=true)→(p.toList.map λ i=>as.getD i d).Perm as→s.heap.objs.size≤l→h'.get? l=some (seqObj "list" (zkj us p).toArray c)→(∀ b o,s.heap.get? b=some o→h'.get? b=some o)→Q (.ref l) { s with heap:=h' }) :
  zqr prog w A us s Q:=by
 have hl:us.length=as.length:=by rw [znd r,List.length_map]
 refine ⟨λ i j=>lt (as.getD i d) (as.getD j d),by rw [hl];exact S.few,by rw [hl];exact S.ord d,λ two h' kp=>?_,λ p h' l c hp up hlt hat kp=>?_⟩
 ·have r':=zcb kp r
  obtain ⟨fs,k,lf,tf⟩:=zsq (prog:=prog) (w:=w) (f:=f) r' (λ x hx=>by
   obtain ⟨a,ha,rfl⟩:=List.mem_map.mp hx
   obtain ⟨y,t,e,hy⟩:=S.fst a ha
   exact ⟨y,t,by rw [e],hy⟩)
  refine ⟨tuples' (f.ty != .type "tuple"),λ R E' hR=>kat_kind (s:={ s with heap:=h' }) k (by omega) tf (by cases f <;> decide) hR,λ i j C hi hj hC=>?_⟩
  rw [hl] at hi hj
  have gi:as[i]? = some as[i]:=List.getElem?_eq_getElem hi
  have gj:as[j]? = some as[j]:=List.getElem?_eq_getElem hj
  have mi:=List.getElem_mem hi
  have mj:=List.getElem_mem hj
  have ei:as.getD i d=as[i]:=by rw [List.getD_eq_getElem?_getD,gi];rfl
  have ej:as.getD j d=as[j]:=by rw [List.getD_eq_getElem?_getD,gj];rfl
  dsimp only at hC
  rw [ei,ej] at hC
  obtain ⟨v,b1,hv,rv⟩:=zlc r' (i:=i) (d := .tuple (enc as[i])) (by rw [List.getElem?_map,gi];rfl)
  obtain ⟨x,b2,hx,rx⟩:=zlc r' (i:=j) (d := .tuple (enc as[j])) (by rw [List.getElem?_map,gj];rfl)
  have evi:us.getD i .none=v:=by rw [List.getD_eq_getElem?_getD,hv];rfl
  have evj:us.getD j .none=x:=by rw [List.getD_eq_getElem?_getD,hx];rfl
  unfold kas_ask
  rw [evi,evj]
  generalize as[i]=a at *
  generalize as[j]=b at *
  have sa:=S.shp a mi
  have sb:=S.shp b mj
  have la:PyData.canLayAll0 (enc a)=true:=SeqAt.canLay_of_shaped sa
  have lb:PyData.canLayAll0 (enc b)=true:=SeqAt.canLay_of_shaped sb
  have da:PyData.depth (.tuple (enc a))≤64:=SeqAt.depth_of_shaped sa
  have da:PyData.depthAll (enc a)+1≤64:=da
  have first:∀ d e r t,enc a=d::r→enc b=e::t→f = .int→∃ m n,d = .int m∧e = .int n:=λ d e r t e1 e2 hf=>by
   subst hf
   obtain ⟨y,t1,e3,m,hm⟩:=S.fst a mi
   obtain ⟨z,t2,e4,n,hn⟩:=S.fst b mj
   rw [e1] at e3
   rw [e2] at e4
   cases e3
   cases e4
   exact ⟨m,n,hm,hn⟩
  cases rv with
  | @tuple l1 o1 x1 n1 _ _ h1 h2 h3 h4 =>
   cases rx with
   | @tuple l2 o2 x2 n2 _ _ g1 g2 g3 g4 =>
    refine kat_lt h1 h3 g1 g3 (zge (by show A.units+1+1+70<cLine;omega) _ _ _ _ _ _ 0 (lt a b) h4 g4 la lb (by omega) (λ hb _ d e r t e1 e2=>first d e r t e1 e2 ?_) (by simp) (S.lts a mi b mj) hC)
    cases f with
    | int=>rfl
    | tup=>exact absurd hb (by decide)
 ·rw [hl] at hp up
  refine q p h' l c hp ?_ ?_ hlt hat kp
  ·rw [List.pairwise_iff_getElem]
   intro i j hi hj hij
   simp only [List.length_map,Array.length_toList] at hi hj
   have hs:=hp.size
   have:=up i j hij (by omega)
   rw [List.getElem_map,List.getElem_map]
   rw [zpu (by omega),zpu (by omega)] at this
   simpa using this
  ·have h1:=hp.pm.map (λ i=>as.getD i d)
   refine h1.trans ?_
   have:(List.range as.length).map (λ i=>as.getD i d)=as:=by
    refine List.ext_getElem (by simp) λ i h1 h2=>?_
    simp [h2]
   rw [this]
end
end L2
namespace L2
open PySem PySem.Spec PyProof.Rows PySem.NumText PySem.W
section
variable {X:Cx}
theorem zan {K:W.Frag} {H:Hp} {α:Type} {as:List α} {en:α→PyData} {vs:List V} (h:DVs K H (as.map en) vs) (d:α):∀ (is:List Nat),(∀ i∈is,i<as.length)→DVs K H ((is.map λ i=>as.getD i d).map en) (is.map λ i=>vs.getD i .non)
 | [],_=>rfl
 | i::is,hi=>by
  have h1:=hi i List.mem_cons_self
  obtain ⟨v,hv,hd⟩:=h.get (i:=i) (d:=en as[i]) (by rw [List.getElem?_map,List.getElem?_eq_getElem h1];rfl)
  have e1:as.getD i d=as[i]:=by rw [List.getD_eq_getElem?_getD,List.getElem?_eq_getElem h1];rfl
  have e2:vs.getD i .non=v:=by rw [List.getD_eq_getElem?_getD,hv];rfl
  refine ⟨v,_,?_,?_,zan h d is λ j hj=>hi j (List.mem_cons_of_mem _ hj)⟩
  ·rw [List.map_cons,e2]
  ·show DV K H (en (as.getD i d)) v
   rw [e1]
   exact hd
theorem zai {vs:List V} {us:List Value} (r:Vals vs us):∀ (is:List Nat),(∀ i∈is,i<vs.length)→Vals (is.map λ i=>vs.getD i .non) (is.map λ i=>us.getD i .none)
 | [],_=>.nil
 | i::is,hi=>by
  have h1:=hi i List.mem_cons_self
  obtain ⟨u,hu,ru⟩:=r.get (i:=i) (x:=vs[i]) (List.getElem?_eq_getElem h1)
  have e1:vs.getD i .non=vs[i]:=by rw [List.getD_eq_getElem?_getD,List.getElem?_eq_getElem h1];rfl
  have e2:us.getD i .none=u:=by rw [List.getD_eq_getElem?_getD,hu];rfl
  rw [List.map_cons,List.map_cons,e1,e2]
  exact .cons ru (zai r is λ j hj=>hi j (List.mem_cons_of_mem _ hj))
noncomputable def ziz (K:W.Frag) (H:Hp) {α:Type} (as:List α) (enc:α→List PyData) (lt:α→α→Bool) (Q:VK):Prop :=
 ∀ (l:Addr) (bs:List α) (ws:List V),H l=none→bs.Perm as→bs.Pairwise (λ a b=>lt a b=true)→DVs K H (bs.map λ a=>.tuple (enc a)) ws→Q (.ref l) (upd H l (.lst ws))
theorem zpq {pins:List (Addr×Obj)} {s s1:Shared} {σ:St} {H:Hp} {Q:VK} {α:Type} {as:List α} {enc:α→List PyData} {lt:α→α→Bool} {f:FirstTy} {vs:List V} {us:List Value} (hu:X.A.units+100<cLine) (S:Srt as enc lt f)
  (I:Inv X pins σ H s1) (r:Vals vs us) (hd:DVs X.K H (as.map λ a=>.tuple (enc a)) vs) (q:ziz X.K H as enc lt Q):zqr X.prog X.w X.A us s1 (EP X pins σ Q):=by
 obtain ⟨bs,ra⟩:=DVs.reads I _ _ _ hd r
 have hl:vs.length=as.length:=by rw [hd.length,List.length_map]
 have lay:∀ (p:Array Nat) (d:α) (h':Heap) (l c:Nat),Pm as.length p→(p.toList.map λ i=>as.getD i d).Pairwise (λ a b=>lt a b=true)→(p.toList.map λ i=>as.getD i d).Perm as→s1.heap.objs.size≤l →
   h'.get? l=some (seqObj "list" (zkj us p).toArray c)→(∀ b o,s1.heap.get? b=some o→h'.get? b=some o)→EP X pins σ Q (.ref l) { s1 with heap:=h' }:=λ p d h' l c hp pw pm hle hat kp=>by
  have hin:∀ i∈p.toList,i<as.length:=λ i hi=>by simpa using hp.pm.mem_iff.mp hi
  have hn:=I.hok.fresh hle
  refine ⟨.ref l,_,I.laid (t':=s1.toks) (o := .lst (p.toList.map λ i=>vs.getD i .non)) kp hle ⟨?_,_,c,zai r p.toList (λ i hi=>by rw [hl];exact hin i hi),hat⟩,rfl,q l _ _ hn pm pw (zan hd d p.toList hin)⟩
  rw [List.length_map,Array.length_toList,hp.size,sizeLine_eq]
  have:=S.few
  omega
 cases has:as with
 | nil =>
  have hus:us.length=0:=by rw [← r.length,hl,has];rfl
  refine ⟨λ _ _=>false,by omega,⟨λ a b c ha=>by omega,λ a b ha=>by omega,λ a b ha=>by omega⟩,λ two=>by omega,λ p h' l c hp up hle hat kp=>?_⟩
  have hp0:p.toList=[]:=by
   have:=hp.pm
   rw [hus] at this
   exact List.perm_nil.mp this
  have hn:=I.hok.fresh hle
  refine ⟨.ref l,_,I.laid (t':=s1.toks) (o := .lst []) kp hle ⟨Nat.zero_le _,_,c,.nil,?_⟩,rfl,q l [] [] hn (by rw [has]) .nil rfl⟩
  rw [hat,zkj,hp0]
  rfl
 | cons d rest =>
  exact S.go d (by omega) ra λ p h' l c hp pw pm hle hat kp=>lay p d h' l c hp pw pm hle hat kp
noncomputable def zgt (K:W.Frag):List V→Hp→VK→Prop:=λ xs H Q=>∃ (α:Type) (as:List α) (enc:α→List PyData) (lt:α→α→Bool) (f:FirstTy) (p:Addr) (vs:List V),xs=[.ref p]∧SqL K H p vs∧DVs K H (as.map λ a=>.tuple (enc a)) vs∧Srt as enc lt f∧ziz K H as enc lt Q
theorem zvd (hu:X.A.units+100<cLine):zrj X (.builtin "sorted") (zgt X.K):=by
 intro pins s σ H xs us Q I r h
 obtain ⟨α,as,enc,lt,f,p,vs,rfl,hq,hd,S,q⟩:=h
 obtain ⟨u,rfl,rx⟩:=zil r
 cases rx
 obtain ⟨its,rv,pl,hz⟩:=I.list hq
 refine zdd (collect_list pl.isList ?_ (by rw [← rv.length];exact hz))
 have kp:∀ b o,s.heap.get? b=some o→((s.heap.push (seqObj "list" #[] 0)).update s.heap.objs.size (Obj.mapSeq (· ++ its.toArray))).get? b=some o:=λ b o e=>by
  rw [Heap.get?_update_other _ _ (Nat.ne_of_gt (Heap.lt_size e))]
  exact Heap.get?_push_of_some _ e
 exact zpq (s:=s) hu S (I.kept (t':=s.toks) kp) rv hd q
end
end L2
namespace L2
open PySem PySem.Spec PyProof.Rows PySem.NumText
noncomputable abbrev Mark:=Int×Int
noncomputable abbrev Ent:=Mark×Addr×V
noncomputable def mkK (m:Mark):List Key:=[.inl m.1,.inl m.2]
noncomputable def mkV (m:Mark):List V:=[.int m.1,.int m.2]
theorem zjq {a b:Mark} (h:mkK a=mkK b):a=b:=by
 unfold mkK at h
 have h1:=(List.cons.inj h).1
 have h2:=(List.cons.inj (List.cons.inj h).2).1
 exact Prod.ext (Sum.inl.inj h1) (Sum.inl.inj h2)
noncomputable def EntR (e:Ent) (x:List Key×Addr×Value):Prop:=x.1=mkK e.1∧x.2.1=e.2.1∧RelV e.2.2 x.2.2
noncomputable abbrev dK (P:Program) (w:World):=tupleKind (zqg P w)
noncomputable def dOk (P:Program) (w:World) (a:Addr) (es:List Ent) (o:Obj) (h:Heap):Prop:=es.length≤sizeLine∧(a == sysModules)=false∧h.get? a=some o∧∃ xs,Paired EntR es xs ∧
 ∃ ds ep,o.ExactDict∧o.data = .dict ds ep∧ds.toList=xs.map (entryOfKey (dK P w))∧(xs.map (·.1)).Nodup
noncomputable def dO (P:Program) (w:World) (a:Addr) (es:List Ent) (o:Obj):HO := .ext (dOk P w a es o)
noncomputable def zmp:List Ent→Mark→Option V
 | [],_=>none
 | e::es,m=>if e.1=m then some e.2.2 else zmp es m
theorem zfm:∀ {es:List Ent} {xs:List (List Key×Addr×Value)},Paired EntR es xs→∀ m,RelO (zmp es m) ((atKey xs (mkK m)).map (·.2))
 | _,_,.nil,m=>trivial
 | e::es,x::xs,.cons r rr,m=>by
  unfold zmp atKey
  rw [List.find?_cons]
  by_cases h:e.1=m
  ·rw [if_pos h,show decide (x.1=mkK m)=true from decide_eq_true (by rw [r.1,h])]
   exact r.2.2
  ·rw [if_neg h,show decide (x.1=mkK m)=false from decide_eq_false (by rw [r.1];exact λ z=>h (zjq z))]
   exact zfm rr m
theorem zqt {a:Option V} {b:Option Value} (h:RelO a b):a.isSome=b.isSome:=by
 cases a <;> cases b <;> first | rfl | exact h.elim
noncomputable def putM (es:List Ent) (m:Mark) (q:Addr) (v:V):List Ent:=if (zmp es m).isSome then es.map (λ e=>if e.1=m then (e.1,e.2.1,v) else e) else es++[(m,q,v)]
theorem zat {es:List Ent} {xs:List (List Key×Addr×Value)} (r:Paired EntR es xs) (m:Mark) {q:Addr} {v:V} {u:Value} (rv:RelV v u):Paired EntR (putM es m q v) (storedH xs (mkK m) q u):=by
 have hi:(zmp es m).isSome=(atKey xs (mkK m)).isSome:=by rw [zqt (zfm r m),Option.isSome_map]
 unfold putM storedH
 rw [hi]
 by_cases h:(atKey xs (mkK m)).isSome=true
 ·rw [if_pos h,if_pos h]
  clear hi h
  induction r with
  | nil=>exact .nil
  | @cons e x es xs a b ih =>
   rw [List.map_cons,List.map_cons]
   refine .cons ?_ ih
   unfold putAt
   by_cases he:e.1=m
   ·rw [if_pos he,if_pos (by rw [a.1,he])]
    exact ⟨a.1,a.2.1,rv⟩
   ·rw [if_neg he,if_neg (by rw [a.1];exact λ z=>he (zjq z))]
    exact a
 ·rw [if_neg h,if_neg h]
  exact Paired.snoc r ⟨rfl,rfl,rv⟩
theorem zgr (es:List Ent) (m:Mark) (q:Addr) (v:V):(putM es m q v).length≤es.length+1:=by
 unfold putM
 split
 ·rw [List.length_map];omega
 ·rw [List.length_append];exact Nat.le_refl _
section
variable {X:Cx} {pins:List (Addr×Obj)} {σ:St} {H:Hp} {s:Shared} {a:Addr} {es:List Ent}
theorem zqs {P:Program} {w:World} {m:Mark} {us:List Value} (r:Vals (mkV m) us):ItemsAre (zqg P w) (mkK m) us:=by
 unfold mkV at r
 cases r with
 | cons r1 r2 =>
  cases r2 with
  | cons r3 r4 =>
   cases r4
   obtain ⟨t,rfl⟩:=r1
   obtain ⟨u,rfl⟩:=r3
   exact .cons (zfe P w m.1 t) (.cons (zfe P w m.2 u) .nil)
theorem Inv.mark (I:Inv X pins σ H s) {q:Addr} {m:Mark} (h:SqT X.K H q (mkV m)):(dK X.prog X.w).is s.heap (mkK m) q:=by
 obtain ⟨its,r,⟨o,h1,h2,n,h3⟩,hz⟩:=I.tuple h
 exact ⟨o,its.toArray,n,h1,h2,h3,by simpa using zqs r⟩
theorem zb0 {P:Program} {w:World} {H:Hp} {h:Heap} {a:Addr} {es:List Ent} {xs:List (List Key×Addr×Value)} (z:es.length≤sizeLine) (y:(a == sysModules)=false) (r:Paired EntR es xs) (d:h.DictOfH (dK P w) a xs):∃ o,ObjOk P w (upd H a (dO P w a es o)) h a (dO P w a es o):=by
 obtain ⟨o,ds,ep,h1,h2,h3,h4,_,h5⟩:=d
 exact ⟨o,⟨z,y,h1,xs,r,ds,ep,h2,h3,h4,h5⟩,⟨o,h1⟩,λ h1' h2' ⟨z,y,g1,g2⟩ k=>⟨z,y,k o g1,g2⟩⟩
theorem Inv.bigM (I:Inv X pins σ H s):sysModules<s.heap.objs.size:=Nat.lt_trans (by decide) (I.mod.glob.keeps I.bk).lt
variable {o i e value:Expr} {pos pos':Pos} {td ty tv:TE}
end
end L2
namespace L2
open PySem PySem.Spec PyProof.Rows PySem.NumText
noncomputable def RawD (h:Heap) (d:Addr) (ds:Array DictEntry) (ep:Nat):Prop:=∃ o,h.get? d=some o∧o.cls = .type "dict" ∧ o.data = .dict ds ep
noncomputable def zze (d:Addr) (i n ep:Nat) (first:Value) (f:Bool) (ok ov:Value):Obj:={ cls := .type "dict_itemiterator",data := .fields #[first,.bool f,.ref d,.int i 0,.int n 0,.int ep 0,ok,ov] }
section
variable {prog:Program} {w:World} {A:Around} {E:Value→Shared→Prop} {s:Shared} {d it v:Addr} {ds:Array DictEntry} {ep i:Nat} {ok ov:Value}
theorem zxd:Builtin.Dict_items.ownsTuple "dict_itemiterator" = true:=by decide
theorem zvg {Q:Value→Shared→Prop} (hv:s.heap.IsItemsView v d) (hd:RawD s.heap d ds ep)
  (k:Q (.ref s.heap.objs.size) { s with heap:=s.heap.push (zze d 0 ds.size ep .none false .none .none) }) :
  wpAny (model prog w) A (pyIter (.ref v)) Q E s:=by
 obtain ⟨vo,v1,v2,v3⟩:=id hv
 obtain ⟨o,d1,d2,d3⟩:=hd
 refine wpAny_pyIter_slot hv.typeIs F.slot_dict_items_iter (wpAny_call_entry F.slot_dict_items_iter hv.typeIs F.entry_dict_items_iter ?_ (F.args_dict_items_iter_1 _))
 unfold Builtin.«dict_items.__iter__» Builtin.Dict_items.dictOf Builtin.Dict_items.newIterator
 refine wpAny_bind (wpAny_pure (wpAny_bind (wpAny_bind (wpAny_field v1 v3 (x := .ref d) rfl (wpAny_pure (wpAny_bind (wpAny_bind (wpAny_dictEntries d1 d3 (wpAny_bind (wpAny_dictEpoch d1 d3 ?_))))))))))
 simp only [zxd,if_true]
 refine wpAny_newObj_type (wpAny_pure ⟨_,rfl, "dict_itemiterator",_,⟨_,Heap.get?_push_size _ rfl,rfl⟩,F.slot_dict_itemiterator_next.lookup,?_⟩) ?_
 ·simpa [rawInt,Builtin.Dict_items.ownedTupleFields,zze] using k
 ·simp only [sizeOk,Builtin.Dict_items.ownedTupleFields,List.size_toArray,List.length_append,List.length_cons,List.length_nil,sizeLine_eq]
  omega
theorem zci {Q:Option Value→Shared→Prop} {e:DictEntry} (hi:s.heap.get? it=some (zze d i ds.size ep .none false ok ov)) (hd:RawD s.heap d ds ep) (he:ds[i]? = some e)
  (k:∀ h',h'.get? it=some (zze d (i+1) ds.size ep (rawInt s.heap.objs.size) false e.key e.val)→h'.get? s.heap.objs.size=some { cls := .type "tuple",data := .seq #[e.key,e.val] }→h'.objs.size=s.heap.objs.size+1 →
   (∀ b o,b≠it→s.heap.get? b=some o→h'.get? b=some o)→Q (some (.ref s.heap.objs.size)) { s with heap:=h' }):wpAny (model prog w) A (pyNext (.ref it)) Q E s:=by
 obtain ⟨o,d1,d2,d3⟩:=hd
 have ty:s.TypeIs (.ref it) "dict_itemiterator" := ⟨_,hi,rfl⟩
 unfold pyNext
 refine wpAny_bind (wpAny_attempt (wpAny_callSpecial?_slot ty F.slot_dict_itemiterator_next (wpAny_call_entry F.slot_dict_itemiterator_next ty F.entry_dict_itemiterator_next ?_ (F.args_dict_itemiterator_next_1 _))))
 unfold Builtin.«dict_itemiterator.__next__»
 refine wpAny_bind (wpAny_pure (wpAny_bind (wpAny_bind (wpAny_bind (wpAny_typeNameOfWhole_itemiter ty (wpAny_pure (wpAny_bind (wpAny_fieldsOf hi rfl ?_))))))))
 simp only [zxd,if_true]
 have e1:(Value.ref d == Value.none)=false:=rfl
 dsimp only [List.drop,List.take]
 rw [if_neg (by rw [e1];exact Bool.false_ne_true)]
 refine wpAny_bind (wpAny_pure (wpAny_bind (wpAny_dictEntries d1 d3 ?_)))
 rw [if_neg (by simp)]
 refine wpAny_bind (wpAny_pure (wpAny_bind (wpAny_dictEpoch d1 d3 ?_)))
 rw [if_neg (by simp)]
 refine wpAny_pure ?_
 dsimp only
 rw [if_neg (by omega),Int.toNat_natCast,he]
 dsimp only
 refine wpAny_bind (wpAny_bind (wpAny_typeNameOfWhole_itemiter ty (wpAny_pure ?_)))
 refine wpAny_bind (wpAny_isOneOf_itemiter ty ?_)
 simp only [zxd,if_true]
 rw [if_neg (by decide)]
 refine wpAny_bind (wpAny_setField_rec (k:=3) hi (by show 3<8;decide) λ h1 g1 sb1=>?_)
 have g1:h1.get? it=some (zze d (i+1) ds.size ep .none false ok ov):=g1
 have ty1:({ s with heap:=h1 }:Shared).TypeIs (.ref it) "dict_itemiterator" := ⟨_,g1,rfl⟩
 refine wpAny_bind (wpAny_holding (wpAny_bind (wpAny_isOneOf_itemiter ty1 ?_)))
 rw [if_neg (by decide)]
 refine wpAny_bind (wpAny_isOneOf_itemiter ty1 ?_)
 rw [if_neg (by decide)]
 unfold Builtin.Dict_items.pairFromOwner
 refine wpAny_bind (wpAny_newTuple ?_)
 have hz:h1.objs.size=s.heap.objs.size:=sb1.1
 obtain ⟨h2,hh2⟩:∃ h2,h2=h1.push { cls := .type "tuple",data := .seq [e.key,e.val].toArray }:=⟨_,rfl⟩
 dsimp only
 rw [← hh2]
 have g2:h2.get? it=some (zze d (i+1) ds.size ep .none false ok ov):=by rw [hh2];exact Heap.get?_push_of_some _ g1
 have t2:h2.get? h1.objs.size=some { cls := .type "tuple",data := .seq [e.key,e.val].toArray }:=by rw [hh2];exact Heap.get?_push_size _ rfl
 have z2:h2.objs.size=s.heap.objs.size+1:=by rw [hh2,Heap.size_push,hz]
 have nit:h1.objs.size≠it:=Nat.ne_of_gt (Heap.lt_size g1)
 unfold Builtin.Dict_items.ownedTupleIsFree
 refine wpAny_bind (wpAny_bind (wpAny_field g2 rfl (x := .none) rfl (wpAny_pure ?_)))
 rw [if_pos rfl]
 refine wpAny_bind (wpAny_field g2 rfl (x:=ok) rfl (wpAny_bind (wpAny_field g2 rfl (x:=ov) rfl ?_)))
 refine wpAny_bind (wpAny_setField_rec (k:=6) g2 (by show 6<8;decide) λ h3 g3 sb3=>?_)
 refine wpAny_bind (wpAny_setField_rec (k:=7) g3 (by show 7<8;decide) λ h4 g4 sb4=>?_)
 refine wpAny_bind (wpAny_setField_rec (k:=0) g4 (by show 0<8;decide) λ h5 g5 sb5=>?_)
 refine wpAny_bind (wpAny_setField_rec (k:=1) g5 (by show 1<8;decide) λ h6 g6 sb6=>?_)
 refine wpAny_bind (wpAny_letGo (wpAny_pure (wpAny_pure ⟨_,rfl,wpAny_pure ?_⟩)))
 have kp:∀ b o,b≠it→h2.get? b=some o→h6.get? b=some o:=λ b o hb q=>(sb6.2 b hb).trans ((sb5.2 b hb).trans ((sb4.2 b hb).trans ((sb3.2 b hb).trans q)))
 rw [hz]
 refine k h6 ?_ ?_ ?_ λ b o hb q=>kp b o hb ?_
 ·rw [← hz];exact g6
 ·rw [← hz];exact kp _ _ nit t2
 ·rw [sb6.1,sb5.1,sb4.1,sb3.1];exact z2
 ·rw [hh2];exact Heap.get?_push_of_some _ ((sb1.2 b hb).trans q)
theorem zmn {Q:Option Value→Shared→Prop} {e:DictEntry} {a:Addr} {f:Bool} {oa:Obj} (hi:s.heap.get? it=some (zze d i ds.size ep (rawInt a) f ok ov)) (ha:s.heap.get? a=some oa) (hn:a≠it) (hd:RawD s.heap d ds ep) (he:ds[i]? = some e)
  (k:∀ h',h'.get? it=some (zze d (i+1) ds.size ep (rawInt a) true ok ov)→h'.get? s.heap.objs.size=some { cls := .type "tuple",data := .seq #[e.key,e.val] }→h'.objs.size=s.heap.objs.size+1 →
   (∀ b o,b≠it→s.heap.get? b=some o→h'.get? b=some o)→Q (some (.ref s.heap.objs.size)) { s with heap:=h' }):wpAny (model prog w) A (pyNext (.ref it)) Q E s:=by
 obtain ⟨o,d1,d2,d3⟩:=hd
 have ty:s.TypeIs (.ref it) "dict_itemiterator" := ⟨_,hi,rfl⟩
 unfold pyNext
 refine wpAny_bind (wpAny_attempt (wpAny_callSpecial?_slot ty F.slot_dict_itemiterator_next (wpAny_call_entry F.slot_dict_itemiterator_next ty F.entry_dict_itemiterator_next ?_ (F.args_dict_itemiterator_next_1 _))))
 unfold Builtin.«dict_itemiterator.__next__»
 refine wpAny_bind (wpAny_pure (wpAny_bind (wpAny_bind (wpAny_bind (wpAny_typeNameOfWhole_itemiter ty (wpAny_pure (wpAny_bind (wpAny_fieldsOf hi rfl ?_))))))))
 simp only [zxd,if_true]
 have e1:(Value.ref d == Value.none)=false:=rfl
 dsimp only [List.drop,List.take]
 rw [if_neg (by rw [e1];exact Bool.false_ne_true)]
 refine wpAny_bind (wpAny_pure (wpAny_bind (wpAny_dictEntries d1 d3 ?_)))
 rw [if_neg (by simp)]
 refine wpAny_bind (wpAny_pure (wpAny_bind (wpAny_dictEpoch d1 d3 ?_)))
 rw [if_neg (by simp)]
 refine wpAny_pure ?_
 dsimp only
 rw [if_neg (by omega),Int.toNat_natCast,he]
 dsimp only
 refine wpAny_bind (wpAny_bind (wpAny_typeNameOfWhole_itemiter ty (wpAny_pure ?_)))
 refine wpAny_bind (wpAny_isOneOf_itemiter ty ?_)
 simp only [zxd,if_true]
 rw [if_neg (by decide)]
 refine wpAny_bind (wpAny_setField_rec (k:=3) hi (by show 3<8;decide) λ h1 g1 sb1=>?_)
 have g1:h1.get? it=some (zze d (i+1) ds.size ep (rawInt a) f ok ov):=g1
 have ty1:({ s with heap:=h1 }:Shared).TypeIs (.ref it) "dict_itemiterator" := ⟨_,g1,rfl⟩
 refine wpAny_bind (wpAny_holding (wpAny_bind (wpAny_isOneOf_itemiter ty1 ?_)))
 rw [if_neg (by decide)]
 refine wpAny_bind (wpAny_isOneOf_itemiter ty1 ?_)
 rw [if_neg (by decide)]
 unfold Builtin.Dict_items.pairFromOwner
 refine wpAny_bind (wpAny_newTuple ?_)
 have hz:h1.objs.size=s.heap.objs.size:=sb1.1
 obtain ⟨h2,hh2⟩:∃ h2,h2=h1.push { cls := .type "tuple",data := .seq [e.key,e.val].toArray }:=⟨_,rfl⟩
 dsimp only
 rw [← hh2]
 have g2:h2.get? it=some (zze d (i+1) ds.size ep (rawInt a) f ok ov):=by rw [hh2];exact Heap.get?_push_of_some _ g1
 have t2:h2.get? h1.objs.size=some { cls := .type "tuple",data := .seq [e.key,e.val].toArray }:=by rw [hh2];exact Heap.get?_push_size _ rfl
 have a2:h2.get? a=some oa:=by rw [hh2];exact Heap.get?_push_of_some _ ((sb1.2 a hn).trans ha)
 have z2:h2.objs.size=s.heap.objs.size+1:=by rw [hh2,Heap.size_push,hz]
 have nit:h1.objs.size≠it:=Nat.ne_of_gt (Heap.lt_size g1)
 have old:∀ b o,b≠it→s.heap.get? b=some o→h2.get? b=some o:=λ b o hb q=>by rw [hh2];exact Heap.get?_push_of_some _ ((sb1.2 b hb).trans q)
 unfold Builtin.Dict_items.ownedTupleIsFree
 refine wpAny_bind (wpAny_bind (wpAny_field g2 rfl (x:=rawInt a) rfl ?_))
 show wpAny _ _ (do let x ← loadIfAlive (a:Int).toNat;_) _ _ _
 refine wpAny_bind (W.kdx_alive a2 ?_)
 rw [if_neg (by simp)]
 refine wpAny_bind (wpAny_field g2 rfl (x := .bool f) rfl ?_)
 cases f with
 | true =>
  rw [if_neg (by decide)]
  refine wpAny_pure ?_
  rw [if_neg (by decide)]
  refine wpAny_pure (wpAny_pure ⟨_,rfl,wpAny_pure ?_⟩)
  rw [hz]
  refine k h2 g2 ?_ z2 old
  rw [← hz];exact t2
 | false =>
  rw [if_pos (by decide)]
  refine wpAny_bind (wpAny_setField_rec (k:=1) g2 (by show 1<8;decide) λ h3 g3 sb3=>?_)
  refine wpAny_pure ?_
  rw [if_neg (by decide)]
  refine wpAny_pure (wpAny_pure ⟨_,rfl,wpAny_pure ?_⟩)
  rw [hz]
  refine k h3 g3 ?_ (by rw [sb3.1];exact z2) λ b o hb q=>(sb3.2 b hb).trans (old b o hb q)
  rw [← hz];exact (sb3.2 _ nit).trans t2
theorem zui {Q:Option Value→Shared→Prop} {first:Value} {f:Bool} (hh:A.handled=none) (hi:s.heap.get? it=some (zze d i ds.size ep first f ok ov)) (hd:RawD s.heap d ds ep) (he:ds[i]? = none)
  (k:∀ h',(∀ b o,b≠it→s.heap.get? b=some o→h'.get? b=some o)→Q none { s with heap:=h' }):wpAny (model prog w) A (pyNext (.ref it)) Q E s:=by
 obtain ⟨o,d1,d2,d3⟩:=hd
 have ty:s.TypeIs (.ref it) "dict_itemiterator" := ⟨_,hi,rfl⟩
 unfold pyNext
 refine wpAny_bind (wpAny_attempt (wpAny_callSpecial?_slot ty F.slot_dict_itemiterator_next (wpAny_call_entry F.slot_dict_itemiterator_next ty F.entry_dict_itemiterator_next ?_ (F.args_dict_itemiterator_next_1 _))))
 unfold Builtin.«dict_itemiterator.__next__»
 refine wpAny_bind (wpAny_pure (wpAny_bind (wpAny_bind (wpAny_bind (wpAny_typeNameOfWhole_itemiter ty (wpAny_pure (wpAny_bind (wpAny_fieldsOf hi rfl ?_))))))))
 simp only [zxd,if_true]
 have e1:(Value.ref d == Value.none)=false:=rfl
 dsimp only [List.drop,List.take]
 rw [if_neg (by rw [e1];exact Bool.false_ne_true)]
 refine wpAny_bind (wpAny_pure (wpAny_bind (wpAny_dictEntries d1 d3 ?_)))
 rw [if_neg (by simp)]
 refine wpAny_bind (wpAny_pure (wpAny_bind (wpAny_dictEpoch d1 d3 ?_)))
 rw [if_neg (by simp)]
 refine wpAny_pure ?_
 dsimp only
 rw [if_neg (by omega),Int.toNat_natCast,he]
 dsimp only
 refine wpAny_bind (wpAny_bind (wpAny_typeNameOfWhole_itemiter ty (wpAny_pure ?_)))
 simp only [zxd,if_true]
 refine wpAny_bind (wpAny_setField_rec (k:=2) hi (by show 2<8;decide) λ h1 g1 sb=>?_)
 unfold newExc raiseNew
 refine wpAny_bind (wpAny_bind (wpAny_newObj_type ?_))
 have fa:firstArgMember (.type "StopIteration") []=pure Value.none:=by
  rw [firstArgMember.eq_1]
  generalize (Manifest.find? "StopIteration").elim false (λ t=>t.mro.contains "StopIteration" || t.mro.contains "SystemExit")=b
  cases b <;> rfl
 refine wpAny_bind (wpAny_of_eq fa (wpAny_newObj_type ?_ (sizeOk_excFields _ _ _ _ _ _ _ _)))
 refine wpAny_bind (wpAny_handled ?_)
 rw [show A.in1.handled=none from hh]
 refine wpAny_throw ?_
 refine wpAny_bind (wpAny_isInstance ⟨_,Heap.get?_push_size _ rfl,rfl⟩ isSubtype_stop ?_)
 rw [if_pos rfl]
 refine wpAny_pure (k _ λ b o hb e=>?_)
 exact Heap.get?_push_of_some _ (Heap.get?_push_of_some _ ((sb.2 b hb).trans e))
end
end L2
namespace L2
open PySem PySem.Spec PyProof.Rows PySem.NumText
noncomputable def zev (a b:Value):Obj:={ cls := .type "tuple",data := .seq #[a,b] }
structure Got (ds:Array DictEntry) (lo:Addr) (h:Heap) (as:List Addr):Prop where
 at_:∀ (j:Nat) (a:Addr),as[j]? = some a→lo≤a∧∃ e,ds[j]? = some e∧h.get? a=some (zev e.key e.val)
 nd:as.Nodup
section
variable {prog:Program} {w:World} {A:Around} {E:Value→Shared→Prop} {s:Shared} {d it S r:Addr} {ds:Array DictEntry} {ep:Nat}
theorem zxk {R:Result→Shared→Prop} (hh:A.handled=none) (hn:ds.size≤sizeLine) (nSI:S≠it) (ndS:d≠S) (ndI:d≠it) (res:Value) {h1:Heap} {lo:Addr}
  (k:∀ h' tk acc c as,(∀ b o,b≠S→b≠it→h1.get? b=some o→h'.get? b=some o)→h'.get? S=some { cls := .type "list",data := .seq acc c }→as.length=ds.size→Got ds lo h' as→acc.toList=as.map Value.ref→R (.ok (.ret res)) { s with heap:=h',toks:=tk }) :
  ∀ (n i:Nat) (h:Heap) (tk c:Nat) (acc:Array Value) (as:List Addr) (first:Value) (f:Bool) (ok ov:Value),ds.size - i=n→i≤ds.size→h.get? it=some (zze d i ds.size ep first f ok ov)→((first = .none∧f=false) ∨ ∃ (a:Addr) (oa:Obj),first=rawInt a∧h.get? a=some oa∧a≠it∧a≠S)→RawD h d ds ep →
   (∀ b o,b≠S→b≠it→h1.get? b=some o→h.get? b=some o)→h.get? S=some { cls := .type "list",data := .seq acc c }→acc.toList=as.map Value.ref→as.length=i→Got ds lo h as→(∀ a∈as,a≠S∧a≠it)→lo≤h.objs.size →
   codeAny (model prog w) A (.builtin "list.extend.loop" ⟨[.ref S,.ref it,res],[]⟩) R { s with heap:=h,toks:=tk }:=by
 intro n
 induction n with
 | zero =>
  intro i h tk c acc as first f ok ov hni hi hit hfirst hd kp hS hacc hal hG hne hlo
  refine codeAny_builtin F.entry_extend_loop ?_
  rw [Around.under_plainId F.plain_extend_loop]
  refine wpAny_bind (zui (s:={ s with heap:=h,toks:=tk }) hh hit hd (by rw [Array.getElem?_eq_none];omega) λ h' kp'=>?_)
  refine wpAny_pure (k h' tk acc c as (λ b o h1' h2' e=>kp' b o h2' (kp b o h1' h2' e)) (kp' _ _ nSI hS) (by omega) ⟨λ j a e=>?_,hG.nd⟩ hacc)
  obtain ⟨q1,e1,q2,q3⟩:=hG.at_ j a e
  exact ⟨q1,e1,q2,kp' _ _ (hne a (List.mem_of_getElem? e)).2 q3⟩
 | succ n ih =>
  intro i h tk c acc as first f ok ov hni hi hit hfirst hd kp hS hacc hal hG hne hlo
  obtain ⟨e,he⟩:∃ e,ds[i]? = some e:=⟨_,Array.getElem?_eq_getElem (by omega)⟩
  refine codeAny_builtin F.entry_extend_loop ?_
  rw [Around.under_plainId F.plain_extend_loop]
  have hItL:=Heap.lt_size hit
  have hSL:=Heap.lt_size hS
  have go:∀ h' first' f' ok' ov',h'.get? it=some (zze d (i+1) ds.size ep first' f' ok' ov')→((first' = .none∧f'=false) ∨ ∃ (a:Addr) (oa:Obj),first'=rawInt a∧h'.get? a=some oa∧a≠it∧a≠S)→h'.get? h.objs.size=some (zev e.key e.val)→h'.objs.size=h.objs.size+1 →
    (∀ b o,b≠it→h.get? b=some o→h'.get? b=some o)→wpAny (model prog w) A.in1 (do Builtin.List.listUpdate (.ref S) λ x=>x.push (.ref h.objs.size);again (.builtin "list.extend.loop" ⟨[.ref S,.ref it,res],[]⟩))
     (λ fin s'=>match fin with | .done f=>R (.ok f) s' | .again c'=>c'.quiet=true∧codeAny (model prog w) A c' R s') (λ e s'=>R (.error e) s') { s with heap:=h',toks:=tk }:=by
   intro h' first' f' ok' ov' hit' hfirst' ht hz kp'
   have hS':=kp' _ _ nSI hS
   have haz:acc.size=as.length:=by rw [← Array.length_toList,hacc,List.length_map]
   refine wpAny_bind (wpAny_updateSeq (a:=S) (s:={ s with heap:=h',toks:=tk }) hS' rfl ?_ (by omega) (by rw [Array.size_push];omega))
   refine wpAny_pure ⟨plainId_quiet F.plain_extend_loop _,?_⟩
   have nt:h.objs.size≠S:=Nat.ne_of_gt hSL
   have nti:h.objs.size≠it:=Nat.ne_of_gt hItL
   have oth:∀ b,b≠S→(h'.update S (Obj.mapSeq λ x=>x.push (.ref h.objs.size))).get? b=h'.get? b:=λ b hb=>Heap.get?_update_other _ _ (Ne.symm hb)
   have self:(h'.update S (Obj.mapSeq λ x=>x.push (.ref h.objs.size))).get? S=some { cls := .type "list",data := .seq (acc.push (.ref h.objs.size)) (if (acc.push (.ref h.objs.size)).size == acc.size then c else c+1) }:=by
    exact Heap.get?_update_self _ hS' rfl
   refine ih (i+1) _ tk _ _ (as++[h.objs.size]) first' f' ok' ov' (by omega) (by omega) (by rw [oth _ nSI.symm];exact hit') ?_ ?_ ?_ self ?_ ?_ ?_ ?_ ?_
   ·rcases hfirst' with z | ⟨a,oa,z1,z2,z3,z4⟩
    ·exact .inl z
    ·exact .inr ⟨a,oa,z1,by rw [oth _ z4];exact z2,z3,z4⟩
   ·obtain ⟨o,o1,o2⟩:=hd
    exact ⟨o,by rw [oth _ ndS];exact kp' _ _ ndI o1,o2⟩
   ·intro b o hb1 hb2 q
    rw [oth _ hb1]
    exact kp' _ _ hb2 (kp b o hb1 hb2 q)
   ·rw [Array.toList_push,hacc,List.map_append]
    rfl
   ·rw [List.length_append,List.length_cons,List.length_nil];omega
   ·refine ⟨λ j a q=>?_,List.nodup_append.mpr ⟨hG.nd,List.nodup_cons.mpr ⟨by simp,List.nodup_nil⟩,λ x hx y hy=>?_⟩⟩
    rotate_left
    ·rw [List.mem_singleton.mp hy]
     obtain ⟨j,hj⟩:=List.getElem?_of_mem hx
     obtain ⟨_,_,_,q3⟩:=hG.at_ j x hj
     exact Nat.ne_of_lt (Heap.lt_size q3)
    rcases Nat.lt_or_ge j as.length with hj | hj
    ·rw [List.getElem?_append_left hj] at q
     obtain ⟨q1,e1,q2,q3⟩:=hG.at_ j a q
     obtain ⟨n1,n2⟩:=hne a (List.mem_of_getElem? q)
     exact ⟨q1,e1,q2,by rw [oth _ n1];exact kp' _ _ n2 q3⟩
    ·have hj':j=as.length:=by
      have:=(List.getElem?_eq_some_iff.mp q).1
      rw [List.length_append,List.length_cons,List.length_nil] at this
      omega
     rw [hj',List.getElem?_concat_length] at q
     cases q
     refine ⟨hlo,e,by rw [hj',hal];exact he,?_⟩
     rw [oth _ nt]
     exact ht
   ·intro a ha
    rcases List.mem_append.mp ha with z | z
    ·exact hne a z
    ·rw [List.mem_singleton.mp z];exact ⟨nt,nti⟩
   ·rw [Heap.size_update,hz];exact Nat.le_succ_of_le hlo
  rcases hfirst with ⟨rfl,rfl⟩ | ⟨a,oa,rfl,ha,hai,haS⟩
  ·refine wpAny_bind (zci (s:={ s with heap:=h,toks:=tk }) hit hd he λ h' g1 g2 g3 g4=>?_)
   exact go h' _ _ _ _ g1 (.inr ⟨_,_,rfl,g2,Nat.ne_of_gt hItL,Nat.ne_of_gt hSL⟩) g2 g3 g4
  ·refine wpAny_bind (zmn (s:={ s with heap:=h,toks:=tk }) hit ha hai hd he λ h' g1 g2 g3 g4=>?_)
   exact go h' _ _ _ _ g1 (.inr ⟨a,oa,rfl,g4 _ _ hai ha,hai,haS⟩) g2 g3 g4
theorem zfg {R:List Value→Shared→Prop} (hh:A.handled=none) (hv:s.heap.IsItemsView r d) (hd:RawD s.heap d ds ep) (hn:ds.size≤sizeLine)
  (k:∀ h' tk as,(∀ b o,s.heap.get? b=some o→h'.get? b=some o)→as.length=ds.size→Got ds s.heap.objs.size h' as→R (as.map Value.ref) { s with heap:=h',toks:=tk }):wpAny (model prog w) A (collect (.ref r)) R E s:=by
 unfold collect
 refine wpAny_bind (wpAny_runValue (codeAny_builtin entry_proto_collect' ?_))
 rw [Around.under_plainId F.plain_proto_collect]
 refine wpAny_bind (wpAny_newObj_type (wpAny_pure ⟨plainId_quiet F.plain_list_iadd _,codeAny_builtin entry_list_iadd' ?_⟩))
 rw [Around.under_plainId F.plain_list_iadd]
 obtain ⟨o,d1,d2,d3⟩:=id hd
 obtain ⟨vo,v1,v2⟩:=id hv
 obtain ⟨h1,hh1⟩:∃ h1,h1=s.heap.push { cls := .type "list",data := .seq (#[]:Array Value) }:=⟨_,rfl⟩
 have hS1:h1.get? s.heap.objs.size=some { cls := .type "list",data := .seq #[] }:=by rw [hh1];exact Heap.get?_push_size _ rfl
 have kp1:∀ b ob,s.heap.get? b=some ob→h1.get? b=some ob:=λ b ob e=>by rw [hh1];exact Heap.get?_push_of_some _ e
 have z1:h1.objs.size=s.heap.objs.size+1:=by rw [hh1,Heap.size_push]
 have hv1:h1.IsItemsView r d:=⟨vo,kp1 _ _ v1,v2⟩
 have hd1:RawD h1 d ds ep:=⟨o,kp1 _ _ d1,d2,d3⟩
 show wpAny _ _ (Builtin.«list.__iadd__» _) _ _ { s with heap:=s.heap.push { cls := .type "list",data := .seq (#[]:Array Value) } }
 rw [← hh1]
 unfold Builtin.«list.__iadd__»
 refine wpAny_bind (wpAny_pure ?_)
 show wpAny _ _ (Builtin.List.listExtendWith (.ref s.heap.objs.size) (.ref r) (.ref s.heap.objs.size)) _ _ _
 unfold Builtin.List.listExtendWith
 have hv1':({ s with heap:=h1 }:Shared).heap.IsItemsView r d:=hv1
 refine wpAny_bind (wpAny_typeOf hv1'.typeIs ?_)
 have nr:s.heap.objs.size≠r:=Nat.ne_of_gt (Heap.lt_size v1)
 rw [if_neg (by simp [Builtin.List.listSameRef,nr])]
 refine wpAny_bind (zvg (s:={ s with heap:=h1 }) hv1 hd1 ?_)
 obtain ⟨h2,hh2⟩:∃ h2,h2=h1.push (zze d 0 ds.size ep .none false .none .none):=⟨_,rfl⟩
 have z2:h2.objs.size=h1.objs.size+1:=by rw [hh2,Heap.size_push]
 have kp2:∀ b ob,h1.get? b=some ob→h2.get? b=some ob:=λ b ob e=>by rw [hh2];exact Heap.get?_push_of_some _ e
 have i2:h2.get? h1.objs.size=some (zze d 0 ds.size ep .none false .none .none):=by rw [hh2];exact Heap.get?_push_size _ rfl
 show wpAny _ _ _ _ _ { s with heap:=h1.push (zze d 0 ds.size ep .none false .none .none) }
 rw [← hh2]
 have hv2:({ s with heap:=h2 }:Shared).heap.IsItemsView r d:=⟨vo,kp2 _ _ (kp1 _ _ v1),v2⟩
 refine wpAny_bind (wpAny_holding (W.kdx_hint hv2.typeIs ?_))
 have nSI:s.heap.objs.size≠h1.objs.size:=by rw [z1];exact Nat.ne_of_lt (Nat.lt_succ_self _)
 have ndS:d≠s.heap.objs.size:=Nat.ne_of_lt (Heap.lt_size d1)
 have ndI:d≠h1.objs.size:=Nat.ne_of_lt (Heap.lt_size (kp1 _ _ d1))
 have fin:∀ h3 c,h3.objs.size=h2.objs.size→(∀ b,b≠s.heap.objs.size→h3.get? b=h2.get? b)→h3.get? s.heap.objs.size=some { cls := .type "list",data := .seq #[] c } →
   codeAny (model prog w) A (.builtin "list.extend.loop" ⟨[.ref s.heap.objs.size,.ref h1.objs.size,.ref s.heap.objs.size],[]⟩) (λ r s'=>∃ h' tk acc c' as,r = .ok (.ret (.ref s.heap.objs.size))∧s'={ s with heap:=h',toks:=tk }∧(∀ b ob,s.heap.get? b=some ob→h'.get? b=some ob)∧h'.get? s.heap.objs.size=some { cls := .type "list",data := .seq acc c' }∧as.length=ds.size∧Got ds s.heap.objs.size h' as∧acc.toList=as.map Value.ref) { s with heap:=h3,toks:=s.toks }:=by
  intro h3 c z3 oth3 hS3
  refine zxk (ep:=ep) (d:=d) (h1:=h2) (lo:=s.heap.objs.size) hh hn nSI ndS ndI (.ref s.heap.objs.size) ?_ (ds.size - 0) 0 h3 s.toks c #[] [] .none false .none .none rfl (Nat.zero_le _) (by rw [oth3 _ nSI.symm];exact i2) (.inl ⟨rfl,rfl⟩) ⟨o,by rw [oth3 _ ndS];exact kp2 _ _ (kp1 _ _ d1),d2,d3⟩ (λ b ob hb1 hb2 e=>by rw [oth3 _ hb1];exact e) hS3 rfl rfl ⟨(λ j a e=>by simp at e),List.nodup_nil⟩ (λ a ha=>by simp at ha) (by rw [z3,z2,z1];exact Nat.le_succ_of_le (Nat.le_succ _))
  intro h' tk acc c' as kp' hS' hal hG hacc
  exact ⟨h',tk,acc,c',as,rfl,rfl,λ b ob e=>kp' b ob (Nat.ne_of_lt (Heap.lt_size e)) (Nat.ne_of_lt (Heap.lt_size (kp1 _ _ e))) (kp2 _ _ (kp1 _ _ e)),hS',hal,hG,hacc⟩
 refine wpAny_ite_split (λ _=>?_) (λ _=>?_)
 ·refine wpAny_bind (wpAny_rule (wpAny_bind (wpAny_bind (wpAny_updateSeq (a:=s.heap.objs.size) (s:={ s with heap:=h2 }) (kp2 _ _ hS1) rfl ?_ (Nat.zero_le _) (by show 1≤_;rw [sizeLine_eq];omega)))))
  have self:(h2.update s.heap.objs.size (Obj.mapSeq λ x=>x.push .none)).get? s.heap.objs.size=some { cls := .type "list",data := .seq #[.none] 1 }:=Heap.get?_update_self _ (kp2 _ _ hS1) rfl
  refine wpAny_updateSeq (a:=s.heap.objs.size) self rfl ?_ (by show 1≤_;rw [sizeLine_eq];omega) (Nat.zero_le _)
  refine wpAny_pure ⟨plainId_quiet F.plain_extend_loop _,codeAny_mono (fin _ 2 ?_ ?_ ?_) λ r s' ⟨h',tk,acc,c',as,e1,e2,kp',hS',hal,hG,hacc⟩=>?_⟩
  ·rw [Heap.size_update,Heap.size_update]
  ·intro b hb
   rw [Heap.get?_update_other _ _ (Ne.symm hb),Heap.get?_update_other _ _ (Ne.symm hb)]
  ·exact Heap.get?_update_self _ self rfl
  ·subst e1 e2
   refine wpAny_bind (wpAny_load hS' ?_)
   dsimp only
   rw [hacc]
   exact wpAny_pure (k h' tk as kp' hal hG)
 ·refine wpAny_pure ⟨plainId_quiet F.plain_extend_loop _,codeAny_mono (fin h2 0 rfl (λ _ _=>rfl) (kp2 _ _ hS1)) λ r s' ⟨h',tk,acc,c',as,e1,e2,kp',hS',hal,hG,hacc⟩=>?_⟩
  subst e1 e2
  refine wpAny_bind (wpAny_load hS' ?_)
  dsimp only
  rw [hacc]
  exact wpAny_pure (k h' tk as kp' hal hG)
end
noncomputable def layT (H:Hp):List (Addr×List V)→Hp
 | []=>H
 | t::ts=>upd (layT H ts) t.1 (.tup t.2)
theorem zsc {H:Hp} {b:Addr}:∀ {ts:List (Addr×List V)},(∀ t∈ts,b≠t.1)→layT H ts b=H b
 | [],_=>rfl
 | t::ts,h=>by
  show upd (layT H ts) t.1 (.tup t.2) b=H b
  rw [zja (h t List.mem_cons_self)]
  exact zsc λ u hu=>h u (List.mem_cons_of_mem _ hu)
theorem zdq {H:Hp} {b:Addr} {o:HO}:∀ {ts:List (Addr×List V)},layT H ts b=some o→(∃ t∈ts,t.1=b∧o = .tup t.2) ∨ ((∀ t∈ts,b≠t.1)∧H b=some o)
 | [],h=>.inr ⟨(λ _ z=>by cases z),h⟩
 | t::ts,h=>by
  have h:upd (layT H ts) t.1 (.tup t.2) b=some o:=h
  by_cases hb:b=t.1
  ·subst hb
   rw [upd_same] at h
   exact .inl ⟨t,List.mem_cons_self,rfl,(Option.some.inj h).symm⟩
  ·rw [zja hb] at h
   rcases zdq h with ⟨u,hu,e1,e2⟩ | ⟨h1,h2⟩
   ·exact .inl ⟨u,List.mem_cons_of_mem _ hu,e1,e2⟩
   ·refine .inr ⟨λ u hu=>?_,h2⟩
    rcases List.mem_cons.mp hu with rfl | hu
    ·exact hb
    ·exact h1 u hu
theorem ziq {H:Hp}:∀ {ts:List (Addr×List V)} {t:Addr×List V},(ts.map (·.1)).Nodup→t∈ts→layT H ts t.1=some (.tup t.2)
 | u::ts,t,hd,ht=>by
  show upd (layT H ts) u.1 (.tup u.2) t.1=some (.tup t.2)
  rcases List.mem_cons.mp ht with rfl | ht'
  ·exact upd_same
  ·have hn:=(List.nodup_cons.mp hd)
   rw [zja (λ z=>hn.1 (by show u.1∈_;rw [← z];exact List.mem_map_of_mem (f:=(·.1)) ht'))]
   exact ziq hn.2 ht'
section
variable {X:Cx} {pins:List (Addr×Obj)} {σ:St} {H:Hp} {s:Shared} {h':Heap}
theorem Inv.laidAll {t':Nat} (I:Inv X pins σ H s) (k:∀ b u,s.heap.get? b=some u→h'.get? b=some u) {ts:List (Addr×List V)} (hts:∀ t∈ts,s.heap.objs.size≤t.1∧ObjOk X.prog X.w H h' t.1 (.tup t.2)) :
  Inv X pins σ (layT H ts) { s with heap:=h',toks:=t' }:=by
 have old:∀ b u,H b=some u→∀ t∈ts,b≠t.1:=λ b u q t ht=>Nat.ne_of_lt (Nat.lt_of_lt_of_le (I.hok.lt q) (hts t ht).1)
 refine I.un ⟨λ b u q _ _ _=>k b u q,λ b u q _ _ _=>⟨u.slots,k b u q⟩,λ b u q n _=>?_,λ b u q _=>⟨u,k b u q⟩,λ b xs q=>?_,λ b u xs q=>?_,λ b ps q=>⟨#[],?_⟩⟩ ?_
 ·rw [zsc λ t ht=>Nat.ne_of_lt (Nat.lt_of_lt_of_le (Heap.lt_size q) (hts t ht).1)];exact n
 ·rw [zsc (old b _ q)];exact q
 ·rw [zsc (old b _ q)];exact q
 ·rw [zsc (old b _ q),q];simp
 ·intro b o q
  rcases zdq q with ⟨t,ht,rfl,rfl⟩ | ⟨hb,q⟩
  ·exact (hts t ht).2
  ·exact (I.hok b o q).stay (λ c v _ e=>k c v e) (λ c e=>by rw [zsc (old c _ e)];exact e) λ c xs e=>by rw [zsc (old c _ e)];exact e
end
end L2
namespace L2
open PySem PySem.Spec PyProof.Rows PySem.NumText
section
variable {prog:Program} {w:World} {A:Around} {E:Value→Shared→Prop} {s:Shared} {l:Addr} {xs:Array Value} {c:Nat} {sl:Array (Option Value)}
theorem zyj {Q:Option Value→Shared→Prop} (hh:A.handled=none) (ho:s.heap.get? l=some { cls := .type "list",data := .seq xs c,slots:=sl })
  (k:∀ h' tk,(∀ b o,s.heap.get? b=some o→h'.get? b=some o)→Q none { s with heap:=h',toks:=tk }):wpAny (model prog w) A (getAttr? (.ref l) (Str.ofString "keys")) Q E s:=by
 unfold getAttr? mkText
 refine wpAny_bind (wpAny_bind (wpAny_fresh' (wpAny_pure ?_)))
 unfold getAttrBy?
 have ty:∀ tk,({ s with toks:=tk }:Shared).TypeIs (.ref l) "list" := λ tk=>⟨_,ho,rfl⟩
 refine wpAny_bind (wpAny_attempt ?_)
 unfold getAttrBy
 refine wpAny_holding (wpAny_bind (wpAny_typeOf (ty _) (wpAny_bind (wpAny_of_eq F.slot_list_getattribute.lookup ?_))))
 dsimp only
 rw [if_neg (by decide)]
 unfold getAttrByItsOwn hookBefore
 refine wpAny_bind (wpAny_of_eq (a:=none) (if_neg (by decide)) (wpAny_bind (wpAny_attempt (wpAny_holding ?_))))
 unfold callGetattribute
 rw [if_neg (by decide)]
 unfold boundAndCalled
 refine wpAny_bind (wpAny_of_eq (F.slot_list_getattribute.bind (.ref l)) ?_)
 have hmiss:typeLookup (.type "list") (Str.ofString "keys")=pure none:=am_miss_of_fast (by decide +kernel)
 refine call_meets F.slot_list_getattribute (ty _) am_entry_list_getattribute (F.args_list_getattribute_2 _ _) (meets_getattribute_miss_list l xs c sl _ _ hmiss (by decide +kernel) (by rw [sizeLine_eq];decide +kernel)) ⟨ho,hh,λ h' tk e ne=>?_⟩
 show wpAny _ _ (getattributeRaised _ _ _ _ _ _ _) _ _ _
 obtain ⟨t,u,he⟩:=ne.there
 unfold getattributeRaised
 refine wpAny_bind (wpAny_isInstance ⟨_,he,rfl⟩ sub_AttributeError ?_)
 rw [if_pos rfl]
 unfold hookBehind
 rw [if_neg (by decide)]
 refine wpAny_bind (wpAny_of_eq am_list_getattr_none ?_)
 unfold hookOrError attributeErrorLeaves
 dsimp only
 rw [if_pos (by decide)]
 refine wpAny_bind (wpAny_throw ?_)
 refine wpAny_bind (wpAny_isInstance ⟨_,he,rfl⟩ sub_AttributeError ?_)
 rw [if_pos rfl]
 exact wpAny_pure (k h' tk ne.keeps)
end
theorem zic:entryFor table "dict.update.loop" = some Builtin.«dict.update.loop» := entryFor_of_tree (by rfl)
theorem zgb:plainId "dict.update.loop" = true:=by decide +kernel
noncomputable abbrev Row:=List Key×Addr×Value
noncomputable def zbb (xs:List Row) (ps:List Row):List Row:=ps.foldl (λ xs p=>storedH xs p.1 p.2.1 p.2.2) xs
section
variable {prog:Program} {w:World} {A:Around} {E:Value→Shared→Prop} {s:Shared} {l d it:Addr}
theorem zrl (xs:List Row) (k:List Key) (a:Addr) (v:Value):(storedH xs k a v).length≤xs.length+1:=by
 unfold storedH
 split
 ·rw [List.length_map];omega
 ·rw [List.length_append];exact Nat.le_refl _
theorem zqk {xs:List Row} {k:List Key} {a:Addr} {v:Value} {x:Row} (h:x∈storedH xs k a v):x.2.1=a ∨ ∃ y∈xs,y.2.1=x.2.1:=by
 unfold storedH at h
 split at h
 ·obtain ⟨y,hy,rfl⟩:=List.mem_map.mp h
  refine .inr ⟨y,hy,?_⟩
  unfold putAt
  split <;> rfl
 ·rcases List.mem_append.mp h with z | z
  ·exact .inr ⟨x,z,rfl⟩
  ·rw [List.mem_singleton.mp z];exact .inl rfl
theorem zsl {h h':Heap} {k:List Key} {a:Addr} (hi:(dK prog w).is h k a) (q:∀ o,h.get? a=some o→h'.get? a=some o):(dK prog w).is h' k a:=by
 obtain ⟨o,its,n,h1,r⟩:=hi
 exact ⟨o,its,n,q o h1,r⟩
theorem zhg {h h':Heap} {xs:List Row} (hd:h.DictOfH (dK prog w) d xs) (q:∀ b o,b≠it→h.get? b=some o→h'.get? b=some o) (ndi:d≠it) (hn:∀ x∈xs,x.2.1≠it):h'.DictOfH (dK prog w) d xs:=by
 obtain ⟨o,ds,ep,a1,a2,a3,a4,a5,a6⟩:=hd
 exact ⟨o,ds,ep,q _ _ ndi a1,a2,a3,a4,λ x hx=>zsl (a5 x hx) λ o e=>q _ _ (hn x hx) e,a6⟩
theorem zvc (ps:List Row) (p:Row):zbb [] (ps++[p])=storedH (zbb [] ps) p.1 p.2.1 p.2.2:=by
 unfold zbb
 rw [List.foldl_append]
 rfl
theorem zmd:∀ (ps:List Row) (xs:List Row),(zbb xs ps).length≤xs.length+ps.length
 | [],xs=>Nat.le_refl _
 | p::ps,xs=>by
  have h1:=zmd ps (storedH xs p.1 p.2.1 p.2.2)
  have h2:=zrl xs p.1 p.2.1 p.2.2
  show (zbb (storedH xs p.1 p.2.1 p.2.2) ps).length≤xs.length+(ps.length+1)
  omega
theorem zpj {R:Result→Shared→Prop} {items:Array Value} {ps:List Row} (hh:A.handled=none) (room:(dK prog w).room A.in1) (ndl:d≠l) (ndi:d≠it) (nli:l≠it) {h1:Heap} (res:Value) (hlen:items.size=ps.length) (hsz:ps.length≤1000)
  (hps:∀ (i:Nat) p,ps[i]? = some p→∃ t,items[i]? = some (.ref t)∧t≠d∧t≠it∧p.2.1≠d∧p.2.1≠it∧IsTup h1 t #[.ref p.2.1,p.2.2]∧(dK prog w).is h1 p.1 p.2.1)
  (k:∀ h' tk,(∀ b o,b≠d→b≠it→h1.get? b=some o→h'.get? b=some o)→h'.DictOfH (dK prog w) d (zbb [] ps)→R (.ok (.ret res)) { s with heap:=h',toks:=tk }) :
  ∀ (n i:Nat) (h:Heap) (tk:Nat) (cnt:Int) (ct:Tok),ps.length - i=n→i≤ps.length→h.IsListIter it l i→h.IsList l items→(∀ b o,b≠d→b≠it→h1.get? b=some o→h.get? b=some o)→h.DictOfH (dK prog w) d (zbb [] (ps.take i))→(∀ x∈zbb [] (ps.take i),x.2.1≠it∧x.2.1≠d) →
   codeAny (model prog w) A (.builtin "dict.update.loop" ⟨[.ref d,.ref it,.int cnt ct,res],[]⟩) R { s with heap:=h,toks:=tk }:=by
 intro n
 induction n with
 | zero =>
  intro i h tk cnt ct hni hi hit hl kp hd hx
  refine codeAny_builtin zic ?_
  rw [Around.under_plainId zgb]
  refine wpAny_bind (wpAny_pyNext_list_end (s:={ s with heap:=h,toks:=tk }) hh hit hl (by rw [Array.getElem?_eq_none];omega) λ h' ex=>?_)
  refine wpAny_bind (wpAny_bind (wpAny_pure (wpAny_pure (wpAny_pure ?_))))
  refine k h' tk (λ b o h1' h2' e=>ex b o h2' (kp b o h1' h2' e)) ?_
  have e:ps.take i=ps:=List.take_of_length_le (by omega)
  rw [e] at hd hx
  exact zhg hd ex ndi λ x q=>(hx x q).1
 | succ n ih =>
  intro i h tk cnt ct hni hi hit hl kp hd hx
  obtain ⟨p,hp⟩:∃ p,ps[i]? = some p:=⟨_,List.getElem?_eq_getElem (by omega)⟩
  obtain ⟨t,ht,n1,n2,n3,n4,ht1,his⟩:=hps i p hp
  refine codeAny_builtin zic ?_
  rw [Around.under_plainId zgb]
  refine wpAny_bind (wpAny_pyNext_list_item (s:={ s with heap:=h,toks:=tk }) hit hl ht λ h2 hit2 sb=>?_)
  obtain ⟨to,tc1,tc2,tn,tc3⟩:=ht1
  have ht2:h2.get? t=some to:=(sb.2 t n2).trans (kp t _ n1 n2 tc1)
  have hd2:h2.DictOfH (dK prog w) d (zbb [] (ps.take i)):=zhg hd (λ b o hb e=>(sb.2 b hb).trans e) ndi λ x q=>(hx x q).1
  have his2:(dK prog w).is h2 p.1 p.2.1:=zsl his λ o e=>(sb.2 _ n4).trans (kp _ _ n3 n4 e)
  have hlt:(zbb [] (ps.take i)).length≤sizeLine:=by
   have:=zmd (ps.take i) []
   rw [List.length_take,List.length_nil] at this
   rw [sizeLine_eq]
   omega
  refine wpAny_bind (wpAny_holding (wpAny_bind ?_))
  rw [← Sem.tryCatch_eq]
  refine wpAny_tryCatch ?_
  unfold Builtin.Dict.pairItems
  refine wpAny_bind (wpAny_typeOf (T := "tuple") ⟨_,ht2,tc2⟩ ?_)
  rw [if_pos (by decide)]
  refine wpAny_bind (wpAny_seqItems ht2 tc3 (wpAny_pure ?_))
  show wpAny _ _ (holding [.ref p.2.1,p.2.2] (dictSet d (.ref p.2.1) p.2.2)) _ _ _
  refine wpAny_holding (wpAny_dictSet_heap (hsz:=hlt) room his2 hd2 λ h3 hd3 sb3=>?_)
  refine wpAny_pure ⟨plainId_quiet zgb _,?_⟩
  have e1:ps.take (i+1)=ps.take i++[p]:=by
   obtain ⟨hlt',rfl⟩:=List.getElem?_eq_some_iff.mp hp
   exact List.take_succ_eq_append_getElem hlt'
  have keep3:∀ b o,b≠d→b≠it→h.get? b=some o→h3.get? b=some o:=λ b o hb1 hb2 e=>(sb3.2 b hb1).trans ((sb.2 b hb2).trans e)
  refine ih (i+1) h3 _ (cnt+1) 0 (by omega) (by omega) ?_ ?_ (λ b o hb1 hb2 e=>keep3 b o hb1 hb2 (kp b o hb1 hb2 e)) ?_ ?_
  ·obtain ⟨o,a1,a2⟩:=hit2
   exact ⟨o,(sb3.2 it ndi.symm).trans a1,a2⟩
  ·obtain ⟨o,a1,a2⟩:=hl
   exact ⟨o,keep3 _ _ ndl.symm nli a1,a2⟩
  ·rw [e1,zvc];exact hd3
  ·rw [e1,zvc]
   intro x hxm
   rcases zqk hxm with z | ⟨y,hy,z⟩
   ·rw [z];exact ⟨n4,n3⟩
   ·rw [← z];exact hx y hy
theorem zxe {Q:Value→Shared→Prop} {items:Array Value} {ps:List Row} {sl:Array (Option Value)} {c:Nat} (hh:A.handled=none) (room:(dK prog w).room A.in1.in1) (ho:s.heap.get? l=some { cls := .type "list",data := .seq items c,slots:=sl }) (hlen:items.size=ps.length) (hsz:ps.length≤1000)
  (hps:∀ (i:Nat) p,ps[i]? = some p→∃ t,items[i]? = some (.ref t)∧IsTup s.heap t #[.ref p.2.1,p.2.2]∧(dK prog w).is s.heap p.1 p.2.1)
  (k:∀ h' tk,(∀ b o,s.heap.get? b=some o→h'.get? b=some o)→h'.DictOfH (dK prog w) s.heap.objs.size (zbb [] ps)→Q (.ref s.heap.objs.size) { s with heap:=h',toks:=tk }):wpAny (model prog w) A (call (.type "dict") [.ref l]) Q E s:=by
 obtain ⟨h1,hh1⟩:∃ h1,h1=s.heap.push { cls := .type "dict",data := .dict (#[]:Array DictEntry) }:=⟨_,rfl⟩
 have kp1:∀ b o,s.heap.get? b=some o→h1.get? b=some o:=λ b o e=>by rw [hh1];exact Heap.get?_push_of_some _ e
 have hd1:h1.get? s.heap.objs.size=some { cls := .type "dict",data := .dict #[] }:=by rw [hh1];exact Heap.get?_push_size _ rfl
 refine callType_codes (Q₁:=λ obj s1=>obj = .ref s.heap.objs.size∧s1={ s with heap:=h1 }) F.kt_called_dict (F.kt_typeCall_dict_1 _) F.entry_dict_init (kt_code_dict_new _ ⟨rfl,by rw [hh1]⟩) λ obj s1 ⟨e1,e2⟩=>?_
 subst e1 e2
 have td:({ s with heap:=h1 }:Shared).TypeIs (.ref s.heap.objs.size) "dict" := ⟨_,hd1,rfl⟩
 refine ⟨td,F.args_dict_init_2 _ _,?_⟩
 unfold Builtin.«dict.__init__» Builtin.Dict.selfAndRest
 refine wpAny_bind (wpAny_bind (wpAny_notOrdered_dict td ?_))
 refine wpAny_bind (wpAny_pure (wpAny_pure ?_))
 show wpAny _ _ (Builtin.Dict.updateFrom "dict.__init__" s.heap.objs.size (.ref l) [] .none) _ _ _
 unfold Builtin.Dict.updateFrom
 have ho1:=kp1 _ _ ho
 refine wpAny_bind (wpAny_typeOf (T := "list") ⟨_,ho1,rfl⟩ ?_)
 rw [if_pos (by decide)]
 refine wpAny_bind (zyj (s:={ s with heap:=h1 }) hh ho1 λ h2 tk kp2=>?_)
 rw [if_pos (by decide)]
 refine wpAny_bind (wpAny_rule ?_)
 have hl2:h2.IsList l items:=⟨_,kp2 _ _ ho1,rfl,c,rfl⟩
 refine wpAny_bind (wpAny_pyIter_list (s:={ s with heap:=h2,toks:=tk }) hl2 ?_)
 refine wpAny_pure ⟨plainId_quiet zgb _,?_⟩
 obtain ⟨h3,hh3⟩:∃ h3,h3=h2.push { cls := .type "list_iterator",data := .fields #[.ref l,.int 0 0] }:=⟨_,rfl⟩
 have kp3:∀ b o,h2.get? b=some o→h3.get? b=some o:=λ b o e=>by rw [hh3];exact Heap.get?_push_of_some _ e
 have it3:h3.IsListIter h2.objs.size l 0:=by rw [hh3];exact ⟨_,Heap.get?_push_size _ rfl,rfl,rfl⟩
 show codeAny _ _ (.builtin "dict.update.loop" ⟨[.ref s.heap.objs.size,.ref h2.objs.size,.int 0 0,.none],[]⟩) _ { s with heap:=h2.push { cls := .type "list_iterator",data := .fields #[.ref l,.int 0 0] },toks:=tk }
 rw [← hh3]
 have old:∀ b o,s.heap.get? b=some o→h3.get? b=some o∧b≠s.heap.objs.size∧b≠h2.objs.size:=λ b o e=>⟨kp3 _ _ (kp2 _ _ (kp1 _ _ e)),Nat.ne_of_lt (Heap.lt_size e),Nat.ne_of_lt (Heap.lt_size (kp2 _ _ (kp1 _ _ e)))⟩
 have ndi:s.heap.objs.size≠h2.objs.size:=Nat.ne_of_lt (Heap.lt_size (kp2 _ _ hd1))
 refine zpj (A:=A.in1) (h1:=h3) (items:=items) (ps:=ps) (l:=l) (show A.in1.handled=none from hh) room (old _ _ ho).2.1.symm ndi (old _ _ ho).2.2 .none hlen hsz ?_ ?_ (ps.length - 0) 0 h3 tk 0 0 rfl (Nat.zero_le _) it3 ⟨_,(old _ _ ho).1,rfl,c,rfl⟩ (λ _ _ _ _ e=>e) ?_ (λ x hx=>by cases hx)
 ·intro i p hp
  obtain ⟨t,q1,⟨to,q2,q3⟩,q4⟩:=hps i p hp
  have ht:=old _ _ q2
  have q4':=q4
  obtain ⟨po,_,_,r1,_⟩:=q4'
  have hq:=old _ _ r1
  exact ⟨t,q1,ht.2.1,ht.2.2,hq.2.1,hq.2.2,⟨to,ht.1,q3⟩,zsl q4 λ o e=>(old _ _ e).1⟩
 ·intro h' tk' kp' hd'
  refine ⟨rfl,k h' tk' (λ b o e=>?_) hd'⟩
  obtain ⟨q1,q2,q3⟩:=old b o e
  exact kp' b o q2 q3 q1
 ·exact ⟨_, #[],0,kp3 _ _ (kp2 _ _ hd1),⟨rfl,rfl,rfl⟩,rfl,rfl,(λ x hx=>by cases hx),List.nodup_nil⟩
end
noncomputable def zlb (es:List Ent) (ps:List Ent):List Ent:=ps.foldl (λ es p=>putM es p.1 p.2.1 p.2.2) es
theorem zsg:∀ {ps:List Ent} {rs:List Row},Paired EntR ps rs→∀ {es:List Ent} {xs:List Row},Paired EntR es xs→Paired EntR (zlb es ps) (zbb xs rs)
 | _,_,.nil,_,_,h=>h
 | p::ps,r::rs,.cons a b,es,xs,h=>by
  show Paired EntR (zlb (putM es p.1 p.2.1 p.2.2) ps) (zbb (storedH xs r.1 r.2.1 r.2.2) rs)
  refine zsg b ?_
  rw [a.1,a.2.1]
  exact zat h p.1 a.2.2
theorem zed:∀ (ps:List Ent) (es:List Ent),(zlb es ps).length≤es.length+ps.length
 | [],es=>Nat.le_refl _
 | p::ps,es=>by
  have h1:=zed ps (putM es p.1 p.2.1 p.2.2)
  have h2:=zgr es p.1 p.2.1 p.2.2
  show (zlb (putM es p.1 p.2.1 p.2.2) ps).length≤es.length+(ps.length+1)
  omega
section
variable {X:Cx}
noncomputable def zdr (K:W.Frag) (H:Hp) (ps:List Ent) (vs:List V):Prop:=Paired (λ (p:Ent) (v:V)=>∃ t,v = .ref t∧SqT K H t [.ref p.2.1,p.2.2]∧SqT K H p.2.1 (mkV p.1)) ps vs
noncomputable def zvw (P:Program) (w:World) (K:W.Frag):List V→Hp→VK→Prop:=λ xs H Q=>∃ (p:Addr) (vs:List V) (ps:List Ent),xs=[.ref p]∧SqL K H p vs∧zdr K H ps vs∧ps.length≤1000∧∀ q o,H q=none→Q (.ref q) (upd H q (dO P w q (zlb [] ps) o))
theorem zwf {pins:List (Addr×Obj)} {σ:St} {H:Hp} {s:Shared} (I:Inv X pins σ H s):∀ {ps:List Ent} {vs:List V} {us:List Value},zdr X.K H ps vs→Vals vs us→∃ rs:List Row,Paired EntR ps rs∧us.length=rs.length∧∀ (i:Nat) r,rs[i]? = some r→∃ t,us[i]? = some (.ref t)∧IsTup s.heap t #[.ref r.2.1,r.2.2]∧(dK X.prog X.w).is s.heap r.1 r.2.1
 | _,_,_,.nil,.nil=>⟨[],.nil,rfl,λ i r e=>by simp at e⟩
 | p::ps,v::vs,u::us,.cons a b,.cons ra rb=>by
  obtain ⟨rs,h1,h2,h3⟩:=zwf I b rb
  obtain ⟨t,rfl,ht,hm⟩:=a
  cases ra
  obtain ⟨its,rv,tp,_⟩:=I.tuple ht
  cases rv with
  | cons r1 r2 =>
   cases r2 with
   | cons r3 r4 =>
    cases r4
    cases r1
    rename_i uv
    refine ⟨(mkK p.1,p.2.1,uv)::rs,.cons ⟨rfl,rfl,r3⟩ h1,by rw [List.length_cons,List.length_cons,h2],λ i r e=>?_⟩
    cases i with
    | zero =>
     cases (Option.some.inj e)
     exact ⟨t,rfl,tp,I.mark hm⟩
    | succ i=>exact h3 i r (by simpa using e)
theorem zbn (hc:X.calm=true) (hu:X.A.units+100<cLine):zrj X (.type "dict") (zvw X.prog X.w X.K):=by
 intro pins s σ H xs us Q I r h
 obtain ⟨p,vs,ps,rfl,hq,hp,hz,q⟩:=h
 obtain ⟨u,rfl,ru⟩:=zil r
 cases ru
 obtain ⟨its,rv,pl,hsz⟩:=I.list hq
 obtain ⟨rs,h1,h2,h3⟩:=zwf I hp rv
 have hpl:ps.length=rs.length:=Paired.length h1
 obtain ⟨o,n,ho,oc,od,odt⟩:=id pl
 obtain ⟨cls,dct,dat,sl⟩:=o
 cases oc
 cases od
 cases odt
 refine zxe (ps:=rs) (I.ok.hd hc) (tupleKind_room_in1 (A:=X.A.in1) (by show X.A.units+1+1<cLine;omega)) ho (by rw [List.size_toArray];exact h2) (by omega) (λ i r' e=>by rw [List.getElem?_toArray];exact h3 i r' e) λ h' tk kp dd=>?_
 have hb:(s.heap.objs.size == sysModules)=false:=beq_eq_false_iff_ne.mpr (Ne.symm (Nat.ne_of_lt I.bigM))
 have hl:=zed ps []
 obtain ⟨ob,hob⟩:=zb0 (P:=X.prog) (w:=X.w) (H:=H) (es:=zlb [] ps) (Nat.le_of_lt (zyc (by rw [List.length_nil] at hl;omega))) hb (zsg h1 .nil) dd
 exact ⟨.ref s.heap.objs.size,_,I.laid (t':=tk) kp (Nat.le_refl _) hob,rfl,q _ ob (I.hok.fresh (Nat.le_refl _))⟩
end
end L2
namespace L2
open PySem PySem.Spec PyProof.Rows PySem.NumText
theorem zqf:entryFor table "dict_itemiterator.__iter__" = some Builtin.«dict_keyiterator.__iter__» := entryFor_alias (id' := "dict_keyiterator.__iter__") (by rfl) (by rfl) (by decide +kernel) (by rfl)
noncomputable def zej (v d:Addr):HO := .ext λ h=>h.IsItemsView v d
structure Raw (P:Program) (w:World) (es:List Ent) (o:Obj) (ds:Array DictEntry) (ep:Nat) (rs:List Row):Prop where
 rel:Paired EntR es rs
 cl:o.cls = .type "dict"
 dat:o.data = .dict ds ep
 lst:ds.toList=rs.map (entryOfKey (dK P w))
theorem Raw.size {P:Program} {w:World} {es:List Ent} {o:Obj} {ds:Array DictEntry} {ep:Nat} {rs:List Row} (R:Raw P w es o ds ep rs):ds.size=es.length:=by
 rw [← Array.length_toList,R.lst,List.length_map,← Paired.length R.rel]
theorem znt:∀ {es:List Ent} {rs:List Row},Paired EntR es rs→∀ {i:Nat} {e:Ent},es[i]? = some e→∃ r,rs[i]? = some r∧EntR e r
 | _,_,.nil,i,e,h=>by simp at h
 | _,_,.cons a b,0,e,h=>by cases (Option.some.inj h);exact ⟨_,rfl,a⟩
 | _,_,.cons a b,i+1,e,h=>by
  obtain ⟨r,h1,h2⟩:=znt b (i:=i) (by simpa using h)
  exact ⟨r,by simpa using h1,h2⟩
theorem Raw.at_ {P:Program} {w:World} {es:List Ent} {o:Obj} {ds:Array DictEntry} {ep:Nat} {rs:List Row} (R:Raw P w es o ds ep rs) {i:Nat} {e:Ent} (h:es[i]? = some e):∃ u q,ds[i]? = some u∧u.key = .ref e.2.1∧u.val=q∧RelV e.2.2 q:=by
 obtain ⟨r,h1,h2⟩:=znt R.rel h
 refine ⟨entryOfKey (dK P w) r,r.2.2,?_,?_,rfl,h2.2.2⟩
 ·rw [← Array.getElem?_toList,R.lst,List.getElem?_map,h1];rfl
 ·show Value.ref r.2.1=_
  rw [h2.2.1]
section
variable {X:Cx} {pins:List (Addr×Obj)} {σ:St} {H:Hp} {s:Shared} {a:Addr} {es:List Ent} {o:Obj}
theorem Inv.raw (I:Inv X pins σ H s) (ob:H a=some (dO X.prog X.w a es o)):s.heap.get? a=some o∧(a == sysModules)=false∧es.length≤sizeLine∧∃ ds ep rs,Raw X.prog X.w es o ds ep rs:=by
 obtain ⟨⟨z,y,h1,xs,r,ds,ep,h2,h3,h4,h5⟩,_,_⟩:=(show ObjOk X.prog X.w H s.heap a (dO X.prog X.w a es o) from I.hok a _ ob)
 exact ⟨h1,y,z,ds,ep,xs,r,h2.1,h3,h4⟩
end
noncomputable def Itm (P:Program) (w:World) (a:Addr) (es:List Ent) (o:Obj):It :=
 ⟨λ i H=>H a=some (dO P w a es o)∧i<es.length,λ i H v H'=>∃ T e,v = .ref T∧H T=none∧H'=upd H T (.tup [.ref e.2.1,e.2.2])∧es[i]? = some e,λ i H=>H a=some (dO P w a es o)∧es.length≤i⟩
theorem ztk {P:Program} {w:World} {K:W.Frag} {elts:List Expr} {kk:Nat} {tp:Pos} (a it:Addr) (es:List Ent) (o:Obj) (ds:Array DictEntry) (ep:Nat) (hod:o.data = .dict ds ep) :
  Turn P w K (.Tuple elts kk tp) (Itm P w a es o) [it] it (λ i h=>∃ ok ov,h.get? it=some (zze a i es.length ep .none false ok ov)) where
 mem:=by simp
 obj:=λ i h st b hb=>by
  obtain ⟨ok,ov,he⟩:=st
  have:b=it:=by simpa using hb
  subst this
  exact ⟨_,he,λ v z=>nomatch z⟩
 keep:=λ i h h' st k=>let ⟨ok,ov,he⟩:=st; ⟨ok,ov,k it (by simp) _ he⟩
 item:=by
  intro X hP hw hK hc i pins s σ H E I hf st hg
  subst hP hw hK
  obtain ⟨ok,ov,he⟩:=st
  obtain ⟨hob,hi⟩:=hg
  obtain ⟨h1,_,_,ds',ep',rs,R⟩:=I.raw hob
  have e0:=R.dat
  rw [hod] at e0
  cases e0
  obtain ⟨e,hei⟩:∃ e,es[i]? = some e:=⟨_,List.getElem?_eq_getElem hi⟩
  obtain ⟨u,q,hu,hk,hv,rq⟩:=R.at_ hei
  have helt:it<s.heap.objs.size:=Heap.lt_size he
  rw [← R.size] at he
  refine zci he ⟨o,h1,R.cl,R.dat⟩ hu λ h' g1 g2 g3 g4=>?_
  refine ⟨_,rfl,wpAny_letOwnedTupleGo_items g1 λ h2 he2 hs2=>?_⟩
  rw [hk,hv] at g2
  have hT2:h2.get? s.heap.objs.size=some { cls := .type "tuple",data := .seq #[.ref e.2.1,q] }:=(hs2.2 _ (Nat.ne_of_gt helt)).trans g2
  have I2:Inv X pins σ (upd H s.heap.objs.size (.tup [.ref e.2.1,e.2.2])) { s with heap:=h2,toks:=s.toks }:=by
   refine I.turnLay (ch:=[it]) hf (λ b ob hb z=>?_) (Nat.le_refl _) ?_
   ·have n1:b≠it:=λ z=>hb (by simp [z])
    exact (hs2.2 b n1).trans (g4 b ob n1 z)
   ·exact ⟨by show 2≤sizeLine;decide,[.ref e.2.1,q],.cons rfl (.cons rq .nil),⟨_,hT2,rfl,_,rfl⟩⟩
  have hn:H s.heap.objs.size=none:=I.hok.fresh (Nat.le_refl _)
  refine ⟨.ref s.heap.objs.size,_,I2,rfl,⟨_,e,rfl,hn,rfl,hei⟩,⟨_,_,by rw [← R.size];exact he2⟩,λ b hb=>?_⟩
  have hb':b=it:=by simpa using hb
  subst hb'
  rw [zja (Nat.ne_of_lt helt)]
  exact (hf b hb).1
 done:=by
  intro X hP hw hK hc i pins s σ H E I hf st hg
  subst hP hw hK
  obtain ⟨ok,ov,he⟩:=st
  obtain ⟨hob,hi⟩:=hg
  obtain ⟨h1,_,_,ds',ep',rs,R⟩:=I.raw hob
  have e0:=R.dat
  rw [hod] at e0
  cases e0
  rw [← R.size] at he
  exact zui (I.ok.hd hc) he ⟨o,h1,R.cl,R.dat⟩ (by rw [Array.getElem?_eq_none];rw [R.size];exact hi) λ h' kp=>⟨rfl,I.turnedL (t':=s.toks) hf λ b ob hb q=>kp b ob (λ z=>hb (by simp [z])) q⟩
 self:=λ A i s Q E st h=>by
  obtain ⟨ok,ov,he⟩:=st
  have hT:s.TypeIs (.ref it) "dict_itemiterator" := ⟨_,he,rfl⟩
  exact wpAny_pyIter_slot hT F.slot_dict_itemiterator_iter (wpAny_call_entry F.slot_dict_itemiterator_iter hT zqf (wpAny_pure ⟨_,rfl, "dict_itemiterator",_,hT,F.slot_dict_itemiterator_next.lookup,h⟩) (F.args_dict_itemiterator_iter_1 _))
section
variable {X:Cx} {o:Expr} {td:TE} {apos cpos:Pos}
theorem zyg {prog:Program} {w:World} {A:Around} {E:Value→Shared→Prop} {s:Shared} {d:Addr} {Q:Value→Shared→Prop} (hT:s.TypeIs (.ref d) "dict") (hd:(d == sysModules)=false) (h:Q (.ref s.heap.objs.size) { s with heap:=s.heap.push { cls := .type "dict_items",data := .fields #[.ref d] } }) :
  wpAny (model prog w) A (call (.builtin "dict.items") [.ref d]) Q E s:=by
 refine wpAny_call_entry F.slot_dict_items hT F.entry_dict_items ?_ (F.args_dict_items_1 _)
 unfold Builtin.«dict.items» Builtin.Dict.noArgs Builtin.Dict.showsAll Builtin.Dict.nameIsSure
 refine wpAny_bind (wpAny_bind (wpAny_notOrdered_dict hT (wpAny_bind (wpAny_of_eq (a:=()) (if_neg (by show ¬ (false || false)=true;decide)) (wpAny_bind (wpAny_pure (wpAny_pure ?_)))))))
 rw [hd]
 refine wpAny_bind (wpAny_of_eq (a:=()) (if_neg Bool.false_ne_true) (wpAny_bind (wpAny_newObj_type (wpAny_pure ⟨_,rfl,h⟩) ?_)))
 simp only [sizeOk,List.size_toArray,List.length_cons,List.length_nil,sizeLine_eq]
 omega
noncomputable def zrw (P:Program) (w:World) (td:TE):TE:=λ σ H Q=>td σ H λ x H1=>∃ a es o,x = .ref a∧H1 a=some (dO P w a es o)∧∀ v,H1 v=none→Q (.ref v) (upd H1 v (zej v a))
theorem Inv.isDict {pins:List (Addr×Obj)} {σ:St} {H:Hp} {s:Shared} {a:Addr} {es:List Ent} {ob:Obj} (I:Inv X pins σ H s) (h:H a=some (dO X.prog X.w a es ob)):s.TypeIs (.ref a) "dict" ∧ ob.dict=none:=by
 obtain ⟨⟨z,y,h1,xs,r,ds,ep,h2,h3,h4,h5⟩,_,_⟩:=(show ObjOk X.prog X.w H s.heap a (dO X.prog X.w a es ob) from I.hok a _ h)
 exact ⟨⟨_,h1,h2.1⟩,h2.2.1⟩
theorem ztr (ho:PE X o td) (hbase:attributeBase o "items" X.env (eval o X.env)=eval o X.env:=by rfl) (hline:(apos.endLine == cpos.line)=true:=by rfl):PE X (.Call (.Attribute o "items" apos) [] [] cpos) (zrw X.prog X.w td) := .mk <| by
 intro pins s σ H Q I h
 refine wpAny_Call_method0_late hbase hline (thn (ho pins s σ H _ I h) λ v s1 ⟨x,H1,I1,r1,a,es,ob,ex,hob,q1⟩=>?_)
 subst ex
 cases r1
 obtain ⟨hT,hdn⟩:=I1.isDict hob
 obtain ⟨h1,hb,_⟩:=I1.raw hob
 refine ⟨"dict", "dict.items",PySem.F.plainAttrs_dict,PySem.F.slot_dict_items,PySem.F.type_dict_items,hT,λ b e=>?_,Calls.callWith_builtin rfl (PySem.evalArgs_none (zyg hT hb ?_))⟩
 ·cases e
  exact ⟨ob,h1,hdn⟩
 ·have hat:=Heap.get?_push_size s1.heap (o:={ cls := .type "dict_items",data := .fields #[.ref a] }) rfl
  refine ⟨.ref s1.heap.objs.size,_,I1.laid (t':=s1.toks) (λ b u e=>Heap.get?_push_of_some _ e) (Nat.le_refl _) (o:=zej s1.heap.objs.size a) ⟨⟨_,hat,rfl,rfl⟩,⟨_,hat⟩,?_⟩,rfl,q1 _ (I1.hok.fresh (Nat.le_refl _))⟩
  rintro g1 g2 ⟨vo,v1,v2⟩ k
  exact ⟨vo,k _ v1,v2⟩
noncomputable def zxx (P:Program) (w:World) (td:TE):TI:=λ σ H R=>td σ H λ x H1=>∃ a es o,x = .ref a∧H1 a=some (dO P w a es o)∧∀ v,H1 v=none→R (Itm P w a es o) (upd H1 v (zej v a))
theorem zzl {elts:List Expr} {kk:Nat} {tp:Pos} (ho:PE X o td) (hbase:attributeBase o "items" X.env (eval o X.env)=eval o X.env:=by rfl) (hline:(apos.endLine == cpos.line)=true:=by rfl) :
  PI X (.Tuple elts kk tp) (.Call (.Attribute o "items" apos) [] [] cpos) (zxx X.prog X.w td) := .mk <| by
 intro pins s σ H R I h
 refine wpAny_Call_method0_late hbase hline (thn (ho pins s σ H _ I h) λ v s1 ⟨x,H1,I1,r1,a,es,ob,ex,hob,q1⟩=>?_)
 subst ex
 cases r1
 obtain ⟨hT,hdn⟩:=I1.isDict hob
 obtain ⟨h1,hb,_⟩:=I1.raw hob
 refine ⟨"dict", "dict.items",PySem.F.plainAttrs_dict,PySem.F.slot_dict_items,PySem.F.type_dict_items,hT,λ b e=>?_,Calls.callWith_builtin rfl (PySem.evalArgs_none (zyg hT hb ?_))⟩
 ·cases e
  exact ⟨ob,h1,hdn⟩
 ·obtain ⟨h2,hh2⟩:∃ h2,h2=s1.heap.push { cls := .type "dict_items",data := .fields #[.ref a] }:=⟨_,rfl⟩
  have kp2:∀ b u,s1.heap.get? b=some u→h2.get? b=some u:=λ b u e=>by rw [hh2];exact Heap.get?_push_of_some _ e
  have hat:h2.get? s1.heap.objs.size=some { cls := .type "dict_items",data := .fields #[.ref a] }:=by rw [hh2];exact Heap.get?_push_size _ rfl
  have I2:Inv X pins σ (upd H1 s1.heap.objs.size (zej s1.heap.objs.size a)) { s1 with heap:=h2,toks:=s1.toks }:=by
   refine I1.laid kp2 (Nat.le_refl _) (o:=zej s1.heap.objs.size a) ⟨⟨_,hat,rfl,rfl⟩,⟨_,hat⟩,?_⟩
   rintro g1 g2 ⟨vo,v1,v2⟩ k
   exact ⟨vo,k _ v1,v2⟩
  have hn:=I1.hok.fresh (Nat.le_refl s1.heap.objs.size)
  have hob2:(upd H1 s1.heap.objs.size (zej s1.heap.objs.size a)) a=some (dO X.prog X.w a es ob):=zea hn _ _ hob
  obtain ⟨d1,_,_,ds,ep,rs,RR⟩:=I2.raw hob2
  show wpAny _ _ (pyIter _) _ _ { s1 with heap:=s1.heap.push { cls := .type "dict_items",data := .fields #[.ref a] } }
  rw [← hh2]
  refine zvg (s:={ s1 with heap:=h2 }) (d:=a) ⟨_,hat,rfl,rfl⟩ ⟨ob,d1,RR.cl,RR.dat⟩ ?_
  have hit:=Heap.get?_push_size h2 (o:=zze a 0 ds.size ep .none false .none .none) rfl
  have I3:Inv X pins σ (upd H1 s1.heap.objs.size (zej s1.heap.objs.size a)) { s1 with heap:=h2.push (zze a 0 ds.size ep .none false .none .none),toks:=s1.toks }:=I2.kept (t':=s1.toks) λ b u e=>Heap.get?_push_of_some _ e
  refine ⟨h2.objs.size,[h2.objs.size],_,_,_,rfl,I3,ztk a h2.objs.size es ob ds ep RR.dat,⟨_,_,by rw [← RR.size];exact hit⟩,λ c hc=>?_,q1 _ hn⟩
  have hc':c=h2.objs.size:=by simpa using hc
  subst hc'
  exact I2.fpOk (Nat.le_refl _) (I2.hok.fresh (Nat.le_refl _))
end
end L2
namespace L2
open PySem PySem.Spec PyProof.Rows PySem.NumText
noncomputable def mLt (a b:Mark):Bool:=decide (a.1<b.1 ∨ (a.1=b.1∧a.2<b.2))
theorem mLt_sto:STO mLt where
 irr:=λ a=>decide_eq_false (by omega)
 tr:=λ a b c h1 h2=>by
  have h1:=of_decide_eq_true h1
  have h2:=of_decide_eq_true h2
  exact decide_eq_true (by omega)
 tri:=λ a b hn h=>by
  have h:=of_decide_eq_false h
  refine decide_eq_true ?_
  by_cases e1:a.1=b.1
  ·have e2:a.2≠b.2:=λ e2=>hn (Prod.ext e1 e2)
   omega
  ·omega
noncomputable def markD (m:Mark):PyData := .tuple [.int m.1,.int m.2]
theorem zwi (a b:Mark):PyData.eqv (markD a) (markD b)=decide (a=b):=by
 have e:PyData.eqv (markD a) (markD b)=(a.1 == b.1 && (a.2 == b.2 && true)):=rfl
 rw [e,Bool.eq_iff_iff]
 obtain ⟨a1,a2⟩:=a
 obtain ⟨b1,b2⟩:=b
 simp
theorem zwl (a b:Mark):ltD (markD a) (markD b)=some (mLt a b):=by
 show ltDs [.int a.1,.int a.2] [.int b.1,.int b.2]=_
 have i1:∀ x y:Int,PyData.eqv (.int x) (.int y)=(x == y):=λ _ _=>rfl
 have i2:∀ x y:Int,ltD (.int x) (.int y)=some (decide (x<y)):=λ _ _=>rfl
 unfold ltDs
 rw [i1]
 by_cases e1:a.1=b.1
 ·rw [if_pos (by simp [e1])]
  unfold ltDs
  rw [i1]
  by_cases e2:a.2=b.2
  ·rw [if_pos (by simp [e2])]
   unfold ltDs mLt
   simp [e1,e2]
  ·rw [if_neg (by simp [e2]),i2]
   unfold mLt
   simp [e1]
 ·rw [if_neg (by simp [e1]),i2]
  unfold mLt
  simp [e1]
theorem zhj {K:W.Frag} {H:Hp} {q:Addr} {m:Mark} (h:SqT K H q (mkV m)):DV K H (markD m) (.ref q):=⟨q,_,rfl,h,_,_,rfl,rfl,_,_,rfl,rfl,rfl⟩
theorem ztg {K:W.Frag} {H:Hp} {m:Mark} {v:V} (h:DV K H (markD m) v):∃ q,v = .ref q∧SqT K H q (mkV m):=by
 obtain ⟨q,vs,rfl,h1,v1,r1,rfl,e1,v2,r2,rfl,e2,e3⟩:=h
 cases (show v1 = .int m.1 from e1)
 cases (show v2 = .int m.2 from e2)
 cases (show r2=[] from e3)
 exact ⟨q,rfl,h1⟩
noncomputable def zfp (val:Mark→PyData) (m:Mark):PyData := .tuple [markD m,val m]
theorem zjl {es:List Ent} {val:Mark→PyData} (hsh:∀ e∈es,SeqAt.shaped (zfp val e.1)=true) (nd:(es.map (·.1)).Nodup) (few:es.length<64):Srt (es.map (·.1)) (λ m=>[markD m,val m]) mLt .tup where
 sto:=mLt_sto
 few:=by rw [List.length_map];exact few
 nd:=nd
 lts:=by
  intro a ha b hb
  show (if PyData.eqv (markD a) (markD b)=true then ltDs [val a] [val b] else ltD (markD a) (markD b))=_
  rw [zwi]
  by_cases e:a=b
  ·subst e
   rw [if_pos (decide_eq_true rfl),mLt_sto.irr]
   obtain ⟨e0,he0,rfl⟩:=List.mem_map.mp ha
   have h1:=hsh e0 he0
   unfold SeqAt.shaped at h1
   have h2:PyData.canLay0 (zfp val e0.1)=true:=by
    rw [Bool.and_eq_true] at h1
    exact h1.1
   have h3:PyData.eqvAll [markD e0.1,val e0.1] [markD e0.1,val e0.1]=true:=SeqAt.eqvAll_refl _ h2
   have h4:PyData.eqv (val e0.1) (val e0.1)=true:=by
    have h3:(PyData.eqv (markD e0.1) (markD e0.1) && (PyData.eqv (val e0.1) (val e0.1) && true))=true:=h3
    rw [Bool.and_eq_true,Bool.and_eq_true] at h3
    exact h3.2.1
   show (if PyData.eqv (val e0.1) (val e0.1)=true then ltDs [] [] else _)=_
   rw [if_pos h4]
   unfold ltDs
   rfl
  ·rw [if_neg (by rw [decide_eq_false e];exact Bool.false_ne_true)]
   exact zwl a b
 fst:=λ a _=>⟨_,_,rfl,⟨_,rfl⟩⟩
 shp:=by
  intro a ha
  obtain ⟨e0,he0,rfl⟩:=List.mem_map.mp ha
  exact hsh e0 he0
noncomputable def zvy (K:W.Frag) (H:Hp) (es:List Ent) (val:Mark→PyData) (Q:VK):Prop:=∀ (H':Hp) (l:Addr) (bs:List Mark) (ws:List V),Same H H'→(Plain H→Plain H')→H' l=none→bs.Perm (es.map (·.1))→bs.Pairwise (λ a b=>mLt a b=true)→DVs K H' (bs.map (zfp val)) ws→Q (.ref l) (upd H' l (.lst ws))
theorem Plain.layT {H:Hp} (p:Plain H):∀ (ts:List (Addr×List V)),Plain (layT H ts)
 | []=>p
 | t::ts=>(Plain.layT p ts).tup
section
variable {X:Cx}
noncomputable def zpw (P:Program) (w:World) (K:W.Frag):List V→Hp→VK→Prop:=λ xs H Q=>∃ (v a:Addr) (es:List Ent) (o:Obj) (val:Mark→PyData),xs=[.ref v]∧H v=some (zej v a)∧H a=some (dO P w a es o)∧(∀ e∈es,SqT K H e.2.1 (mkV e.1))∧(∀ e∈es,DV K H (val e.1) e.2.2) ∧
 (∀ e∈es,SeqAt.shaped (zfp val e.1)=true)∧(es.map (·.1)).Nodup∧es.length<64∧zvy K H es val Q
theorem zrh (hc:X.calm=true) (hu:X.A.units+100<cLine):zrj X (.builtin "sorted") (zpw X.prog X.w X.K):=by
 intro pins s σ H xs us Q I r h
 obtain ⟨v,a,es,o,val,rfl,hv,ha,hk,hd,hsh,nd,few,q⟩:=h
 obtain ⟨u,rfl,ru⟩:=zil r
 cases ru
 obtain ⟨hview,_,_⟩:=I.hok v _ hv
 obtain ⟨h1,_,_,ds,ep,rs,RR⟩:=I.raw ha
 refine zdd (zfg (I.ok.hd hc) hview ⟨o,h1,RR.cl,RR.dat⟩ (by rw [RR.size,sizeLine_eq];omega) λ h' tk as kp hal hG=>?_)
 rw [RR.size] at hal
 have hts:∀ t∈List.zipWith (λ a (e:Ent)=>(a,[V.ref e.2.1,e.2.2])) as es,s.heap.objs.size≤t.1∧ObjOk X.prog X.w H h' t.1 (.tup t.2):=by
  intro t ht
  obtain ⟨j,hj⟩:=List.getElem?_of_mem ht
  rw [List.getElem?_zipWith] at hj
  cases ea:as[j]? with
  | none=>rw [ea] at hj;cases hj
  | some aj =>
   cases ee:es[j]? with
   | none=>rw [ea,ee] at hj;cases hj
   | some e =>
    rw [ea,ee] at hj
    cases hj
    obtain ⟨q1,u,q2,q3⟩:=hG.at_ j aj ea
    obtain ⟨u',x,q4,q5,q6,q7⟩:=RR.at_ ee
    rw [q4] at q2
    cases q2
    refine ⟨q1,by show 2≤sizeLine;decide,[.ref e.2.1,x],.cons rfl (.cons q7 .nil),⟨_,q3,rfl,0,?_⟩⟩
    rw [q5,q6]
    rfl
 have I1:=I.laidAll (t':=tk) kp hts
 have sm:Same H (layT H (List.zipWith (λ a (e:Ent)=>(a,[V.ref e.2.1,e.2.2])) as es)):=λ b z e=>by
  rw [zsc λ t ht=>Nat.ne_of_lt (Nat.lt_of_lt_of_le (I.hok.lt e) (hts t ht).1)];exact e
 have hnd:((List.zipWith (λ a (e:Ent)=>(a,[V.ref e.2.1,e.2.2])) as es).map (·.1)).Nodup:=by
  have:(List.zipWith (λ a (e:Ent)=>(a,[V.ref e.2.1,e.2.2])) as es).map (·.1)=as:=by
   rw [List.map_zipWith]
   exact List.ext_getElem? λ j=>by
    rw [List.getElem?_zipWith]
    cases ea:as[j]? with
    | none=>rfl
    | some aj =>
     cases ee:es[j]? with
     | none =>
      have h1:=(List.getElem?_eq_some_iff.mp ea).1
      have h2:=List.getElem?_eq_none_iff.mp ee
      omega
     | some e=>rfl
  rw [this]
  exact hG.nd
 have dvs:DVs X.K (layT H (List.zipWith (λ a (e:Ent)=>(a,[V.ref e.2.1,e.2.2])) as es)) ((es.map (·.1)).map (zfp val)) (as.map V.ref):=by
  have gen:∀ (as':List Addr) (es':List Ent),as'.length=es'.length→(∀ (j:Nat) aj e,as'[j]? = some aj→es'[j]? = some e→(aj,[V.ref e.2.1,e.2.2])∈List.zipWith (λ a (e:Ent)=>(a,[V.ref e.2.1,e.2.2])) as es∧e∈es)→DVs X.K (layT H (List.zipWith (λ a (e:Ent)=>(a,[V.ref e.2.1,e.2.2])) as es)) ((es'.map (·.1)).map (zfp val)) (as'.map V.ref):=by
   intro as'
   induction as' with
   | nil =>
    intro es' hl hm
    cases es' with
    | nil=>rfl
    | cons e es'=>cases hl
   | cons a1 as' ih =>
    intro es' hl hm
    cases es' with
    | nil=>cases hl
    | cons e es' =>
     obtain ⟨m1,m2⟩:=hm 0 a1 e rfl rfl
     refine ⟨_,_,rfl,⟨a1,_,rfl,SqT.of (ziq hnd m1),_,_,rfl,zhj (sm.seqT (hk e m2)),_,_,rfl,DV.same sm _ _ (hd e m2),rfl⟩,ih es' (by simpa using hl) λ j aj e h1 h2=>hm (j+1) aj e (by simpa using h1) (by simpa using h2)⟩
  refine gen as es hal λ j aj e h1 h2=>⟨List.mem_of_getElem? (i:=j) ?_,List.mem_of_getElem? h2⟩
  rw [List.getElem?_zipWith,h1,h2]
 have vals:Vals (as.map V.ref) (as.map Value.ref):=by
  clear hts I1 sm hnd dvs hal hG
  induction as with
  | nil=>exact .nil
  | cons a as ih=>exact .cons rfl ih
 exact zpq (s:=s) (α:=Mark) (enc:=λ m=>[markD m,val m]) (lt:=mLt) hu (zjl hsh nd few) I1 vals dvs λ l bs ws hl pm pw hw=>q _ l bs ws sm (λ p=>Plain.layT p _) hl pm pw hw
theorem zon:zrj X (.builtin "len") (λ xs H Q=>∃ a es o,xs=[.ref a]∧H a=some (dO X.prog X.w a es o)∧Q (.int es.length) H):=by
 intro pins s σ H xs us Q I r h
 obtain ⟨a,es,o,rfl,ha,q⟩:=h
 obtain ⟨u,rfl,ru⟩:=zil r
 cases ru
 obtain ⟨hT,_⟩:=I.isDict ha
 obtain ⟨h1,hb,hz,ds,ep,rs,RR⟩:=I.raw ha
 have hz':es.length≤16777216:=by rw [← sizeLine_eq];exact hz
 refine PyProof.Rows.call_len_slot (n:=(es.length:Int)) hT F.slot_dict_len (λ Q' q'=>?_) (by omega) (by omega) ⟨.int es.length,H,I.tok _,⟨_,rfl⟩,q⟩
 refine wpAny_call_entry F.slot_dict_len hT F.entry_dict_len ?_ (F.args_dict_len_1 _)
 unfold Builtin.«dict.__len__» Builtin.Dict.dictSlotNone
 unfold Builtin.Dict.pendingCount dictSize retInt
 refine wpAny_bind (wpAny_bind (wpAny_notOrdered_dict hT (wpAny_bind (wpAny_pure (wpAny_pure (wpAny_bind (wpAny_pure (wpAny_bind (wpAny_bind (wpAny_dictEntries h1 RR.dat (wpAny_pure ?_)))))))))))
 refine wpAny_bind (wpAny_of_eq (a:=0) (if_neg (by rw [hb];exact Bool.false_ne_true)) (wpAny_bind (wpAny_mkInt (wpAny_pure ⟨_,rfl,?_⟩))))
 rw [RR.size,show ((es.length:Nat):Int)+((0:Nat):Int)=(es.length:Int) by omega]
 exact q'
end
end L2
namespace L2
open PySem PySem.Spec PyProof.Rows PySem.NumText
noncomputable abbrev Sh:=List (Mark×Ver)
noncomputable def prD (m:Mark×Ver):PyData := .tuple [markD m.1,ver m.2]
noncomputable def look:Sh→Mark→Option Ver
 | [],_=>none
 | m::ms,k=>if m.1=k then some m.2 else look ms k
noncomputable def EnS (K:W.Frag) (H:Hp):List Ent→Sh→Prop:=Paired λ (e:Ent) (m:Mark×Ver)=>e.1=m.1∧SqT K H e.2.1 (mkV m.1)∧DV K H (ver m.2) e.2.2
structure ShAt (P:Program) (w:World) (K:W.Frag) (C:Addr) (H:Hp) (p:Addr) (ms:Sh):Prop where
 ex:∃ dx d es o,H p=some (.ins C dx [("versions",.ref d)])∧H d=some (dO P w d es o)∧EnS K H es ms
 nd:(ms.map (·.1)).Nodup
 ok:∀ m∈ms,okV m.2
 few:ms.length<64
theorem EnS.imp {K:W.Frag} {H H':Hp} {es:List Ent} {ms:Sh} (h:EnS K H es ms) (f:∀ (q:Addr) m,SqT K H q (mkV m)→SqT K H' q (mkV m)) (g:∀ v x,DV K H (ver v) x→DV K H' (ver v) x):EnS K H' es ms :=
 Paired.mapP h λ e m ⟨h1,h2,h3⟩=>⟨h1,f _ _ h2,g _ _ h3⟩
theorem ShAt.same {P:Program} {w:World} {K:W.Frag} {C:Addr} {H H':Hp} {p:Addr} {ms:Sh} (h:ShAt P w K C H p ms) (s:Same H H'):ShAt P w K C H' p ms:=by
 obtain ⟨dx,d,es,o,h1,h2,h3⟩:=h.ex
 exact ⟨⟨dx,d,es,o,s _ _ h1,s _ _ h2,h3.imp (λ _ _ q=>s.seqT q) λ _ _ q=>DV.same s _ _ q⟩,h.nd,h.ok,h.few⟩
theorem zyq (v:Ver):noL (ver v)=true:=zts (some v)
theorem zrc {ms:Sh} (nd:(ms.map (·.1)).Nodup):∀ {m:Mark×Ver},m∈ms→look ms m.1=some m.2:=by
 induction ms with
 | nil=>intro m h;cases h
 | cons a ms ih =>
  intro m h
  have hn:=List.nodup_cons.mp nd
  unfold look
  rcases List.mem_cons.mp h with rfl | h
  ·rw [if_pos rfl]
  ·rw [if_neg (λ z=>hn.1 (by show a.1∈_;rw [z];exact List.mem_map_of_mem (f:=(·.1)) h))]
   exact ih hn.2 h
theorem zjf:∀ {es:List Ent} {m:Mark},m∉es.map (·.1)→zmp es m=none
 | [],_,_=>rfl
 | e::es,m,h=>by
  unfold zmp
  rw [if_neg (λ z=>h (by rw [← z];exact List.mem_cons_self))]
  exact zjf λ z=>h (List.mem_cons_of_mem _ z)
theorem zbi:∀ {es:List Ent} {m:Mark},m∈es.map (·.1)→(zmp es m).isSome=true
 | e::es,m,h=>by
  unfold zmp
  by_cases z:e.1=m
  ·rw [if_pos z];rfl
  ·rw [if_neg z]
   rcases List.mem_cons.mp h with q | q
   ·exact absurd q.symm z
   ·exact zbi q
theorem zrg:∀ (ps:List Ent) (es:List Ent),((es++ps).map (·.1)).Nodup→zlb es ps=es++ps
 | [],es,_=>by rw [List.append_nil];rfl
 | p::ps,es,h=>by
  have hm:p.1∉es.map (·.1):=by
   rw [List.map_append,List.map_cons] at h
   intro z
   exact (List.nodup_append.mp h).2.2 _ z _ List.mem_cons_self rfl
  show zlb (putM es p.1 p.2.1 p.2.2) ps=es++p::ps
  have e:putM es p.1 p.2.1 p.2.2=es++[p]:=by
   unfold putM
   rw [zjf hm]
   rfl
  rw [e,zrg ps (es++[p]) (by rw [List.append_assoc];exact h),List.append_assoc]
  rfl
theorem zre:∀ (ps:List Ent) (es:List Ent),(es.map (·.1)).Nodup→¬ ((es++ps).map (·.1)).Nodup→(zlb es ps).length<es.length+ps.length
 | [],es,h1,h2=>absurd (by rw [List.append_nil];exact h1) h2
 | p::ps,es,h1,h2=>by
  show (zlb (putM es p.1 p.2.1 p.2.2) ps).length<es.length+(ps.length+1)
  by_cases hm:p.1∈es.map (·.1)
  ·have hl:(putM es p.1 p.2.1 p.2.2).length=es.length:=by
    unfold putM
    rw [if_pos (zbi hm),List.length_map]
   have:=zed ps (putM es p.1 p.2.1 p.2.2)
   omega
  ·have e:putM es p.1 p.2.1 p.2.2=es++[p]:=by
    unfold putM
    rw [zjf hm]
    rfl
   rw [e]
   have:=zre ps (es++[p]) (by
    rw [List.map_append]
    exact List.nodup_append.mpr ⟨h1,List.nodup_cons.mpr ⟨by simp,List.nodup_nil⟩,λ x hx y hy z=>hm ((show x=p.1 from z.trans (List.mem_singleton.mp hy)) ▸ hx)⟩) (by rw [List.append_assoc];exact h2)
   rw [List.length_append,List.length_cons,List.length_nil] at this
   omega
theorem zyl {K:W.Frag} {H:Hp}:∀ {ms:Sh} {vs:List V},DVs K H (ms.map prD) vs→∃ ps:List Ent,zdr K H ps vs∧EnS K H ps ms
 | [],vs,h=>by cases (show vs=[] from h);exact ⟨[],.nil,.nil⟩
 | m::ms,vs,h=>by
  obtain ⟨v,r,rfl,hv,hr⟩:=h
  obtain ⟨ps,h1,h2⟩:=zyl hr
  obtain ⟨t,xs,rfl,ht,x1,r1,rfl,e1,x2,r2,rfl,e2,e3⟩:=hv
  cases (show r2=[] from e3)
  obtain ⟨q,rfl,hq⟩:=ztg e1
  exact ⟨(m.1,q,x2)::ps,.cons ⟨t,rfl,ht,hq⟩ h1,.cons ⟨rfl,hq,e2⟩ h2⟩
theorem zfc {K:W.Frag} {H:Hp}:∀ {es:List Ent} {ms:Sh},EnS K H es ms→es.map (·.1)=ms.map (·.1)
 | _,_,.nil=>rfl
 | _,_,.cons a b=>by rw [List.map_cons,List.map_cons,a.1,zfc b]
theorem zle {K:W.Frag} {H:Hp}:∀ {es:List Ent} {ms:Sh},EnS K H es ms→∀ e∈es,SqT K H e.2.1 (mkV e.1)∧∃ v,(e.1,v)∈ms∧DV K H (ver v) e.2.2
 | _,_,.nil,e,h=>nomatch h
 | _,m::_,.cons a b,e,h=>by
  rcases List.mem_cons.mp h with rfl | h
  ·exact ⟨by rw [a.1];exact a.2.1,m.2,by rw [a.1];exact List.mem_cons_self,a.2.2⟩
  ·obtain ⟨h1,v,h2,h3⟩:=zle b e h
   exact ⟨h1,v,List.mem_cons_of_mem _ h2,h3⟩
theorem zgd {m:Mark×Ver} (h:okV m.2):SeqAt.shaped (prD m)=true:=by
 unfold SeqAt.shaped
 have h1:PyData.canLay0 (prD m)=true:=by
  show ((true && (true && true)) && ((true && (PyData.canLay0 (plc m.2.2.1) && (PyData.strOk m.2.2.2 && true))) && true))=true
  rw [zkg,show PyData.strOk m.2.2.2=true from h]
  rfl
 rw [h1,Bool.true_and]
 refine decide_eq_true ?_
 have h2:PyData.depth (prD m)=max 1 (max (max 0 (max (PyData.depthAll (m.2.2.1.map stp)+1) (max 0 0))+1) 0)+1:=rfl
 have:=zsb m.2.2.1
 rw [h2]
 omega
noncomputable def toSh (ms:Sh) (bs:List Mark):Sh:=bs.map λ m=>(m,(look ms m).getD (0,[], ""))
theorem zcj {ms:Sh} (nd:(ms.map (·.1)).Nodup):toSh ms (ms.map (·.1))=ms:=by
 unfold toSh
 rw [List.map_map]
 have:∀ m∈ms,((λ m=>(m,(look ms m).getD (0,[], ""))) ∘ (·.1)) m=m:=λ m hm=>by
  show (m.1,(look ms m.1).getD (0,[], ""))=m
  rw [zrc nd hm]
  rfl
 conv=>rhs;rw [← List.map_id ms]
 exact List.map_congr_left this
theorem zsi {ms:Sh} (nd:(ms.map (·.1)).Nodup) {bs:List Mark} (h:bs.Perm (ms.map (·.1))):(toSh ms bs).Perm ms:=by
 have:=h.map (λ m=>(m,(look ms m).getD (0,[], "")))
 rw [show (ms.map (·.1)).map (λ m=>(m,(look ms m).getD (0,[], "")))=ms from zcj nd] at this
 exact this
theorem zch {ms:Sh} (nd:(ms.map (·.1)).Nodup) {bs:List Mark} (h:bs.Perm (ms.map (·.1))):bs.map (zfp λ m=>vdat (look ms m))=(toSh ms bs).map prD:=by
 unfold toSh
 rw [List.map_map]
 refine List.map_congr_left λ m hm=>?_
 obtain ⟨x,hx,rfl⟩:=List.mem_map.mp (h.mem_iff.mp hm)
 show zfp (λ m=>vdat (look ms m)) x.1=prD (x.1,(look ms x.1).getD (0,[], ""))
 show PyData.tuple [markD x.1,vdat (look ms x.1)]=_
 rw [zrc nd hx]
 rfl
theorem zrq {ms:Sh} {bs:List Mark} (h:bs.Pairwise λ a b=>mLt a b=true):(toSh ms bs).Pairwise λ a b=>mLt a.1 b.1=true:=List.pairwise_map.mpr h
end L2
namespace L2
open PySem PySem.Spec PyProof.Rows PySem.NumText
theorem zbh {P:Program} {w:World} {a:Addr} {es:List Ent} {o:Obj} {nt:Nat} {cap:List Nat} {g:TG} {ti:TT} {te:TE} {σ:St} {H1:Hp} {Q:VK} {D:Addr} (kb:Ent→Bool) (R:Ent→V→Hp→Prop) (hD:H1 D=none) (hP:Plain H1) (ha:H1 a=some (dO P w a es o)) (hx:es.length≤sizeLine)
  (mono:∀ e y H H',R e y H→(∀ b o,b≠D→H b=some o→H' b=some o)→(∃ zs,H D=some (.lst zs))→R e y H')
  (step:∀ (i:Nat) e H2 T' (Tt:VK) (Tf:Hp→Prop),es[i]? = some e→Plain H2→Same H1 H2→H2 T'=none→(kb e=true→∀ y H6,R e y H6→Same H2 H6→Plain H6→Tt y H6)→(kb e=false→∀ H6,Same H2 H6→Plain H6→Tf H6) →
   g (.ref T') (List.replicate nt none++caps cap σ) (upd H2 T' (.tup [.ref e.2.1,e.2.2])) λ σ4 H4=>ti σ4 H4 λ b H5=>if b=true then te σ4 H5 Tt else Tf H5)
  (fin:∀ ys H2,Paired (λ e y=>R e y H2) (es.filter kb) ys→H2 D=some (.lst ys)→Same H1 H2→Plain H2→Q (.ref D) H2) :
  ztv (Itm P w a es o) D nt cap g ti te σ H1 Q:=by
 refine ⟨λ i m ys H2=>m=es.length - i∧i≤es.length∧ys.length≤i∧H2 D=some (.lst ys)∧Same H1 H2∧Plain H2∧Paired (λ e y=>R e y H2) ((es.take i).filter kb) ys,⟨_,rfl,Nat.zero_le _,Nat.le_refl _,upd_same,zea hD,hP.lst,.nil⟩,?_⟩
 rintro i m ys H2 ⟨rfl,hi,hl,hd,hs,hp,hr⟩
 refine ⟨hd,?_⟩
 by_cases hlt:i<es.length
 ·refine .inr ⟨⟨hs _ _ ha,hlt⟩,by omega,λ v H3 hy=>?_⟩
  obtain ⟨T',e,rfl,hT,rfl,he⟩:=hy
  have e1:es.take (i+1)=es.take i++[e]:=by
   obtain ⟨h',rfl⟩:=List.getElem?_eq_some_iff.mp he
   exact List.take_succ_eq_append_getElem h'
  refine step i e _ T' _ _ he hp hs hT (λ hk y H6 hR hs6 hp6=>⟨hs6 _ _ hd,_,by omega,rfl,hlt,by simp;omega,upd_same,(hs.trans hs6).upd hD,hp6.lst,?_⟩) (λ hk H6 hs6 hp6=>⟨_,by omega,rfl,hlt,by omega,hs6 _ _ hd,hs.trans hs6,hp6,?_⟩)
  ·have up:∀ b o,b≠D→H6 b=some o→(upd H6 D (.lst (ys++[y]))) b=some o:=λ b o hb e=>by rw [zja hb];exact e
   rw [e1,List.filter_append,show [e].filter kb=[e] by simp [hk]]
   refine Paired.snoc (Paired.mapP hr λ e' y' hr'=>mono e' y' H6 _ (mono e' y' _ H6 hr' (λ b o _ q=>hs6 b o q) ⟨_,hd⟩) up ⟨_,hs6 _ _ hd⟩) (mono e y H6 _ hR up ⟨_,hs6 _ _ hd⟩)
  ·rw [e1,List.filter_append,show [e].filter kb=[] by simp [hk],List.append_nil]
   exact Paired.mapP hr λ e' y' hr'=>mono e' y' _ H6 hr' (λ b o _ q=>hs6 b o q) ⟨_,hd⟩
 ·have e:i=es.length:=by omega
  subst e
  rw [List.take_length] at hr
  exact .inl ⟨⟨hs _ _ ha,Nat.le_refl _⟩,fin ys H2 hr hd hs hp⟩
noncomputable def vOf (ms:Sh) (m:Mark):Ver:=(look ms m).getD (0,[], "")
noncomputable def lnLt (ms:Sh) (a b:Mark):Bool:=zxg pLt mLt ((vOf ms a).2.1,a) ((vOf ms b).2.1,b)
theorem zcn (ms:Sh):STO (lnLt ms) where
 irr:=λ a=>(zkh pLt_sto mLt_sto).irr _
 tr:=λ a b c h1 h2=>(zkh pLt_sto mLt_sto).tr _ _ _ h1 h2
 tri:=λ a b hn h=>(zkh pLt_sto mLt_sto).tri _ _ (λ z=>hn (congrArg Prod.snd z)) h
noncomputable def enL (ms:Sh) (m:Mark):List PyData:=[plc (vOf ms m).2.1,markD m,.str (vOf ms m).2.2]
noncomputable def lnD (ms:Sh) (m:Mark):PyData := .tuple [markD m,.str (vOf ms m).2.2]
noncomputable def zzd (v:Ver):Bool := !decide (v.2.1=[])
noncomputable def zne (ms:Sh):List Mark:=(ms.filter λ m=>zzd m.2).map (·.1)
theorem zwg {ms:Sh} {m:Mark} (h:okV (vOf ms m)):SeqAt.shaped (.tuple (enL ms m))=true:=by
 unfold SeqAt.shaped
 have h1:PyData.canLay0 (.tuple (enL ms m))=true:=by
  show (PyData.canLay0 (plc (vOf ms m).2.1) && ((true && (true && true)) && (PyData.strOk (vOf ms m).2.2 && true)))=true
  rw [zkg,show PyData.strOk (vOf ms m).2.2=true from h]
  rfl
 rw [h1,Bool.true_and]
 refine decide_eq_true ?_
 have h2:PyData.depth (.tuple (enL ms m))=max (PyData.depthAll ((vOf ms m).2.1.map stp)+1) (max 1 (max 0 0))+1:=rfl
 have:=zsb (vOf ms m).2.1
 rw [h2]
 omega
theorem znh {ms:Sh} (nd:(ms.map (·.1)).Nodup):(zne ms).Nodup:=by
 unfold zne
 exact List.Nodup.sublist (List.Sublist.map _ (List.filter_sublist)) nd
theorem zef {ms:Sh} (nd:(ms.map (·.1)).Nodup) (ok:∀ m∈ms,okV m.2) (few:ms.length<64):Srt (zne ms) (enL ms) (lnLt ms) .tup where
 sto:=zcn ms
 few:=by
  unfold zne
  rw [List.length_map]
  exact Nat.lt_of_le_of_lt (List.length_filter_le _ _) few
 nd:=znh nd
 lts:=by
  intro a ha b hb
  show (if PyData.eqv (plc (vOf ms a).2.1) (plc (vOf ms b).2.1)=true then ltDs [markD a,.str (vOf ms a).2.2] [markD b,.str (vOf ms b).2.2] else ltD (plc (vOf ms a).2.1) (plc (vOf ms b).2.1))=some (lnLt ms a b)
  rw [zec]
  unfold lnLt zxg
  dsimp only
  by_cases e:(vOf ms a).2.1=(vOf ms b).2.1
  ·rw [if_pos (decide_eq_true e),if_pos e]
   show (if PyData.eqv (markD a) (markD b)=true then ltDs [.str (vOf ms a).2.2] [.str (vOf ms b).2.2] else ltD (markD a) (markD b))=some (mLt a b)
   rw [zwi]
   by_cases e2:a=b
   ·subst e2
    rw [if_pos (decide_eq_true rfl),mLt_sto.irr]
    show (if PyData.eqv (.str (vOf ms a).2.2) (.str (vOf ms a).2.2)=true then ltDs [] [] else _)=_
    rw [if_pos (show PyData.eqv (.str (vOf ms a).2.2) (.str (vOf ms a).2.2)=true from beq_self_eq_true (vOf ms a).2.2)]
    unfold ltDs
    rfl
   ·rw [if_neg (by rw [decide_eq_false e2];exact Bool.false_ne_true)]
    exact zwl a b
  ·rw [if_neg (by rw [decide_eq_false e];exact Bool.false_ne_true),if_neg e]
   exact zwe _ _
 fst:=λ a _=>⟨_,_,rfl,⟨_,rfl⟩⟩
 shp:=by
  intro a ha
  obtain ⟨m,hm,rfl⟩:=List.mem_map.mp ha
  have hm':=(List.mem_filter.mp hm).1
  refine zwg ?_
  unfold vOf
  rw [zrc nd hm']
  exact ok m hm'
theorem zcd {K:W.Frag} {H:Hp} {α:Type} {f:α→PyData}:∀ {xs:List α} {ys:List V},Paired (λ x y=>DV K H (f x) y) xs ys→DVs K H (xs.map f) ys
 | _,_,.nil=>rfl
 | _,_,.cons a b=>⟨_,_,rfl,a,zcd b⟩
theorem zbf {ms:Sh} (nd:(ms.map (·.1)).Nodup) {m:Mark×Ver} (h:m∈ms):vOf ms m.1=m.2:=by
 unfold vOf
 rw [zrc nd h]
 rfl
theorem zop {K:W.Frag} {H:Hp} {es:List Ent} {ms:Sh} (he:EnS K H es ms) (nd:(ms.map (·.1)).Nodup):(es.filter λ e=>zzd (vOf ms e.1)).map (·.1)=zne ms:=by
 have h1:(es.filter λ e=>zzd (vOf ms e.1)).map (·.1)=(es.map (·.1)).filter λ m=>zzd (vOf ms m):=by
  rw [List.filter_map]
  rfl
 have h2:(ms.map (·.1)).filter (λ m=>zzd (vOf ms m))=(ms.filter λ m=>zzd (vOf ms m.1)).map (·.1):=by
  rw [List.filter_map]
  rfl
 rw [h1,zfc he,h2]
 unfold zne
 congr 1
 refine List.filter_congr λ m hm=>?_
 rw [zbf nd hm]
theorem zov (ms:Sh) (m:Mark):noL (.tuple (enL ms m))=true:=by
 show (noL (plc (vOf ms m).2.1) && (noL (markD m) && (noL (.str (vOf ms m).2.2) && true)))=true
 rw [zml]
 rfl
theorem zuw {K:W.Frag} {H:Hp} {ms:Sh} {m:Mark} {x:V} (h:DV K H (.tuple (enL ms m)) x):∃ t pv q,x = .ref t∧SqT K H t [pv,.ref q,.str (vOf ms m).2.2]∧SqT K H q (mkV m):=by
 obtain ⟨t,vs,rfl,hq,a,r,rfl,ha,b,r2,rfl,hb,c,r3,rfl,hc,h4⟩:=h
 cases (show c=V.str (vOf ms m).2.2 from hc)
 cases (show r3=[] from h4)
 obtain ⟨q,rfl,hm⟩:=ztg hb
 exact ⟨t,a,q,rfl,hq,hm⟩
end L2
namespace L2
open PySem PySem.Spec PyProof.Rows PySem.NumText
section
variable {X:Cx}
theorem zav {α β:Type} {f:α→Option β} {g:α→β}:∀ {l:List α},(∀ x∈l,f x=some (g x))→l.filterMap f=l.map g
 | [],_=>rfl
 | x::l,h=>by
  rw [List.filterMap_cons,h x List.mem_cons_self,List.map_cons,zav λ y hy=>h y (List.mem_cons_of_mem _ hy)]
end
theorem zqq:∀ ms:Sh,noLs (ms.map prD)=true
 | []=>rfl
 | m::ms=>by
  show (noL (prD m) && noLs (ms.map prD))=true
  rw [zqq ms,show noL (prD m)=true by show (noL (markD m.1) && (noL (ver m.2) && true))=true;rw [zyq];rfl]
  rfl
end L2
namespace L2
open PySem PySem.Spec PyProof.Rows PySem.NumText
noncomputable def Rc (mask:Nat) (o:Array (Option Nat)) (h:Int) (j:Nat):Prop:=∃ N,(path (tm mask) N ((tm mask).probeStart h)).j=j∧∀ i,i<N→own o (path (tm mask) i ((tm mask).probeStart h)).j≠none
theorem znq {o:Array (Option Nat)} {j k x:Nat} (hj:j<o.size):own (o.setIfInBounds j (some k)) x=if x=j then some k else own o x:=by
 show (o.setIfInBounds j (some k)).getD x none=_
 rw [Array.getD_eq_getD_getElem?]
 by_cases h:x=j
 ·subst h
  rw [if_pos rfl,Array.getElem?_setIfInBounds_self_of_lt hj]
  rfl
 ·rw [if_neg h,Array.getElem?_setIfInBounds_ne (λ e=>h e.symm)]
  show _=o.getD x none
  rw [Array.getD_eq_getD_getElem?]
theorem zkp {mask:Nat} (c:zzb (mask+1)=true):∀ (hs:List Int) (pre:List Int) (o:Array (Option Nat)) (n:Nat),o.size=mask+1→((zbe (mask+1) o).map (·.2)).Perm (List.range n)→n+hs.length≤mask→pre.length=n→(∀ j k,own o j=some k→∃ h,pre[k]? = some h∧Rc mask o h j) →
  ∃ o',hs.foldl (λ (acc:Option (Array (Option Nat)×Nat)) h=>do
   let (owner,k) ← acc
   let j ← SetTable.layClean.free mask owner (SetTable.turns mask) (SetTable.bits h % (mask+1)) (SetTable.bits h)
   pure (owner.setIfInBounds j (some k),k+1)) (some (o,n))=some (o',n+hs.length)∧o'.size=mask+1∧((zbe (mask+1) o').map (·.2)).Perm (List.range (n+hs.length))∧(∀ j k,own o' j=some k→∃ h,(pre++hs)[k]? = some h∧Rc mask o' h j):=by
 intro hs
 induction hs with
 | nil=>intro pre o n h1 h2 _ _ h5;exact ⟨o,rfl,h1,h2,by rw [List.append_nil];exact h5⟩
 | cons h hs ih =>
  intro pre o n h1 h2 h3 h4 h5
  rw [List.length_cons] at h3
  obtain ⟨j0,hj0,he0⟩:=zmo h2 (by omega)
  have hb:SetTable.bits h<2 ^ 64:=by
   unfold SetTable.bits
   have:=Int.emod_nonneg h (show (2 ^ 64:Int)≠0 by decide)
   have:=Int.emod_lt_of_pos h (show (0:Int)<2 ^ 64 by decide)
   omega
  obtain ⟨k,hk,e⟩:=zug c (Nat.mod_lt (SetTable.bits h) (Nat.succ_pos mask)) hb hj0
  obtain ⟨j,ej,hj,hje⟩:=zrp h1 hj0 he0 k (SetTable.turns mask) _ _ (by unfold SetTable.turns;omega) (Nat.mod_lt (SetTable.bits h) (Nat.succ_pos mask)) e
  obtain ⟨N,n1,n2⟩:=zxn h1 _ _ _ j ((tm mask).probeStart h) (Nat.mod_lt (SetTable.bits h) (Nat.succ_pos mask)) rfl rfl rfl rfl ej
  have hp:=zwn (k:=n) h1 hj hje
  have grow:∀ x,own o x≠none→own (o.setIfInBounds j (some n)) x≠none:=λ x hx=>by
   rw [znq (by omega)]
   by_cases hxj:x=j
   ·rw [if_pos hxj];exact λ z=>by cases z
   ·rw [if_neg hxj];exact hx
  obtain ⟨o',e1,e2,e3,e4⟩:=ih (pre++[h]) (o.setIfInBounds j (some n)) (n+1) (by rw [Array.size_setIfInBounds];exact h1) (by
   refine (hp.map _).trans ?_
   rw [List.map_cons,List.range_succ]
   exact ((List.Perm.cons n h2).trans (List.perm_append_singleton n (List.range n)).symm)) (by omega) (by rw [List.length_append,List.length_singleton,h4]) (λ x k hx=>by
   rw [znq (by omega)] at hx
   by_cases hxj:x=j
   ·rw [if_pos hxj] at hx
    cases hx
    exact ⟨h,by rw [← h4,List.getElem?_concat_length],N,by rw [hxj];exact n1,λ i hi=>grow _ (n2 i hi)⟩
   ·rw [if_neg hxj] at hx
    obtain ⟨h',q1,M,q2,q3⟩:=h5 x k hx
    have hkl:=(List.getElem?_eq_some_iff.mp q1).1
    exact ⟨h',by rw [List.getElem?_append_left hkl];exact q1,M,q2,λ i hi=>grow _ (q3 i hi)⟩)
  refine ⟨o',?_,e2,by rw [List.length_cons,show n+(hs.length+1)=n+1+hs.length by omega];exact e3,by rw [show pre++h::hs=pre++[h]++hs by simp];exact e4⟩
  rw [List.foldl_cons,List.length_cons,show n+(hs.length+1)=n+1+hs.length by omega,← e1]
  congr 1
  show (SetTable.layClean.free mask o (SetTable.turns mask) (SetTable.bits h % (mask+1)) (SetTable.bits h)).bind _=_
  rw [ej]
  rfl
theorem zym {mask:Nat} (c:zzb (mask+1)=true) (hs:Array Int) (h:hs.size≤mask):∃ o,SetTable.layClean mask hs=some o∧o.size=mask+1∧((zbe (mask+1) o).map (·.2)).Perm (List.range hs.size)∧(∀ j k,own o j=some k→∃ h,hs[k]? = some h∧Rc mask o h j):=by
 have hn:∀ j,own (Array.replicate (mask+1) none) j=none:=λ j=>by
  show (Array.replicate (mask+1) (none:Option Nat)).getD j none=none
  rw [Array.getD_eq_getD_getElem?,Array.getElem?_replicate]
  split <;> rfl
 have h0:zbe (mask+1) (Array.replicate (mask+1) none)=[]:=by
  unfold zbe
  refine List.filterMap_eq_nil_iff.mpr λ j hj=>?_
  rw [hn]
  rfl
 obtain ⟨o,e1,e2,e3,e4⟩:=zkp c hs.toList [] (Array.replicate (mask+1) none) 0 (by simp) (by rw [h0];exact .nil) (by simpa using h) rfl (λ j k e=>by rw [hn] at e;cases e)
 refine ⟨o,?_,e2,by simpa using e3,λ j k e=>?_⟩
 ·unfold SetTable.layClean
  rw [← Array.foldl_toList]
  exact congrArg (Option.map (·.1)) e1
 ·obtain ⟨h',q1,q2⟩:=e4 j k e
  exact ⟨h',by rw [List.nil_append,Array.getElem?_toList] at q1;exact q1,q2⟩
theorem zki (M:Nat) (o:Array (Option Nat)):(zbe M o).map (·.1)=(List.range M).filter λ j=>(own o j).isSome:=by
 unfold zbe
 induction List.range M with
 | nil=>rfl
 | cons j l ih =>
  cases e:own o j with
  | none=>rw [List.filterMap_cons_none (by rw [e];rfl),List.filter_cons_of_neg (by rw [e];decide)];exact ih
  | some k=>rw [List.filterMap_cons_some (by rw [e];rfl),List.map_cons,List.filter_cons_of_pos (by rw [e];rfl),ih]
theorem zuo {M:Nat} {o:Array (Option Nat)} {j k:Nat} (h:(j,k)∈zbe M o):own o j=some k:=by
 obtain ⟨x,_,hx⟩:=List.mem_filterMap.mp h
 cases e:own o x with
 | none=>rw [e] at hx;cases hx
 | some v=>rw [e] at hx;cases hx;exact e
theorem zur {mask finger moves:Nat} {led plain:Bool} (c:zzb (mask+1)=true) (es:Array (Int×Value)) (h:es.size≤mask):∃ pl order,SetTable.laid mask finger moves led plain (es.map (·.1))=some ({ mask,place:=pl,dummies := #[],finger,led,moves,plain },order)∧pl.size=es.size∧(order.filterMap (es[·]?)).toList.Perm es.toList∧∀ t:ST,t.mask=mask→t.place=pl→Wp t (order.filterMap (es[·]?)):=by
 obtain ⟨o,e1,e2,e3,e4⟩:=zym c (es.map (·.1)) (by simpa using h)
 have e3:((zbe (mask+1) o).map (·.2)).Perm (List.range es.size):=by simpa using e3
 refine ⟨((zbe (mask+1) o).map (·.1)).toArray,((zbe (mask+1) o).map (·.2)).toArray,?_,?_,?_,λ t hm hp=>?_⟩
 ·unfold SetTable.laid
  rw [e1]
  rfl
 ·have:=e3.length_eq
  rw [List.length_map,List.length_range] at this
  simpa using this
 ·rw [Array.toList_filterMap]
  refine (e3.filterMap _).trans ?_
  have:(List.range es.size).filterMap (λ x=>es[x]?)=es.toList:=by
   have go:∀ (l:List (Int×Value)),(List.range l.length).filterMap (λ x=>l[x]?)=l:=by
    intro l
    induction l with
    | nil=>rfl
    | cons a l ih =>
     rw [List.length_cons,List.range_succ_eq_map,List.filterMap_cons]
     show a::List.filterMap _ (List.map Nat.succ (List.range l.length))=a::l
     rw [List.filterMap_map]
     exact congrArg (a :: ·) ih
   have:=go es.toList
   simpa using this
  rw [this]
 ·have hk:∀ p∈zbe (mask+1) o,p.2<es.size:=λ p hp'=>List.mem_range.mp (e3.mem_iff.mp (List.mem_map_of_mem hp'))
  have hes:(((zbe (mask+1) o).map (·.2)).toArray.filterMap (es[·]?)).toList=(zbe (mask+1) o).map λ p=>es.getD p.2 (0,.none):=by
   rw [Array.toList_filterMap,List.filterMap_map]
   refine zav λ p hp'=>?_
   show es[p.2]? = some (es.getD p.2 (0,.none))
   rw [Array.getD_eq_getD_getElem?,Array.getElem?_eq_getElem (hk p hp')]
   rfl
  have srt:((zbe (mask+1) o).map (·.1)).Pairwise (· < ·):=by
   rw [zki]
   exact List.Pairwise.filter _ List.pairwise_lt_range
  refine ⟨?_,λ i j e h1 h2=>?_⟩
  ·rw [hp]
   intro a b u v hab ea eb
   rw [List.getElem?_toArray] at ea eb
   obtain ⟨ha,ea⟩:=List.getElem?_eq_some_iff.mp ea
   obtain ⟨hb,eb⟩:=List.getElem?_eq_some_iff.mp eb
   rw [← ea,← eb]
   exact List.pairwise_iff_getElem.mp srt a b ha hb hab
  ·rw [hp,List.getElem?_toArray,List.getElem?_map] at h1
   rw [← Array.getElem?_toList,hes,List.getElem?_map] at h2
   cases hL:(zbe (mask+1) o)[i]? with
   | none=>rw [hL] at h1;cases h1
   | some p =>
    rw [hL] at h1 h2
    cases h1
    cases h2
    have hm':=List.mem_of_getElem? hL
    obtain ⟨h',q1,N,q2,q3⟩:=e4 p.1 p.2 (zuo hm')
    have eh:h'=(es.getD p.2 (0,.none)).1:=by
     rw [Array.getElem?_map,Array.getElem?_eq_getElem (hk p hm')] at q1
     cases q1
     rw [Array.getD_eq_getD_getElem?,Array.getElem?_eq_getElem (hk p hm')]
     rfl
    refine ⟨N,?_,λ k hk'=>?_⟩
    ·rw [zbc (t':=tm mask) hm,zhc (t':=tm mask) hm,← eh];exact q2
    ·rw [zbc (t':=tm mask) hm,zhc (t':=tm mask) hm,← eh]
     have q4:=q3 k hk'
     generalize (path (tm mask) k ((tm mask).probeStart h')).j=x at q4
     have hx:x<mask+1:=by
      refine Classical.byContradiction λ hc=>q4 ?_
      show o.getD x none=none
      rw [Array.getD_eq_getD_getElem?,Array.getElem?_eq_none (by omega)]
      rfl
     have hxm:x∈(zbe (mask+1) o).map (·.1):=by
      rw [zki]
      refine List.mem_filter.mpr ⟨List.mem_range.mpr hx,?_⟩
      cases e:own o x with
      | none=>exact absurd e q4
      | some v=>rfl
     obtain ⟨i',hi'⟩:=List.getElem?_of_mem hxm
     exact ⟨i',by rw [hp,List.getElem?_toArray];exact hi'⟩
section
variable {prog:Program} {w:World} {A:Around} {E:Value→Shared→Prop} {s:Shared}
theorem zue {a:Addr} {o:Obj} {es:Array (Int×Value)} {ep:Nat} {t:ST} {x:Value} {dx:PyData} {h:Int} {Q:SetFound→Shared→Prop} (ho:s.heap.get? a=some o) (hd:o.data = .set es ep t) (hf:t.fits es.size=true) (f:Fit t)
  (hx:El s.heap x dx) (hes:∀ e∈es.toList,∃ d,El s.heap e.2 d∧PyData.eqv d dx=false) (hu:A.units+10<cLine) (b:Bool) (hQ:∀ N,t.slot (path t N (t.probeStart h)).j = .empty→(∀ k,k<N→∃ i:Nat,t.place[i]? = some (path t k (t.probeStart h)).j)→Q (.free (path t N (t.probeStart h)).j false) s):wpAny (model prog w) A (setSearch a x h b) Q E s:=by
 obtain ⟨s9,sp,sd⟩:=zek t h
 obtain ⟨N,hN,he,hl⟩:=zje f s9 sp
 have hmask:t.mask≤511:=by rcases f.msk with e | e | e | e <;> omega
 have hN2:N<10 * (511+15):=by
  unfold SetTable.turns at hN
  omega
 have hgw:t.gaveWay=false:=by
  unfold SetTable.gaveWay
  rcases f.msk with e | e | e | e <;> rw [e] <;> rfl
 have hpl:t.place.size=es.size:=by
  unfold SetTable.fits at hf
  rw [Bool.and_eq_true] at hf
  exact eq_of_beq hf.1
 obtain ⟨as,rx⟩:=hx.rd
 have from_:∀ (d m fuel:Nat),d=N - m→m≤N→d<fuel→∀ (stand:Option SetTable.Probe),stand.getD (t.probeStart h)=path t m (t.probeStart h)→wpAny (model prog w) A (setSearchFrom a x h b fuel stand) Q E s:=by
  intro d
  induction d using Nat.strongRecOn with
  | ind d ih =>
   intro m fuel hdm hm hfu stand hst
   cases fuel with
   | zero=>omega
   | succ fuel =>
    unfold setSearchFrom
    refine wpAny_bind (wpAny_setState_of ho hd hf ?_)
    dsimp only
    rw [hgw]
    simp only [Bool.false_eq_true,if_false]
    rw [hst]
    unfold SetTable.probe
    rcases zxt (t:=t) (h:=h) sd he hl (N - m) m (10 * SetTable.turns t.mask) rfl hm (by omega) with ⟨k,i,k1,k2,k3,k4,k5⟩ | k5
    ·rw [k5]
     dsimp only
     obtain ⟨i2,hi2,hpi⟩:=hl k k2
     rw [k3] at hi2
     cases hi2
     have hil:i<es.size:=by rw [← hpl];exact (Array.getElem?_eq_some_iff.mp hpi).1
     have hei:es[i]? = some es[i]:=Array.getElem?_eq_getElem hil
     have hmem:es[i]∈es.toList:=by rw [← Array.getElem_toList hil];exact List.getElem_mem _
     obtain ⟨dy,hy,hne⟩:=hes _ hmem
     obtain ⟨bs,ry⟩:=hy.rd
     have go2:wpAny (model prog w) A (do
       let some (_,y):=es[i]? | unsupported "internal:set-entry"
       let equal ← holding [y] (eqBool y x)
       let (es',_,t') ← setState a
       if b && equal then return .there none
       let some same:=t'.sameMemory t.moves t.mask | unsupported "set.changed-during-lookup:is-the-new-block-at-the-old-address"
       let still ← match (if same then t'.slot (path t k (t.probeStart h)).j else .empty) with
        | .live i'=>match es'[i']? with
         | some (_,y')=>do pure (if ← isSame y' y then some i' else none)
         | none=>pure none
        | _=>pure none
       match still with
       | none=>rule "set.search.anew";setSearchFrom a x h b fuel none
       | some i'=>if equal then return .there (some i') else setSearchFrom a x h b fuel (some (path t (k+1) (t.probeStart h)))) Q E s:=by
      rw [hei]
      dsimp only
      refine wpAny_bind (wpAny_holding (SeqAt.eqAt_reads dy dx A s _ _ bs as ry rx (zdc dy hy.oi) (zdc dx hx.oi) (by have:=hy.dp;have:min dy.depth dx.depth≤dy.depth:=Nat.min_le_left _ _;omega) prog w _ _ ?_))
      rw [hne]
      refine wpAny_bind (wpAny_setState_of ho hd hf ?_)
      dsimp only
      simp only [Bool.and_false,Bool.false_eq_true,if_false]
      have hsm:t.sameMemory t.moves t.mask=some true:=by unfold SetTable.sameMemory;rw [if_pos (beq_self_eq_true _)]
      rw [hsm]
      dsimp only
      simp only [if_true]
      rw [k3]
      dsimp only
      rw [hei]
      dsimp only
      obtain ⟨b,hb⟩:=hy.rf
      rw [hb]
      refine wpAny_bind (wpAny_isSame_ref_self (wpAny_bind (wpAny_pure ?_)))
      simp only [if_true]
      exact ih (N - (k+1)) (by omega) (k+1) fuel rfl (by omega) (by omega) (some _) rfl
     cases hled:t.led with
     | true =>
      simp only [Bool.not_true,Bool.false_eq_true,if_false]
      exact go2
     | false =>
      simp only [Bool.not_false,if_true]
      refine wpAny_bind (zoq hx _ _ (λ y hy=>?_) ?_)
      ·obtain ⟨e,he1,rfl⟩:=List.mem_map.mp hy
       have he2:e∈es.toList:=by
        have:=Array.mem_toList_iff.mp he1
        exact Array.mem_toList_iff.mpr (Array.mem_filter.mp this).1
       obtain ⟨d',hd',_⟩:=hes e he2
       exact ⟨d',hd'⟩
      ·simp only [Bool.false_eq_true,if_false]
       exact go2
    ·rw [k5]
     dsimp only
     exact wpAny_pure (hQ N he λ k hk=>let ⟨i,_,q⟩:=hl k hk; ⟨i,q⟩)
 unfold setSearch
 exact from_ N 0 100000 rfl (Nat.zero_le _) (by omega) none rfl
end
end L2
namespace L2
open PySem PySem.Spec PyProof.Rows PySem.NumText
theorem zdu {t:ST} {hashAt:Nat→Int} {h:Int} {p:SetTable.Probe} {n0 i0:Nat} (hs:t.slot (path t n0 p).j = .live i0) (hh:(hashAt i0 == h)=true) (hl:∀ k,k<n0→∃ i:Nat,t.slot (path t k p).j = .live i) :
  ∀ (d m fuel:Nat),d=n0 - m→m≤n0→d<fuel→∃ k i,m≤k∧k≤n0∧t.slot (path t k p).j = .live i∧SetTable.probe.go t hashAt h fuel (path t m p)=some (.candidate (path t k p).j i (path t (k+1) p)):=by
 intro d
 induction d with
 | zero =>
  intro m fuel hdm hm hf
  have e:m=n0:=by omega
  subst e
  cases fuel with
  | zero=>omega
  | succ fuel =>
   refine ⟨m,i0,Nat.le_refl _,Nat.le_refl _,hs,?_⟩
   unfold SetTable.probe.go
   rw [hs]
   dsimp only
   rw [if_pos hh,zjb]
 | succ d ih =>
  intro m fuel hdm hm hf
  cases fuel with
  | zero=>omega
  | succ fuel =>
   obtain ⟨i,hi⟩:=hl m (by omega)
   by_cases hh:(hashAt i == h)=true
   ·refine ⟨m,i,Nat.le_refl _,by omega,hi,?_⟩
    unfold SetTable.probe.go
    rw [hi]
    dsimp only
    rw [if_pos hh,zjb]
   ·obtain ⟨k,i',h1,h2,h3,h4⟩:=ih (m+1) fuel (by omega) (by omega) (by omega)
    refine ⟨k,i',by omega,h2,h3,?_⟩
    unfold SetTable.probe.go
    rw [hi]
    dsimp only
    rw [if_neg hh,← zjb]
    exact h4
section
variable {prog:Program} {w:World} {A:Around} {E:Value→Shared→Prop} {s:Shared}
theorem zsj {a:Addr} {o:Obj} {es:Array (Int×Value)} {ep:Nat} {t:ST} {x:Value} {dx:PyData} {h:Int} {Q:SetFound→Shared→Prop} (ho:s.heap.get? a=some o) (hd:o.data = .set es ep t) (hf:t.fits es.size=true) (f:Fit t)
  (hx:El s.heap x dx) (dat:Nat→PyData) (hes:∀ (i:Nat) e,es[i]? = some e→El s.heap e.2 (dat i)) {i0 n0:Nat} {y0:Value} (hi0:es[i0]? = some (h,y0)) (hd0:PyData.eqv (dat i0) dx=true) (hs0:t.slot (path t n0 (t.probeStart h)).j = .live i0) (hl0:∀ k,k<n0→∃ i:Nat,t.slot (path t k (t.probeStart h)).j = .live i)
  (hu:A.units+10<cLine) (b:Bool) (hQ:∀ r:Option Nat,(b=false→r.isSome=true)→Q (.there r) s):wpAny (model prog w) A (setSearch a x h b) Q E s:=by
 obtain ⟨s9,sp,sd⟩:=zek t h
 obtain ⟨N,hN,he,hl⟩:=zje f s9 sp
 have hmask:t.mask≤511:=by rcases f.msk with e | e | e | e <;> omega
 have hN2:N<10 * (511+15):=by
  unfold SetTable.turns at hN
  omega
 have hn0:n0<N:=by
  refine Classical.byContradiction λ hc=>?_
  rcases Nat.lt_or_eq_of_le (Nat.le_of_not_lt hc) with hlt | heq
  ·obtain ⟨i,hi⟩:=hl0 N hlt
   rw [he] at hi
   cases hi
  ·rw [heq,hs0] at he
   cases he
 have hgw:t.gaveWay=false:=by
  unfold SetTable.gaveWay
  rcases f.msk with e | e | e | e <;> rw [e] <;> rfl
 have hpl:t.place.size=es.size:=by
  unfold SetTable.fits at hf
  rw [Bool.and_eq_true] at hf
  exact eq_of_beq hf.1
 obtain ⟨as,rx⟩:=hx.rd
 have from_:∀ (d m fuel:Nat),d=n0 - m→m≤n0→d<fuel→∀ (stand:Option SetTable.Probe),stand.getD (t.probeStart h)=path t m (t.probeStart h)→wpAny (model prog w) A (setSearchFrom a x h b fuel stand) Q E s:=by
  intro d
  induction d using Nat.strongRecOn with
  | ind d ih =>
   intro m fuel hdm hm hfu stand hst
   cases fuel with
   | zero=>omega
   | succ fuel =>
    unfold setSearchFrom
    refine wpAny_bind (wpAny_setState_of ho hd hf ?_)
    dsimp only
    rw [hgw]
    simp only [Bool.false_eq_true,if_false]
    rw [hst]
    unfold SetTable.probe
    obtain ⟨k,i,k1,k2,k3,k5⟩:=zdu (t:=t) (h:=h) (hashAt:=λ i=>(Option.map (λ (x:Int×Value)=>x.1) es[i]?).getD 0) hs0 (by rw [hi0];exact beq_self_eq_true h) hl0 (n0 - m) m (10 * SetTable.turns t.mask) rfl hm (by omega)
    have k5:SetTable.probe.go t _ h (10 * SetTable.turns t.mask) (path t m (t.probeStart h))=_:=k5
    erw [k5]
    dsimp only
    obtain ⟨i2,hi2,hpi⟩:=hl k (by omega)
    rw [k3] at hi2
    cases hi2
    have hil:i<es.size:=by rw [← hpl];exact (Array.getElem?_eq_some_iff.mp hpi).1
    have hei:es[i]? = some es[i]:=Array.getElem?_eq_getElem hil
    have hmem:es[i]∈es.toList:=by rw [← Array.getElem_toList hil];exact List.getElem_mem _
    obtain ⟨dy,hdy⟩:∃ dy,dy=dat i:=⟨_,rfl⟩
    have hy:=hes i _ hei
    rw [← hdy] at hy
    obtain ⟨bs,ry⟩:=hy.rd
    have go2:wpAny (model prog w) A (do
      let some (_,y):=es[i]? | unsupported "internal:set-entry"
      let equal ← holding [y] (eqBool y x)
      let (es',_,t') ← setState a
      if b && equal then return .there none
      let some same:=t'.sameMemory t.moves t.mask | unsupported "set.changed-during-lookup:is-the-new-block-at-the-old-address"
      let still ← match (if same then t'.slot (path t k (t.probeStart h)).j else .empty) with
       | .live i'=>match es'[i']? with
        | some (_,y')=>do pure (if ← isSame y' y then some i' else none)
        | none=>pure none
       | _=>pure none
      match still with
      | none=>rule "set.search.anew";setSearchFrom a x h b fuel none
      | some i'=>if equal then return .there (some i') else setSearchFrom a x h b fuel (some (path t (k+1) (t.probeStart h)))) Q E s:=by
     rw [hei]
     dsimp only
     refine wpAny_bind (wpAny_holding (SeqAt.eqAt_reads dy dx A s _ _ bs as ry rx (zdc dy hy.oi) (zdc dx hx.oi) (by have:=hy.dp;have:min dy.depth dx.depth≤dy.depth:=Nat.min_le_left _ _;omega) prog w _ _ ?_))
     have hsm:t.sameMemory t.moves t.mask=some true:=by unfold SetTable.sameMemory;rw [if_pos (beq_self_eq_true _)]
     obtain ⟨b0,hb0⟩:=hy.rf
     cases hne:PyData.eqv dy dx with
     | true =>
      refine wpAny_bind (wpAny_setState_of ho hd hf ?_)
      dsimp only
      cases b with
      | true =>
       simp only [Bool.and_self,if_true]
       exact wpAny_pure (hQ none λ z=>by cases z)
      | false =>
       simp only [Bool.false_and,Bool.false_eq_true,if_false]
       rw [hsm]
       dsimp only
       simp only [if_true]
       rw [k3]
       dsimp only
       rw [hei]
       dsimp only
       rw [hb0]
       refine wpAny_bind (wpAny_isSame_ref_self (wpAny_bind (wpAny_pure ?_)))
       simp only [if_true]
       exact wpAny_pure (hQ (some i) λ _=>rfl)
     | false =>
      refine wpAny_bind (wpAny_setState_of ho hd hf ?_)
      dsimp only
      simp only [Bool.and_false,Bool.false_eq_true,if_false]
      rw [hsm]
      dsimp only
      simp only [if_true]
      rw [k3]
      dsimp only
      rw [hei]
      dsimp only
      rw [hb0]
      refine wpAny_bind (wpAny_isSame_ref_self (wpAny_bind (wpAny_pure ?_)))
      simp only [if_true]
      have hk0:k≠n0:=λ e=>by
       rw [e,hs0] at k3
       cases k3
       rw [hdy,hd0] at hne
       cases hne
      exact ih (n0 - (k+1)) (by omega) (k+1) fuel rfl (by omega) (by omega) (some _) rfl
    cases hled:t.led with
    | true =>
     simp only [Bool.not_true,Bool.false_eq_true,if_false]
     exact go2
    | false =>
     simp only [Bool.not_false,if_true]
     refine wpAny_bind (zoq hx _ _ (λ y hy=>?_) ?_)
     ·obtain ⟨e,he1,rfl⟩:=List.mem_map.mp hy
      have he2:e∈es.toList:=by
       have:=Array.mem_toList_iff.mp he1
       exact Array.mem_toList_iff.mpr (Array.mem_filter.mp this).1
      obtain ⟨j,hj⟩:=List.getElem?_of_mem he2
      rw [Array.getElem?_toList] at hj
      exact ⟨_,hes j e hj⟩
     ·simp only [Bool.false_eq_true,if_false]
      exact go2
 unfold setSearch
 exact from_ n0 0 100000 rfl (Nat.zero_le _) (by omega) none rfl
theorem zgm {a:Addr} {o:Obj} {es:Array (Int×Value)} {ep:Nat} {t:ST} {wanted m':Nat} {Q:Unit→Shared→Prop} (ho:s.heap.get? a=some o) (hd:o.data = .set es ep t) (hf:t.fits es.size=true)
  (hw:SetTable.sizeAbove wanted=m'+1) (hm:m'=7 ∨ m'=31 ∨ m'=127 ∨ m'=511) (hs:es.size≤m')
  (h:∀ es' t',es'.toList.Perm es.toList→t'.place.size=es.size→t'.dummies = #[]→t'.mask=m'→Wp t' es'→t'.led=t.led→t'.plain=t.plain→Q () { s with heap:=s.heap.update a (Obj.putSet es' t') }):wpAny (model prog w) A (setRelay a wanted) Q E s:=by
 unfold setRelay
 refine wpAny_bind (wpAny_setState_of ho hd hf ?_)
 dsimp only
 have hc:zzb (m'+1)=true:=by
  rcases hm with e | e | e | e <;> rw [e]
  ·exact cov8
  ·exact zxy
  ·exact zfv
  ·exact zcv
 obtain ⟨pl,order,e1,e2,e3,e4⟩:=zur (mask:=m') (finger:=t.finger) (moves:=t.movedTo m') (led:=t.led) (plain:=t.plain) hc es hs
 have hr:t.relaid (es.map (·.1)) wanted=some ({ mask:=m',place:=pl,dummies := #[],finger:=t.finger,led:=t.led,moves:=t.movedTo m',plain:=t.plain },order):=by
  unfold SetTable.relaid
  rw [hw,Nat.add_sub_cancel]
  exact e1
 have hsz:(order.filterMap (es[·]?)).size=es.size:=by rw [← Array.length_toList,e3.length_eq,Array.length_toList]
 rw [hw,hr]
 have hlt:¬ (m'+1 > sizeLine):=by rw [sizeLine_eq];omega
 rw [if_neg hlt]
 refine wpAny_bind (wpAny_of_eq (a:=(order.filterMap (es[·]?),({ mask:=m',place:=pl,dummies := #[],finger:=t.finger,led:=t.led,moves:=t.movedTo m',plain:=t.plain }:SetTable))) ?_ ?_)
 ·show (if ((order.filterMap (es[·]?)).size != es.size)=true then _ else _)=_
  rw [hsz,if_neg (by simp)]
 ·dsimp only
  exact wpAny_storeSet_of ho hd (h _ _ e3 e2 rfl rfl (e4 _ rfl rfl) rfl rfl) (by rw [hsz,sizeLine_eq];omega)
end
end L2
namespace L2
open PySem PySem.Spec PyProof.Rows PySem.NumText
theorem zpg {α β:Type} {R:α→β→Prop} {e:α} {d:β} (h:R e d):∀ (p:Nat) {l:List α} {m:List β},Paired R l m→Paired R (l.take p++e::l.drop p) (m.take p++d::m.drop p)
 | 0,_,_,r=>by
  rw [List.take_zero,List.take_zero,List.drop_zero,List.drop_zero]
  exact .cons h r
 | p+1,_,_,.nil=>by
  rw [List.take_nil,List.drop_nil,List.take_nil,List.drop_nil]
  exact .cons h .nil
 | p+1,_,_,.cons a b=>.cons a (zpg h p b)
theorem zuj {α β:Type} {R:α→β→Prop} {l' l:List α} (h:l'.Perm l):∀ {m:List β},Paired R l m→∃ m',m'.Perm m∧Paired R l' m':=by
 induction h with
 | nil=>intro m r;exact ⟨m,.refl _,r⟩
 | cons x _ ih =>
  intro m r
  cases r with
  | cons a b =>
   obtain ⟨m',h1,h2⟩:=ih b
   exact ⟨_::m',h1.cons _,.cons a h2⟩
 | swap x y l =>
  intro m r
  cases r with
  | cons a b =>
   cases b with
   | cons c d=>exact ⟨_::_::_,.swap _ _ _,.cons c (.cons a d)⟩
 | trans _ _ ih1 ih2 =>
  intro m r
  obtain ⟨m1,h1,h2⟩:=ih2 r
  obtain ⟨m2,h3,h4⟩:=ih1 h2
  exact ⟨m2,h3.trans h1,h4⟩
theorem zdf {α β:Type} {R:α→β→Prop}:∀ {l:List α} {m:List β},Paired R l m→∀ {i:Nat} {e:α},l[i]? = some e→∃ d,m[i]? = some d∧R e d
 | _,_,.nil,i,e,h=>by simp at h
 | _,_,.cons a b,0,e,h=>by cases (Option.some.inj h);exact ⟨_,rfl,a⟩
 | _,_,.cons a b,i+1,e,h=>by
  obtain ⟨r,h1,h2⟩:=zdf b (i:=i) (by simpa using h)
  exact ⟨r,by simpa using h1,h2⟩
theorem zig {α β:Type} {R:α→β→Prop}:∀ {l:List α} {m:List β},Paired R l m→∀ {i:Nat} {d:β},m[i]? = some d→∃ e,l[i]? = some e∧R e d
 | _,_,.nil,i,e,h=>by simp at h
 | _,_,.cons a b,0,e,h=>by cases (Option.some.inj h);exact ⟨_,rfl,a⟩
 | _,_,.cons a b,i+1,e,h=>by
  obtain ⟨r,h1,h2⟩:=zig b (i:=i) (by simpa using h)
  exact ⟨r,by simpa using h1,h2⟩
noncomputable abbrev Mem:=Addr×PyData
noncomputable def MemR (e:Int×Value) (q:Mem):Prop:=e.2 = .ref q.1∧e.1=zak q.2
noncomputable def SetO (o:Obj) (qs:List Mem):Prop:=∃ es ep t qs',o.ExactSet∧o.data = .set es ep t∧t.fits es.size=true∧Fit t∧t.fill * 5<t.mask * 3∧Wp t es∧qs'.Perm qs∧Paired MemR es.toList qs'
noncomputable def Led (b:Bool) (h:Heap) (a:Addr):Prop:=∃ o es ep t,h.get? a=some o∧o.data = .set es ep t∧t.led=b∧t.plain=true
noncomputable def SetX (h:Heap) (a:Addr) (qs:List Mem):Prop:=∃ o,h.get? a=some o∧SetO o qs
section
variable {prog:Program} {w:World} {A:Around} {E:Value→Shared→Prop} {s:Shared}
theorem zpd {a:Addr} {o:Obj} {es:Array (Int×Value)} {ep:Nat} {t:ST} {qs':List Mem} {x:Value} {dx:PyData} {Q:SetFound→Shared→Prop} (ho:s.heap.get? a=some o) (hd:o.data = .set es ep t) (hf:t.fits es.size=true) (f:Fit t) (wp:Wp t es) (hp:Paired MemR es.toList qs')
  (hel:∀ q∈qs',El s.heap (.ref q.1) q.2) (hx:El s.heap x dx) {q:Mem} (hq:q∈qs') (e:q.2=dx) (hu:A.units+10<cLine) (b:Bool) (hQ:∀ r:Option Nat,(b=false→r.isSome=true)→Q (.there r) s):wpAny (model prog w) A (setSearch a x (zak dx) b) Q E s:=by
 obtain ⟨i0,hi0⟩:=List.getElem?_of_mem hq
 obtain ⟨e0,he0,hr0⟩:=zig hp hi0
 rw [Array.getElem?_toList] at he0
 have hpl:t.place.size=es.size:=by
  have:=hf
  unfold SetTable.fits at this
  rw [Bool.and_eq_true] at this
  exact eq_of_beq this.1
 have hil:i0<t.place.size:=by rw [hpl];exact (Array.getElem?_eq_some_iff.mp he0).1
 have hpi:=Array.getElem?_eq_getElem hil
 obtain ⟨n0,hn,hlv⟩:=wp.rch i0 _ e0 hpi he0
 have hh:e0.1=zak dx:=by rw [hr0.2,e]
 rw [hh] at hn hlv
 refine zsj ho hd hf f hx (λ i=>(qs'.getD i (0,.none)).2) (λ i e1 he1=>?_) (i0:=i0) (n0:=n0) (y0:=e0.2) (by rw [he0,← hh]) ?_ (by rw [hn];exact zpk wp.mono hpi) (λ k hk=>let ⟨i',hi'⟩:=hlv k hk; ⟨i',zpk wp.mono hi'⟩) hu b hQ
 ·obtain ⟨q1,hq1,hr1⟩:=zdf hp (i:=i) (e:=e1) (by rw [Array.getElem?_toList];exact he1)
  rw [hr1.1,List.getD_eq_getElem?_getD,hq1]
  exact hel q1 (List.mem_of_getElem? hq1)
 ·rw [List.getD_eq_getElem?_getD,hi0]
  show PyData.eqv q.2 dx=true
  rw [e]
  exact zls hx.oi
theorem zzh {qs':List Mem} {es:Array (Int×Value)} {dx:PyData} (hp:Paired MemR es.toList qs') (hel:∀ q∈qs',El s.heap (.ref q.1) q.2) (hx:zyd dx=true) (hn:∀ q∈qs',q.2≠dx):∀ e∈es.toList,∃ d,El s.heap e.2 d∧PyData.eqv d dx=false:=λ e he=>by
 obtain ⟨i,hi⟩:=List.getElem?_of_mem he
 obtain ⟨q1,hq1,hr1⟩:=zdf hp hi
 have hm:=List.mem_of_getElem? hq1
 have hl:=hel q1 hm
 refine ⟨q1.2,by rw [hr1.1];exact hl,?_⟩
 cases h:PyData.eqv q1.2 dx with
 | false=>rfl
 | true=>exact absurd (zmv _ _ hl.oi hx h) (hn q1 hm)
theorem zyr {a:Addr} {qs:List Mem} {x:Value} {dx:PyData} {Q:Option Nat→Shared→Prop} (hS:SetX s.heap a qs) (hel:∀ q∈qs,El s.heap (.ref q.1) q.2) (hx:El s.heap x dx) (hu:A.units+10<cLine)
  (h1:(∃ q∈qs,q.2=dx)→∀ i,Q (some i) s) (h2:(∀ q∈qs,q.2≠dx)→Q none s):wpAny (model prog w) A (setFind a x (zak dx)) Q E s:=by
 obtain ⟨o,ho,es,ep,t,qs',hex,hd,hf,f,hfull,wp,pm,hp⟩:=hS
 have hel':∀ q∈qs',El s.heap (.ref q.1) q.2:=λ q hq=>hel q (pm.mem_iff.mp hq)
 unfold setFind
 show wpAny _ _ (setFindIn a x (zak dx) (99999+1)) _ _ _
 unfold setFindIn
 refine wpAny_bind (wpAny_setState_of ho hd hf ?_)
 dsimp only
 have hbs:byScan x es=false:=by
  obtain ⟨b,rfl⟩:=hx.rf
  rfl
 rw [hbs]
 simp only [Bool.false_eq_true,if_false]
 by_cases hq:∃ q∈qs',q.2=dx
 ·obtain ⟨q,hqm,hqe⟩:=hq
  refine wpAny_bind (zpd ho hd hf f wp hp hel' hx hqm hqe hu false λ r hr=>?_)
  cases r with
  | none=>exact absurd (hr rfl) (by decide)
  | some i=>exact wpAny_pure (h1 ⟨q,pm.mem_iff.mp hqm,hqe⟩ i)
 ·have hn:∀ q∈qs',q.2≠dx:=λ q hqm e=>hq ⟨q,hqm,e⟩
  refine wpAny_bind (zue ho hd hf f hx (zzh hp hel' hx.oi hn) hu false λ N _ _=>?_)
  exact wpAny_pure (h2 λ q hqm=>hn q (pm.mem_iff.mpr hqm))
theorem zkv {a:Addr} {qs:List Mem} {ax:Addr} {dx:PyData} {Q:Bool→Shared→Prop} (hS:SetX s.heap a qs) (hel:∀ q∈qs,El s.heap (.ref q.1) q.2) (hx:El s.heap (.ref ax) dx) (hlen:qs.length<300) (hu:A.units+10<cLine)
  (hold:(∃ q∈qs,q.2=dx)→Q false s) (hq:(∀ q∈qs,q.2≠dx)→∀ h',Heap.SameBut a s.heap h'→SetX h' a ((ax,dx)::qs)→(∀ b,Led b s.heap a→Led b h' a)→Q true { s with heap:=h' }):wpAny (model prog w) A (setAddHashed a (.ref ax) (zak dx)) Q E s:=by
 obtain ⟨o,ho,es,ep,t,qs',hex,hd,hf,f,hfull,wp,pm,hp⟩:=hS
 have hel':∀ q∈qs',El s.heap (.ref q.1) q.2:=λ q hq=>hel q (pm.mem_iff.mp hq)
 have hsz:es.size=qs.length:=by rw [← Array.length_toList,Paired.length hp,pm.length_eq]
 obtain ⟨h,hhd⟩:∃ h,h=zak dx:=⟨_,rfl⟩
 have hhd2:h=zak dx:=hhd
 have hpl:t.place.size=es.size:=by
  have:=hf
  unfold SetTable.fits at this
  rw [Bool.and_eq_true] at this
  exact eq_of_beq this.1
 have hfill:t.fill=t.place.size:=by unfold SetTable.fill;rw [f.dum];rfl
 rw [hfill,hpl] at hfull
 unfold setAddHashed setAddHashedIn
 refine wpAny_holding (wpAny_bind (wpAny_setState_of ho hd hf ?_))
 dsimp only
 have hbs:byScan (.ref ax) es=false:=rfl
 rw [hbs]
 simp only [Bool.false_eq_true,if_false]
 by_cases hqq:∃ q∈qs',q.2=dx
 ·obtain ⟨q,hqm,hqe⟩:=hqq
  refine wpAny_bind (zpd ho hd hf f wp hp hel' hx hqm hqe hu true λ r _=>?_)
  exact wpAny_pure (hold ⟨q,pm.mem_iff.mp hqm,hqe⟩)
 have hne:∀ q∈qs',q.2≠dx:=λ q hqm e=>hqq ⟨q,hqm,e⟩
 refine wpAny_bind (zue ho hd hf f hx (zzh hp hel' hx.oi hne) hu true λ N hemp hlv=>?_)
 obtain ⟨j,hj⟩:∃ j,j=(path t N (t.probeStart (zak dx))).j:=⟨_,rfl⟩
 rw [← hj] at hemp ⊢
 have hfree:∀ i:Nat,t.place[i]? ≠ some j:=λ i e=>by
  rw [zpk wp.mono e] at hemp
  cases hemp
 rw [← hhd] at hj hlv ⊢
 dsimp only
 refine wpAny_bind (wpAny_setState_of ho hd hf ?_)
 dsimp only
 have hput:(t.put j).1={ t with place:=SetTable.insertAt t.place (SetTable.below t.place j) j }:=by
  unfold SetTable.put
  dsimp only
  have:SetTable.has t.dummies j=false:=by rw [f.dum];unfold SetTable.has;simp
  rw [this,if_neg Bool.false_ne_true]
 have hput2:(t.put j).2=SetTable.below t.place j:=rfl
 rw [hput,hput2]
 have h1sz:(SetTable.insertAt es (SetTable.below t.place j) (h,.ref ax)).size=es.size+1:=znk _ _ _
 obtain ⟨qs1,hqs1⟩:∃ qs1,qs1=qs'.take (SetTable.below t.place j)++(ax,dx)::qs'.drop (SetTable.below t.place j):=⟨_,rfl⟩
 have hpq1:qs1.Perm ((ax,dx)::qs):=by
  rw [hqs1]
  refine List.perm_middle.trans (.cons _ ?_)
  rw [List.take_append_drop]
  exact pm
 have hpr1:Paired MemR (SetTable.insertAt es (SetTable.below t.place j) (h,.ref ax)).toList qs1:=by
  rw [zxh,hqs1]
  exact zpg (R:=MemR) ⟨rfl,hhd⟩ _ hp
 have hwp1:∀ t1:ST,t1.mask=t.mask→t1.place=SetTable.insertAt t.place (SetTable.below t.place j) j→Wp t1 (SetTable.insertAt es (SetTable.below t.place j) (h,.ref ax)):=λ t1 e1 e2=>wp.ins hpl (N:=N) (e:=(h,.ref ax)) hj.symm hfree hlv e1 e2
 generalize SetTable.insertAt es (SetTable.below t.place j) (h,.ref ax)=es1 at h1sz hpr1 hwp1 ⊢
 have hmge:7≤t.mask:=by rcases f.msk with e | e | e | e <;> omega
 have tail:∀ pb:Bool,(t.plain=true→pb=true)→wpAny (model prog w) A (do
   storeSet a es1 { t with place:=SetTable.insertAt t.place (SetTable.below t.place j) j,plain:=pb }
   if (!false && ({ t with place:=SetTable.insertAt t.place (SetTable.below t.place j) j,plain:=pb }:SetTable).tooFull)=true then setRelay a (SetTable.grown (es.size+1))
   return true) Q E s:=by
  intro pb hpb
  refine wpAny_bind (wpAny_storeSet_of ho hd ?_ (by rw [h1sz,sizeLine_eq];omega))
  have p1:(SetTable.insertAt t.place (SetTable.below t.place j) j).size=es.size+1:=by rw [znk,hpl]
  generalize ht1:({ t with place:=SetTable.insertAt t.place (SetTable.below t.place j) j,plain:=pb }:SetTable)=t1
  have m1:t1.mask=t.mask:=by rw [← ht1]
  have l1:t1.led=t.led:=by rw [← ht1]
  have l2:t.plain=true→t1.plain=true:=by rw [← ht1];exact hpb
  have ledK:∀ {h':Heap} {es3:Array (Int×Value)} {ep3:Nat} {t3:SetTable},h'.get? a=some { o with data := .set es3 ep3 t3 }→t3.led=t1.led→t3.plain=t1.plain→∀ b,Led b s.heap a→Led b h' a:=by
   rintro h' es3 ep3 t3 g3 e3 p3 b ⟨o0,es0,ep0,t0,g0,d0,b0,q0⟩
   rw [ho] at g0
   cases g0
   rw [hd] at d0
   cases d0
   exact ⟨_,es3,ep3,t3,g3,rfl,by rw [e3,l1,b0],by rw [p3];exact l2 q0⟩
  have q1:t1.place.size=es.size+1:=by rw [← ht1];exact p1
  have d1:t1.dummies = #[]:=by rw [← ht1];exact f.dum
  have fl1:t1.fill=es.size+1:=by unfold SetTable.fill;rw [d1,q1];rfl
  have fits1:t1.fits es1.size=true:=by
   unfold SetTable.fits
   rw [q1,h1sz,fl1,m1,beq_self_eq_true,Bool.true_and]
   exact decide_eq_true (by omega)
  have fit1:Fit t1:=⟨d1,by rw [q1,m1];omega,by rw [m1];exact f.msk⟩
  have hg1:(s.heap.update a (Obj.putSet es1 t1)).get? a=some { o with data := .set es1 (ep+1) t1 }:=by
   have:=Heap.get?_update_self (Obj.putSet es1 t1) ho (by rw [putSet_of es1 t1 hd];rfl)
   rw [putSet_of es1 t1 hd] at this;exact this
  have sb1:=Heap.SameBut.update s.heap a (Obj.putSet es1 t1)
  simp only [Bool.not_false,Bool.true_and]
  by_cases hfu:t1.tooFull=true
  ·rw [if_pos hfu]
   have hfu':t1.mask * 3≤t1.fill * 5:=by unfold SetTable.tooFull at hfu;exact of_decide_eq_true hfu
   rw [fl1,m1] at hfu'
   obtain ⟨m',hm',hw,hlt⟩:∃ m',(m'=7 ∨ m'=31 ∨ m'=127 ∨ m'=511)∧SetTable.sizeAbove (SetTable.grown (es.size+1))=m'+1∧(es.size+1) * 5<m' * 3:=by
    rcases f.msk with e | e | e | e
    ·have:es.size=4:=by omega
     exact ⟨31,.inr (.inl rfl),by rw [this];decide,by omega⟩
    ·have:es.size=18:=by omega
     exact ⟨127,.inr (.inr (.inl rfl)),by rw [this];decide,by omega⟩
    ·have:es.size=76:=by omega
     exact ⟨511,.inr (.inr (.inr rfl)),by rw [this];decide,by omega⟩
    ·omega
   refine wpAny_bind (zgm (s:={ s with heap:=s.heap.update a (Obj.putSet es1 t1) }) hg1 rfl fits1 hw hm' (by rw [h1sz];omega) λ es2 t2 hp2 hpl2 hd2 hm2 hwp2 hl2 hpp2=>?_)
   have hg2:((s.heap.update a (Obj.putSet es1 t1)).update a (Obj.putSet es2 t2)).get? a=some { o with data := .set es2 (ep+1+1) t2 }:=by
    have:=Heap.get?_update_self (Obj.putSet es2 t2) hg1 (by rw [putSet_of es2 t2 rfl];rfl)
    rw [putSet_of es2 t2 rfl] at this;exact this
   have hsz2:es2.size=es.size+1:=by rw [← Array.length_toList,hp2.length_eq,Array.length_toList,h1sz]
   have fl2:t2.fill=es.size+1:=by unfold SetTable.fill;rw [hd2,hpl2,h1sz];rfl
   obtain ⟨qs2,hq2,hpr2⟩:=zuj hp2 hpr1
   refine wpAny_pure (hq (λ q hqm=>hne q (pm.mem_iff.mpr hqm)) _ (sb1.trans (Heap.SameBut.update _ a _)) ⟨_,hg2,es2,ep+1+1,t2,qs2,hex,rfl,?_,⟨hd2,by rw [hpl2,h1sz,hm2];omega,by rw [hm2];exact hm'⟩,by rw [fl2,hm2];exact hlt,hwp2,hq2.trans hpq1,hpr2⟩ (ledK hg2 hl2 hpp2))
   unfold SetTable.fits
   rw [hpl2,h1sz,hsz2,fl2,hm2,beq_self_eq_true,Bool.true_and]
   exact decide_eq_true (by omega)
  ·rw [if_neg hfu]
   have hnf:t1.fill * 5<t1.mask * 3:=by
    have:¬ (t1.fill * 5 ≥ t1.mask * 3):=λ z=>hfu (by unfold SetTable.tooFull;exact decide_eq_true z)
    omega
   exact wpAny_pure (hq (λ q hqm=>hne q (pm.mem_iff.mpr hqm)) _ sb1 ⟨_,hg1,es1,ep+1,t1,qs1,hex,rfl,fits1,fit1,hnf,hwp1 t1 m1 (by rw [← ht1]),hpq1,hpr1⟩ (ledK hg1 rfl rfl))
 by_cases hpn:t.plain=true
 ·simp only [hpn,if_true]
  obtain ⟨as,rx⟩:=hx.rd
  refine wpAny_bind (zdn 4 dx A _ _ _ as hx.dp rx hx.oi 8 _ (by decide) ?_)
  simp only [if_true]
  exact tail true λ _=>rfl
 ·simp only [hpn,if_false,Bool.false_eq_true]
  refine wpAny_bind (wpAny_pure ?_)
  simp only [if_true]
  exact tail false λ z=>absurd z hpn
end
end L2
namespace L2
open PySem PySem.Spec PyProof.Rows PySem.NumText
noncomputable def SetQ (bl:Bool) (h:Heap) (a:Addr) (val:Nat→PyData) (P:Nat→Value→Prop) (n:Nat):Prop:=∃ qs,SetX h a qs∧Led bl h a∧(∀ q∈qs,∃ j,j<n∧P j (.ref q.1)∧q.2=val j)∧(∀ j,j<n→∃ q∈qs,q.2=val j)∧(qs.map (·.2)).Nodup∧qs.length≤n
theorem SetQ.at {bl:Bool} {h h':Heap} {a:Addr} {val:Nat→PyData} {P:Nat→Value→Prop} {n:Nat} (x:SetQ bl h a val P n) (k:∀ o,h.get? a=some o→h'.get? a=some o):SetQ bl h' a val P n:=by
 obtain ⟨qs,⟨o,ho,r⟩,⟨o',es,ep,t,g,l⟩,r'⟩:=x
 exact ⟨qs,⟨o,k o ho,r⟩,⟨o',es,ep,t,k o' g,l⟩,r'⟩
section
variable {prog:Program} {w:World} {A:Around} {E:Value→Shared→Prop} {s:Shared}
theorem zjg (a:Value) {Q₁:Value→Shared→Prop}
  (h:Q₁ (.ref s.heap.objs.size) { s with heap:=s.heap.push { cls := .type "set",dict:=none,data := .set #[] 0 (.fresh 0 0 (!w.params.followText "set-order")) } }) :
  codeAny (model prog w) A (.call (.builtin "set.__new__") ⟨[.type "set",a],[]⟩) (wants Q₁ E) s:=by
 refine codeAny_of_tree ?_
 show wpAny _ A.in1 (do checkBuiltinCall "set.__new__" ⟨[.type "set",a],[]⟩;again (.builtin "set.__new__" ⟨[.type "set",a],[]⟩)) _ _ s
 refine wpAny_bind (wpAny_of_eq (F.newCall_set_1 a) (wpAny_pure ⟨plainId_quiet F.plain_set_new _,codeAny_builtin F.entry_set_new ?_⟩))
 rw [Around.under_plainId F.plain_set_new _]
 unfold Builtin.«set.__new__» Builtin.Frozenset.newClass
 have hsub:=sub_set_self
 obtain ⟨hp,g,d,tk,os⟩:=s
 dsimp only
 wp_walk
 refine wpAny_askSetting (wpAny_pure ?_)
 dsimp only
 simp only [newObj]
 refine wpAny_bind (wpAny_alloc (wpAny_pure ?_))
 exact wpAny_pure h
end
section
variable {prog:Program} {w:World} {A:Around} {R:Result→Shared→Prop} {I:Addr} {fp wr:List Addr} {G:Array GenState→Array GenState→Prop} {n:Nat} {P:Nat→Value→Prop} {St:Nat→Shared→Prop}
theorem zyo (bl:Bool) (W:WalksS prog w A.in1 I fp wr G n P St) (S:Addr) (hSf:S∉fp) (h0:Heap) (val:Nat→PyData) (hval:∀ i v,P i v→El h0 v (val i)) (hb:n<300) (hu:A.units+20<cLine)
  (hS0:h0.get? S=none) (hw0:∀ b∈wr,h0.get? b=none) :
  ∀ (k i:Nat) (s:Shared),n - i=k→i≤n→St i s→(∀ b o,h0.get? b=some o→s.heap.get? b=some o)→SetQ bl s.heap S val P i →
   (∀ s',Moved (S::wr) G s s'→SetQ bl s'.heap S val P n→R (.ok (.ret .none)) s') →
   codeAny (model prog w) A (.builtin "set.update.loop" ⟨[.ref S,.ref I],[]⟩) R s:=by
 have hSw:S∉wr:=λ h=>hSf (W.sub _ h)
 have hsub:∀ b∈wr,b∈S::wr:=λ b hb=>List.mem_cons_of_mem _ hb
 have h0w:∀ b o,h0.get? b=some o→b∉wr:=λ b o e hb=>by rw [hw0 b hb] at e;cases e
 have h0S:∀ b o,h0.get? b=some o→b≠S:=λ b o e hb=>by rw [hb,hS0] at e;cases e
 intro k
 induction k with
 | zero =>
  intro i s hk hi hst hkept hS hR
  have hin:i=n:=by omega
  subst hin
  refine codeAny_builtin F.entry_set_update_loop ?_
  rw [Around.under_plainId F.plain_set_update_loop _]
  show wpAny _ A.in1 (pyNext (.ref I) >>= _) _ _ s
  refine wpAny_bind (W.done s _ _ hst λ s' hm=>?_)
  show wpAny _ A.in1 (ret Value.none) _ _ s'
  exact wpAny_pure (hR s' (hm.mono hsub) (hS.at λ o e=>hm.heap S _ hSw e))
 | succ k ih =>
  intro i s hk hi hst hkept hS hR
  have hlt:i<n:=by omega
  refine codeAny_builtin F.entry_set_update_loop ?_
  rw [Around.under_plainId F.plain_set_update_loop _]
  show wpAny _ A.in1 (pyNext (.ref I) >>= _) _ _ s
  refine wpAny_bind (W.item i s _ _ hlt hst λ v s' hP hst' hm=>?_)
  have hv:=hval i v hP
  have hS':SetQ bl s'.heap S val P i:=hS.at λ o e=>hm.heap S _ hSw e
  have hkept':∀ b o,h0.get? b=some o→s'.heap.get? b=some o:=λ b o e=>hm.heap b o (h0w b o e) (hkept b o e)
  show wpAny _ A.in1 (holding [v] (setAdd S v) >>= _) _ _ s'
  refine wpAny_bind (wpAny_holding ?_)
  unfold setAdd
  refine wpAny_holding ?_
  have hv':=hv.kept hkept'
  obtain ⟨as,rx⟩:=hv'.rd
  obtain ⟨ax,rfl⟩:=hv.rf
  refine wpAny_bind (zhn 4 (val i) A.in1 _ s' (.ref ax) as hv.dp rx hv.oi (by show A.units+1+4<cLine;omega) _ λ tk htk=>?_)
  obtain ⟨qs,hX,hld,hel,hmem,hnd,hle⟩:=hS'
  have go:∀ h',Heap.SameBut S s'.heap h'→SetQ bl h' S val P (i+1)→wpAny (model prog w) A.in1 (again (.builtin "set.update.loop" ⟨[.ref S,.ref I],[]⟩))
    (λ fin s'=>match fin with | .done f=>R (.ok f) s' | .again c'=>c'.quiet=true∧codeAny (model prog w) A c' R s') (λ e s'=>R (.error e) s') { s' with heap:=h',toks:=tk }:=by
   intro h' hsb hSi
   have hk2:∀ b o,h0.get? b=some o→h'.get? b=some o:=λ b o e=>by rw [hsb.2 b (h0S b o e)];exact hkept' b o e
   refine wpAny_pure ⟨plainId_quiet F.plain_set_update_loop _,ih (i+1) _ (by omega) hlt (W.frame _ s' _ _ hst' htk λ b hb o e=>?_) hk2 hSi λ s'' hm'' hS''=>?_⟩
   ·rw [hsb.2 b (λ h:b=S=>hSf (by rw [← h];exact hb))];exact e
   ·refine hR s'' (Moved.trans W.gtrans ((hm.mono hsub).then_heap htk λ b o hb e=>?_) hm'') hS''
    rw [hsb.2 b (λ h:b=S=>hb (by rw [h];exact List.mem_cons_self))];exact e
  have hel':∀ q∈qs,El s'.heap (.ref q.1) q.2:=λ q hq=>by
   obtain ⟨j,_,hPj,e⟩:=hel q hq
   rw [e]
   exact (hval j _ hPj).kept hkept'
  refine zkv (s:={ s' with toks:=tk }) hX hel' hv' (by omega) (by show A.units+1+10<cLine;omega) (λ hold=>?_) (λ hnew h' hsb hS2 hlk=>?_)
  ·refine go s'.heap ⟨rfl,λ _ _=>rfl⟩ ⟨qs,hX,hld,λ q hq=>let ⟨j,h1,h2⟩:=hel q hq; ⟨j,by omega,h2⟩,λ j hj=>?_,hnd,by omega⟩
   rcases Nat.lt_or_ge j i with hl | hg
   ·exact hmem j hl
   ·have:j=i:=by omega
    subst this
    exact hold
  ·refine go h' hsb ⟨(ax,val i)::qs,hS2,hlk _ hld,λ q hq=>?_,λ j hj=>?_,?_,by rw [List.length_cons];omega⟩
   ·rcases List.mem_cons.mp hq with rfl | hq
    ·exact ⟨i,by omega,hP,rfl⟩
    ·obtain ⟨j,h1,h2⟩:=hel q hq
     exact ⟨j,by omega,h2⟩
   ·rcases Nat.lt_or_ge j i with hl | hg
    ·obtain ⟨q,hq,e2⟩:=hmem j hl
     exact ⟨q,List.mem_cons_of_mem _ hq,e2⟩
    ·have:j=i:=by omega
     subst this
     exact ⟨_,List.mem_cons_self,rfl⟩
   ·rw [List.map_cons]
    refine List.nodup_cons.mpr ⟨λ hm=>?_,hnd⟩
    obtain ⟨q,hq,e⟩:=List.mem_map.mp hm
    exact hnew q hq e
end
section
variable {prog:Program} {w:World} {A:Around} {E:Value→Shared→Prop} {s:Shared}
set_option maxRecDepth 100000 in
set_option maxHeartbeats 3200000 in
theorem zih {l:Addr} {items:Array Value} {val:Nat→PyData} {Q:Value→Shared→Prop}
  (hh:A.handled=none) (hl:s.heap.IsList l items) (hi:∀ i v,items[i]? = some v→El s.heap v (val i)) (hb:items.size<300) (hu:A.units+30<cLine)
  (h:∀ (h':Heap) (tk:Nat),SetQ (!w.params.followText "set-order") h' s.heap.objs.size val (λ i v=>items[i]? = some v) items.size →
   (∀ b o,b<s.heap.objs.size→s.heap.get? b=some o→h'.get? b=some o)→Q (.ref s.heap.objs.size) { s with heap:=h',toks:=tk }) :
  wpAny (model prog w) A (call (.type "set") [.ref l]) Q E s:=by
 obtain ⟨c,tl,hmro⟩:=F.called_set.mro
 have hmade:=F.called_set.made
 have hsub:=F.called_set.sub
 refine wpAny_call (codeAny_of_tree ?_)
 show wpAny _ _ (callAny (.type "set") _) _ _ _
 refine wpAny_pure ⟨Code.quiet_builtin _ (by decide +kernel),codeAny_builtin F.entry_type_call ?_⟩
 rw [Around.under_plain (weight_type_call_type "set" [.ref l] []) rfl]
 have h1:=F.called_set.notType
 have h2:=F.called_set.canCreate
 have hct:=F.typeCall_set_1 (.ref l)
 repeat (any_goals (first | assumption | wp_step))
 refine codeAny_mono (zjg (.ref l) (E:=E) (Q₁:=λ obj s₁=>∃ led:Bool,led=(!w.params.followText "set-order")∧obj = .ref s.heap.objs.size∧s₁={ s with heap:=s.heap.push { cls := .type "set",dict:=none,data := .set #[] 0 (.fresh 0 0 led) } }) ⟨_,rfl,rfl,rfl⟩) λ r s₁ hr=>?_
 cases r with
 | error e=>exact hr
 | ok fl =>
  cases fl with
  | ret obj =>
   obtain ⟨led,hled,rfl,rfl⟩:=hr
   have hS:(s.heap.push { cls := .type "set",dict:=none,data := .set #[] 0 (.fresh 0 0 led) }).get? s.heap.objs.size=some { cls := .type "set",dict:=none,data := .set #[] 0 (.fresh 0 0 led) }:=Heap.get?_push_size _ rfl
   have hT:Shared.TypeIs { s with heap:=s.heap.push { cls := .type "set",dict:=none,data := .set #[] 0 (.fresh 0 0 led) } } (.ref s.heap.objs.size) "set" := ⟨_,hS,rfl⟩
   have hli:=F.called_set.init.lookup
   have hbi:=F.called_set.init.bind (.ref s.heap.objs.size)
   repeat (any_goals (first | assumption | wp_step))
   refine codeAny_mono (codeAny_call_builtin (R:=wants (λ r s₂=>r = .none∧∃ h' tk,s₂={ s with heap:=h',toks:=tk } ∧
     SetQ (!w.params.followText "set-order") h' s.heap.objs.size val (λ i v=>items[i]? = some v) items.size ∧
     (∀ b o,b<s.heap.objs.size→s.heap.get? b=some o→h'.get? b=some o)) E) F.called_set.init.plain F.entry_set_init (check_set_init_1 hT ?_)) λ r₂ s₂ hr₂=>?_
   ·obtain ⟨ol,hol,hcl,nl,hdl⟩:=hl
    obtain ⟨ocls,odict,odata,oslots⟩:=ol
    simp only at hcl hdl
    subst hcl;subst hdl
    have hol':(s.heap.push { cls := .type "set",dict:=none,data := .set #[] 0 (.fresh 0 0 led) }).get? l=some { cls := .type "list",dict:=odict,data := .seq items nl,slots:=oslots }:=Heap.get?_push_of_some _ hol
    have hsls:=F.sub_list_set
    have hslf:=F.sub_list_frozenset
    have hne:(Value.type "list" == Value.type "dict")=false:=by decide
    have hl1:(s.heap.push { cls := .type "set",dict:=none,data := .set #[] 0 (.fresh 0 0 led) }).IsList l items:=⟨_,hol',rfl,nl,rfl⟩
    unfold Builtin.«set.__init__» noKeywords Builtin.Frozenset.updateFrom
    generalize hPI:pyIter=PI
    wp_walk
    subst hPI
    refine wpAny_pyIter_list hl1 ?_
    refine wpAny_bind (wpAny_runValue ?_)
    have hlS:l<s.heap.objs.size:=Heap.lt_size hol
    have hh3:A.in1.in1.in1.handled=none:=by simp [hh]
    have hneI:l≠(s.heap.push { cls := .type "set",dict:=none,data := .set #[] 0 (.fresh 0 0 led) }).objs.size:=by
     rw [Heap.size_push];exact Nat.ne_of_lt (Nat.lt_succ_of_lt hlS)
    have hSf:s.heap.objs.size∉[(s.heap.push { cls := .type "set",dict:=none,data := .set #[] 0 (.fresh 0 0 led) }).objs.size,l]:=by
     rw [Heap.size_push];simp only [List.mem_cons,List.mem_singleton,List.not_mem_nil,or_false,not_or]
     exact ⟨Nat.ne_of_lt (Nat.lt_succ_self _),Nat.ne_of_gt hlS⟩
    have hfr:s.heap.get? s.heap.objs.size=none:=by
     cases e:s.heap.get? s.heap.objs.size with
     | none=>rfl
     | some o'=>exact absurd (Heap.lt_size e) (Nat.lt_irrefl _)
    have hfr2:s.heap.get? (s.heap.objs.size+1)=none:=by
     cases e:s.heap.get? (s.heap.objs.size+1) with
     | none=>rfl
     | some o'=>exact absurd (Heap.lt_size e) (Nat.not_lt.mpr (Nat.le_succ _))
    refine zyo (!w.params.followText "set-order") ((Walks.list hh3 _ l hneI items).toS) s.heap.objs.size hSf s.heap val (λ i v hv=>hi i v hv) hb (by show A.units+1+1+20<cLine;omega) hfr (λ b hb' => ?hw) (items.size - 0) 0 _ (by omega) (Nat.zero_le _)
     ⟨⟨_,Heap.get?_push_size _ rfl,rfl,rfl⟩,(hl1.push _)⟩ (λ b o e=>Heap.get?_push_of_some _ (Heap.get?_push_of_some _ e)) ?hS0 ?hR
    case hw =>
     rcases List.mem_cons.mp hb' with rfl | hb'
     ·rw [Heap.size_push];exact hfr2
     ·cases hb'
    case hS0 =>
     have hget:((s.heap.push { cls := .type "set",dict:=none,data := .set #[] 0 (.fresh 0 0 led) }).push { cls := .type "list_iterator",data := .fields #[.ref l,.int 0 0] }).get? s.heap.objs.size
       = some { cls := .type "set",dict:=none,data := .set #[] 0 (.fresh 0 0 led) }:=Heap.get?_push_of_some _ hS
     exact ⟨[],⟨_,hget, #[],0,.fresh 0 0 led,[],⟨rfl,rfl,rfl⟩,rfl,rfl,⟨rfl,by show 0≤7;decide,.inl rfl⟩,by show 0 * 5<7 * 3;decide,⟨(λ a b u v _ e _=>by simp [SetTable.fresh] at e),λ i j e h1=>by simp [SetTable.fresh] at h1⟩,.refl _,.nil⟩,⟨_,_,_,_,hget,rfl,hled,rfl⟩,(λ q hq=>by cases hq),(λ j hj=>(by omega)),List.nodup_nil,Nat.zero_le _⟩
    case hR =>
     intro s' hm hS'
     obtain ⟨h',g',d',tk',os'⟩:=s'
     have eg:g'=s.gens:=hm.gens
     have ed:d'=s.drawn:=hm.drawn
     have eo:os'=s.os:=hm.os
     subst eg;subst ed;subst eo
     show wpAny _ _ _ _ _ _
     refine wpAny_pure ?_
     show wpAny _ _ (ret Value.none) _ _ _
     refine wpAny_pure ⟨rfl,h',tk',rfl,hS',λ b o hb e=>?_⟩
     have hb1:b≠s.heap.objs.size:=Nat.ne_of_lt hb
     have hb2:b≠(s.heap.push { cls := .type "set",dict:=none,data := .set #[] 0 (.fresh 0 0 led) }).objs.size:=by
      rw [Heap.size_push];exact Nat.ne_of_lt (Nat.lt_succ_of_lt hb)
     exact hm.heap b o (by simp only [List.mem_cons,List.mem_singleton,List.not_mem_nil,or_false,not_or];exact ⟨hb1,hb2⟩) (Heap.get?_push_of_some _ (Heap.get?_push_of_some _ e))
   ·cases r₂ with
    | error e=>exact hr₂
    | ok fl₂ =>
     cases fl₂ with
     | ret r =>
      obtain ⟨rfl,h',tk,rfl,hS',hk'⟩:=hr₂
      repeat (any_goals (first | assumption | wp_step))
      exact h _ _ hS' hk'
     | _=>exact hr₂.elim
  | _=>exact hr.elim
end
end L2
namespace L2
open PySem PySem.Spec PyProof.Rows PySem.NumText
noncomputable def zhp (a:Addr) (qs:List Mem):HO := .ext λ h=>SetX h a qs
noncomputable def ok4 (d:PyData):Prop:=zyd d=true∧d.depth≤4∧∃ xs,d = .tuple xs
theorem zsk (m:Mark):ok4 (markD m):=⟨rfl,by show 1≤4;decide,_,rfl⟩
theorem zlr {P:Program} {w:World} {H:Hp} {h:Heap} {a:Addr} {qs:List Mem} (x:SetX h a qs):ObjOk P w H h a (zhp a qs):=by
 obtain ⟨o,ho,r⟩:=x
 exact ⟨⟨o,ho,r⟩,⟨o,ho⟩,λ h1 h2 ⟨o',ho',r'⟩ k=>⟨o',k o' ho',r'⟩⟩
section
variable {X:Cx} {pins:List (Addr×Obj)} {σ:St} {H:Hp} {s:Shared}
theorem Inv.el (I:Inv X pins σ H s) {d:PyData} {x:V} {u:Value} (h:DV X.K H d x) (r:RelV x u) (o:ok4 d):El s.heap u d:=by
 obtain ⟨o1,o2,xs,rfl⟩:=o
 obtain ⟨as,ra⟩:=DV.reads I _ x u h r
 obtain ⟨a,vs,rfl,_⟩:=h
 cases r
 exact ⟨⟨as,ra⟩,o1,o2,a,rfl⟩
theorem Inv.setX (I:Inv X pins σ H s) {a:Addr} {qs:List Mem} (h:H a=some (zhp a qs)):SetX s.heap a qs:=(I.hok a _ h).1
end
structure SAt (K:W.Frag) (H:Hp) (a:Addr) (qs:List Mem):Prop where
 ob:H a=some (zhp a qs)
 dv:∀ q∈qs,DV K H q.2 (.ref q.1)
 ok:∀ q∈qs,ok4 q.2
 nd:(qs.map (·.2)).Nodup
section
variable {X:Cx}
noncomputable def zf1 (K:W.Frag):List V→Hp→VK→Prop:=λ xs H Q=>∃ (p:Addr) (ds:List PyData) (ys:List V),xs=[.ref p]∧SqL K H p ys∧DVs K H ds ys∧(∀ d∈ds,ok4 d)∧ds.length<300 ∧
 ∀ (a:Addr) (qs:List Mem),H a=none→SAt K (upd H a (zhp a qs)) a qs→(∀ d,(∃ q∈qs,q.2=d)↔d∈ds)→qs.length≤ds.length→Q (.ref a) (upd H a (zhp a qs))
theorem zqo (hc:X.calm=true) (hu:X.A.units+100<cLine):zrj X (.type "set") (zf1 X.K):=by
 intro pins s σ H xs us Q I r h
 obtain ⟨p,ds,ys,rfl,hq,hds,hok,hlen,q⟩:=h
 obtain ⟨u,rfl,ru⟩:=zil r
 cases ru
 obtain ⟨its,rv,pl,hz⟩:=I.list hq
 have hyl:ys.length=ds.length:=hds.length
 have hil:its.length=ds.length:=by rw [← rv.length];exact hyl
 have hat:∀ (i:Nat) v,its.toArray[i]? = some v→∃ x d,ys[i]? = some x∧ds[i]? = some d∧RelV x v∧DV X.K H d x:=λ i v hv=>by
  have hi:i<ds.length:=by
   have:=(Array.getElem?_eq_some_iff.mp hv).1
   rw [List.size_toArray,hil] at this
   exact this
  obtain ⟨x,hx,hd⟩:=hds.get (i:=i) (d:=ds[i]) (List.getElem?_eq_getElem hi)
  obtain ⟨u,hu',ru⟩:=rv.get hx
  have:v=u:=by
   rw [List.getElem?_toArray,hu'] at hv
   exact (Option.some.inj hv).symm
  subst this
  exact ⟨x,ds[i],hx,List.getElem?_eq_getElem hi,ru,hd⟩
 refine zih (val:=λ i=>ds.getD i .none) (I.ok.hd hc) pl.isList (λ i v hv=>?_) (by rw [List.size_toArray,hil];exact hlen) (by omega) λ h' tk hS hk=>?_
 ·obtain ⟨x,d,_,hd,rx,dv⟩:=hat i v hv
  have e:ds.getD i .none=d:=by rw [List.getD_eq_getElem?_getD,hd];rfl
  rw [e]
  exact I.el dv rx (hok d (List.mem_of_getElem? hd))
 ·have hz2:its.toArray.size=ds.length:=by simp [hil]
  rw [hz2] at hS
  obtain ⟨qs,hX,_,hin,hall,hnd,hle⟩:=hS
  have hn:=I.hok.fresh (Nat.le_refl s.heap.objs.size)
  have hqd:∀ q∈qs,q.2∈ds∧DV X.K H q.2 (.ref q.1):=λ qq hqq=>by
   obtain ⟨j,hj,hP,e⟩:=hin qq hqq
   obtain ⟨x,d,_,hd,rx,dv⟩:=hat j _ hP
   have e1:ds.getD j .none=d:=by rw [List.getD_eq_getElem?_getD,hd];rfl
   have e:qq.2=d:=by rw [e];exact e1
   obtain ⟨_,_,⟨zs,ez⟩⟩:=hok d (List.mem_of_getElem? hd)
   have ex:x = .ref qq.1:=by
    rw [ez] at dv
    obtain ⟨aa,vs,rfl,_⟩:=dv
    cases (show Value.ref qq.1=Value.ref aa from rx)
    rfl
   rw [e,← ex]
   exact ⟨List.mem_of_getElem? hd,dv⟩
  refine ⟨.ref s.heap.objs.size,_,I.laid (t':=tk) (o:=zhp s.heap.objs.size qs) (λ b ob e=>hk b ob (Heap.lt_size e) e) (Nat.le_refl _) (zlr hX),rfl,q _ qs hn ⟨upd_same,λ qq hqq=>DV.same (zea hn) _ _ (hqd qq hqq).2,λ qq hqq=>hok _ (hqd qq hqq).1,hnd⟩ (λ d=>⟨λ ⟨qq,hqq,e⟩=>e ▸ (hqd qq hqq).1,λ hd=>?_⟩) hle⟩
  obtain ⟨j,hj⟩:=List.getElem?_of_mem hd
  obtain ⟨qq,hqq,e⟩:=hall j (List.getElem?_eq_some_iff.mp hj).1
  exact ⟨qq,hqq,by rw [e];show ds.getD j .none=d;rw [List.getD_eq_getElem?_getD,hj];rfl⟩
theorem zgu {prog:Program} {w:World} {A:Around} {E:Value→Shared→Prop} {s:Shared} {a:Addr} {qs:List Mem} {x:Value} {dx:PyData} {Q:Bool→Shared→Prop} (hS:SetX s.heap a qs) (hel:∀ q∈qs,El s.heap (.ref q.1) q.2) (hx:El s.heap x dx) (hu:A.units+20<cLine)
  (h:∀ b tk,(b=true ↔ ∃ q∈qs,q.2=dx)→s.toks≤tk→Q b { s with toks:=tk }):wpAny (model prog w) A (contains (.ref a) x) Q E s:=by
 obtain ⟨o,ho,r⟩:=id hS
 have hT:s.TypeIs (.ref a) "set" := by
  obtain ⟨_,_,_,_,hex,_⟩:=r
  exact ⟨o,ho,hex.1⟩
 refine wpAny_contains_slot hT F.slot_set_contains (wpAny_call_entry F.slot_set_contains hT entry_set_contains ?_ (F.args_set_contains_2 _ _))
 unfold Builtin.«frozenset.__contains__» Builtin.Frozenset.withSetAsKey setContains
 refine wpAny_bind (wpAny_bind (wpAny_pure (wpAny_pure ?_)))
 dsimp only
 refine wpAny_bind (wpAny_tryCatch (wpAny_holding ?_))
 obtain ⟨as,rx⟩:=hx.rd
 refine wpAny_bind (zhn 4 dx _ _ s x as hx.dp rx hx.oi (by show A.units+1+4<cLine;omega) _ λ tk htk=>?_)
 refine wpAny_bind (zyr (s:={ s with toks:=tk }) hS hel hx (by show A.units+1+10<cLine;omega) (λ hq i=>?_) (λ hn=>?_))
 ·exact wpAny_pure (wpAny_pure ⟨_,rfl,wpAny_truthy_bool (h true tk ⟨λ _=>hq,λ _=>rfl⟩ htk)⟩)
 ·exact wpAny_pure (wpAny_pure ⟨_,rfl,wpAny_truthy_bool (h false tk ⟨(λ z=>by cases z),λ ⟨q,hq,e⟩=>absurd e (hn q hq)⟩ htk)⟩)
noncomputable def rInX (K:W.Frag) (neg:Bool):R2:=λ x y H Q=>∃ d a qs,DV K H d x∧ok4 d∧y = .ref a∧SAt K H a qs∧∀ b,(b=true ↔ ∃ q∈qs,q.2=d)→Q (.bl (if neg then !b else b)) H
theorem zwo (hu:X.A.units+100<cLine):OpR X (compareOp .NotIn) (rInX X.K true):=by
 intro pins s σ H x y v u Q I rx ry h
 obtain ⟨d,a,qs,hd,ok,rfl,S,k⟩:=h
 cases ry
 show wpAny _ _ (do let b ← contains (.ref a) v;pure (Value.bool !b)) _ _ _
 refine wpAny_bind (zgu (I.setX S.ob) (λ q hq=>I.el (S.dv q hq) rfl (S.ok q hq)) (I.el hd rx ok) (by omega) λ b tk hb htk=>?_)
 exact wpAny_pure ⟨.bl (!b),H,I.kept (t':=tk) (λ _ _ e=>e),rfl,k b hb⟩
end
end L2
namespace L2
open PySem PySem.Spec PyProof.Rows PySem.NumText
theorem zsn (a:Value):argsOk "min" ⟨[a],[("default",.none)]⟩:=by
 first | rfl | with_unfolding_all rfl | decide
theorem znl {α:Type} {lt:α→α→Bool} (st:STO lt) (f:Nat→α):∀ (k i:Nat),i≤k→f (argBest (λ i j=>lt (f i) (f j)) k)=f i ∨ lt (f (argBest (λ i j=>lt (f i) (f j)) k)) (f i)=true
 | 0,i,h=>by
  have:i=0:=by omega
  subst this
  exact .inl rfl
 | k+1,i,h=>by
  have ih:=znl st f k
  show f (if lt (f (k+1)) (f (argBest (λ i j=>lt (f i) (f j)) k))=true then k+1 else argBest (λ i j=>lt (f i) (f j)) k)=f i ∨ lt (f (if lt (f (k+1)) (f (argBest (λ i j=>lt (f i) (f j)) k))=true then k+1 else argBest (λ i j=>lt (f i) (f j)) k)) (f i)=true
  generalize argBest (λ i j=>lt (f i) (f j)) k=b at ih
  cases hb:lt (f (k+1)) (f b) with
  | true =>
   rw [if_pos rfl]
   rcases Nat.lt_or_ge i (k+1) with hl | hg
   ·rcases ih i (by omega) with e | e
    ·rw [← e];exact .inr hb
    ·exact .inr (st.tr _ _ _ hb e)
   ·have:i=k+1:=by omega
    subst this
    exact .inl rfl
  | false =>
   rw [if_neg (by decide)]
   rcases Nat.lt_or_ge i (k+1) with hl | hg
   ·exact ih i (by omega)
   ·have:i=k+1:=by omega
    subst this
    rcases Classical.em (f b=f (k+1)) with e | e
    ·exact .inl e
    ·exact .inr (st.tri _ _ (λ z=>e z.symm) hb)
section
variable {prog:Program} {w:World} {A:Around} {E:Value→Shared→Prop} {s:Shared}
theorem zwm {x:Value} {M:Model} {R:Unit→Shared→Prop} (h:R () s):wpAny M A (checkBuiltinCall "min" ⟨[x],[("default",Value.none)]⟩) R E s:=by
 unfold checkBuiltinCall
 dsimp only
 rw [F.kind_min]
 dsimp only
 exact wpAny_of_eq (zsn x) h
theorem zks {R:Result→Shared→Prop} {I S:Addr} {fp wr:List Addr} {P:Nat→Value→Prop} {St:Nat→Heap→Prop} (W:Walks prog w A.in1 I fp wr 0 P St) (S1:S∉fp) {h0:Heap} (N1:∀ b∈wr,h0.get? b=none) (N2:h0.get? S=none)
  {c:Nat} (st:St 0 s.heap) (ex:Ext h0 s.heap) (hS:s.heap.get? S=some { cls := .type "list",dict:=none,data := .seq #[] c,slots := #[] })
  (fin:∀ h' tk,Ext h0 h'→R (.ok (.ret .none)) { s with heap:=h',toks:=tk }) :
  codeAny (model prog w) A (.builtin "min.loop" ⟨[.ref I,.none,.ref S],[("default",Value.none)]⟩) R s:=by
 have S2:S∉wr:=λ z=>S1 (W.sub _ z)
 refine codeAny_builtin F.entry_min_loop ?_
 rw [Around.under_plainId F.plain_min_loop _]
 show wpAny _ A.in1 (seqItems? (.ref S) >>= _) _ _ s
 refine wpAny_bind (wpAny_seqItems hS rfl ?_)
 show wpAny _ A.in1 (tryCatch (pyNext (.ref I)) _ >>= _) _ _ s
 refine wpAny_bind (wpAny_tryCatch (W.done s _ _ st λ h' tk kp=>?_))
 have hS':=kp S _ S2 hS
 have ex':Ext h0 h':=λ b o e=>kp b o (λ z=>by rw [N1 b z] at e;cases e) (ex b o e)
 show wpAny _ _ (do rule (toString "min" ++ toString ".default");ret Value.none) _ _ _
 exact wpAny_bind (wpAny_rule (wpAny_pure (fin _ _ ex')))
end
section
variable {X:Cx} {e:Expr} {ta:TA} {x:Str} {id:String} {r:List V→Hp→VK→Prop} {p pos kp kp1:Pos} {j:Nat}
noncomputable def zbz (X:Cx) (id:String) (r:List V→Hp→VK→Prop):Prop:=∀ (pins:List (Addr×Obj)) (s:Shared) (σ:St) (H:Hp) (xs:List V) (us:List Value) (Q:VK),Inv X pins σ H s→Vals xs us→r xs H Q→wpAny (model X.prog X.w) X.A (call (.builtin id) us [("default",.none)]) (EP X pins σ Q) X.xe s
theorem zvr (hc:zbz X id r) (hg:Gl X x) (hm:X.mg x=none) (hv:bootBuiltins x=some (.builtin id)) (ha:PA X [e] ta) (hn:x ≠ "__name__" := by decide) (hdb:(x == ("__debug__" : Str))=false:=by decide)
  (h1:backTo pos (starEach [e] X.env)=(false,eval e X.env)::backTo pos (starEach [] X.env):=by rfl) (h2:((backTo pos (starEach [e] X.env)).any λ x=>x.fst)=false:=by rfl)
  (h3:((backToKw pos (keywordEach [⟨some "default",.Constant .none j kp1,kp⟩] X.env)).all λ x=>x.fst.isSome)=true:=by rfl) (h4:((backToKw pos (keywordEach [⟨some "default",.Constant .none j kp1,kp⟩] X.env)).any λ x=>x.fst.isNone)=false:=by rfl)
  (h5:(backToKw pos (keywordEach [⟨some "default",.Constant .none j kp1,kp⟩] X.env)).filterMap (·.1)=([Str.ofString "default"]:List Str):=by rfl) :
  PE X (.Call (.Name x p) [e] [⟨some "default",.Constant .none j kp1,kp⟩] pos) (tCB r ta) := .mk <| by
 intro pins s σ H Q I h
 refine wpAny_Call_Name_kw (zjj I hg hm hv ?_ hn hdb)
 refine PyProof.Rows.callWith_kw ?_ h1 h2 h3 h4
 refine thn (ha pos pins s σ H _ I h) λ us s1 ⟨vs,H1,I1,r1,q1⟩=>?_
 refine PyProof.Rows.kws_cons (Constant_none (PyProof.Rows.kws_nil ?_))
 rw [h5]
 exact hc pins s1 σ H1 vs us Q I1 r1 q1
noncomputable def zo1 (K:W.Frag):List V→Hp→VK→Prop:=λ xs H Q=>∃ (a:Addr) (ps:List (List Stp)) (ys:List V),xs=[.ref a]∧SqL K H a ys∧DVs K H (ps.map plc) ys∧(ps=[]→Q .non H)∧(∀ (i:Nat) r v,ps[i]? = some r→ys[i]? = some v→(∀ q∈ps,r=q ∨ pLt r q=true)→Q v H)
theorem zvn (hc:X.calm=true) (hu:X.A.units+100<cLine):zbz X "min" (zo1 X.K):=by
 intro pins s σ H xs us Q I r h
 obtain ⟨a,ps,ys,rfl,hq,hds,q0,q1⟩:=h
 obtain ⟨u,rfl,ru⟩:=zil r
 cases ru
 obtain ⟨its,rv,pl,hz⟩:=I.list hq
 have hyl:ys.length=ps.length:=by rw [hds.length,List.length_map]
 have hil:its.length=ps.length:=by rw [← rv.length];exact hyl
 have nm:(toString "min" ++ toString ".loop" : String) = "min.loop" := by decide
 have hl:s.heap.IsList a its.toArray:=pl.isList
 refine wpAny_call (codeAny_call_builtin F.plain_min F.entry_min (zwm ?_))
 show wpAny _ X.A.in1 (Builtin.Builtins.bindParams "min" ["key", "default"] 0 ⟨[],[("default",Value.none)]⟩ >>= _) _ _ s
 refine wpAny_bind (wpAny_of_eq (show Builtin.Builtins.bindParams "min" ["key", "default"] 0 ⟨[],[("default",Value.none)]⟩=pure [none,some .none] from rfl) ?_)
 show wpAny _ X.A.in1 (pyIter (.ref a) >>= _) _ _ s
 refine wpAny_bind (wpAny_pyIter_list hl (wpAny_bind (wpAny_newObj_type ?_)))
 rw [nm]
 have n0:∀ b,s.heap.objs.size≤b→s.heap.get? b=none:=λ b hb=>Heap.get?_none_of_le hb
 have sz:(s.heap.push { cls := .type "list_iterator",data := .fields #[.ref a,.int 0 0] }).objs.size=s.heap.objs.size+1:=Heap.size_push ..
 have hal:a<s.heap.objs.size:=by
  obtain ⟨o,ho,_⟩:=hl
  exact Heap.lt_size ho
 have W:=Walks.list (prog:=X.prog) (w:=X.w) (A:=X.A.in1) (I.ok.hd hc) s.heap.objs.size a (Nat.ne_of_lt hal) its.toArray
 have kp:∀ (h:Heap) (o1 o2:Obj),Ext h ((h.push o1).push o2):=λ h o1 o2 b o q=>Heap.get?_push_of_some _ (Heap.get?_push_of_some _ q)
 have hat:∀ (i:Nat) z,its.toArray[i]? = some z→∃ x r,ys[i]? = some x∧ps[i]? = some r∧RelV x z∧DV X.K H (plc r) x:=λ i z hz=>by
  have hi:i<ps.length:=by
   have:=(Array.getElem?_eq_some_iff.mp hz).1
   rw [List.size_toArray,hil] at this
   exact this
  obtain ⟨x,hx,hd⟩:=hds.get (i:=i) (d:=plc ps[i]) (by rw [List.getElem?_map,List.getElem?_eq_getElem hi];rfl)
  obtain ⟨u,hu',ru⟩:=rv.get hx
  have:z=u:=by
   rw [List.getElem?_toArray,hu'] at hz
   exact (Option.some.inj hz).symm
  subst this
  exact ⟨x,ps[i],hx,List.getElem?_eq_getElem hi,ru,hd⟩
 have gS:((s.heap.push { cls := .type "list_iterator",data := .fields #[.ref a,.int 0 0] }).push { cls := .type "list",data := .seq #[] }).get? (s.heap.objs.size+1)=some { cls := .type "list",dict:=none,data := .seq #[] 0,slots := #[] }:=by
  have:=Heap.get?_push_size (s.heap.push { cls := .type "list_iterator",data := .fields #[.ref a,.int 0 0] }) (o:={ cls := .type "list",data := .seq #[] }) rfl
  rw [sz] at this
  exact this
 have gI:((s.heap.push { cls := .type "list_iterator",data := .fields #[.ref a,.int 0 0] }).push { cls := .type "list",data := .seq #[] }).IsListIter s.heap.objs.size a 0:=⟨_,Heap.get?_push_of_some _ (Heap.get?_push_size _ rfl),rfl,rfl⟩
 have S1:s.heap.objs.size+1∉[s.heap.objs.size,a]:=by
  simp only [List.mem_cons,List.not_mem_nil,or_false,not_or]
  exact ⟨Nat.ne_of_gt (Nat.lt_succ_self _),Nat.ne_of_gt (Nat.lt_succ_of_lt hal)⟩
 have N1:∀ b∈[s.heap.objs.size],s.heap.get? b=none:=λ b hb=>by rw [List.mem_singleton.mp hb];exact n0 _ (Nat.le_refl _)
 dsimp only
 rw [sz]
 rcases Nat.eq_zero_or_pos ps.length with e0 | hpos
 ·have ep:ps=[]:=List.length_eq_zero_iff.mp e0
  have ei:its=[]:=List.length_eq_zero_iff.mp (by omega)
  subst ei
  refine wpAny_pure ⟨plainId_quiet F.plain_min_loop _,zks (h0:=s.heap) W S1 N1 (n0 _ (Nat.le_succ _)) ⟨gI,(hl.push _).push _⟩ (kp _ _ _) gS λ h' tk ex=>?_⟩
  exact ⟨.non,H,I.kept (t':=tk) ex,rfl,q0 ep⟩
 ·have key:zky X.prog X.w X.A.in1 .Lt s.heap (λ i z=>its.toArray[i]? = some z) (λ i j=>pLt (ps.getD i []) (ps.getD j [])):=by
   intro i j x' y' s' Q' E' hij ex e1 e2 hq
   obtain ⟨xi,ri,_,hri,rxi,di⟩:=hat i x' e1
   obtain ⟨xj,rj,_,hrj,rxj,dj⟩:=hat j y' e2
   have hq:Q' (Value.bool (pLt (ps.getD i []) (ps.getD j []))) s':=hq
   rw [List.getD_eq_getElem?_getD,hri,List.getD_eq_getElem?_getD,hrj] at hq
   obtain ⟨as,ra⟩:=DV.reads I _ _ _ di rxi
   obtain ⟨bs,rb⟩:=DV.reads I _ _ _ dj rxj
   exact (zid 64 (plc ri) (plc rj) (pLt ri rj) X.A.in1 s' x' y' as bs (SeqAt.depth_of_shaped (zga ri)) (zcf ex ra) (zcf ex rb) (zkg _) (zkg _) (zwe ri rj) (by show X.A.units+1+64+2<cLine;omega)).1 _ _ _ _ hq
  refine wpAny_pure ⟨plainId_quiet F.plain_min_loop _,zcs (h0:=s.heap) W _ key _ S1 N1 (n0 _ (Nat.le_succ _)) (by rw [List.size_toArray,hil];exact hpos) ⟨gI,(hl.push _).push _⟩ (kp _ _ _) gS λ z h' tk hz' ex=>?_⟩
  rw [List.size_toArray,hil] at hz'
  obtain ⟨x,r',hx,hr,rx,_⟩:=hat _ z hz'
  refine ⟨x,H,I.kept (t':=tk) ex,rx,q1 _ r' x hr hx λ q hq'=>?_⟩
  obtain ⟨i,hi⟩:=List.getElem?_of_mem hq'
  have hil2:=(List.getElem?_eq_some_iff.mp hi).1
  have:=znl pLt_sto (λ i=>ps.getD i []) (ps.length - 1) i (by omega)
  rw [show ps.getD (argBest (λ i j=>pLt (ps.getD i []) (ps.getD j [])) (ps.length - 1)) []=r' by rw [List.getD_eq_getElem?_getD,hr];rfl,show ps.getD i []=q by rw [List.getD_eq_getElem?_getD,hi];rfl] at this
  exact this
end
end L2
namespace L2
open PySem PySem.Spec PyProof.Rows PySem.NumText
theorem SAt.same {K:W.Frag} {H H':Hp} {a:Addr} {qs:List Mem} (S:SAt K H a qs) (s:Same H H'):SAt K H' a qs:=⟨s _ _ S.ob,λ q hq=>DV.same s _ _ (S.dv q hq),S.ok,S.nd⟩
section
variable {X:Cx}
theorem zst {K:W.Frag} (h:X.K=K) (hu:X.A.units+100<cLine):OpR X (compareOp .Gt) (rGtG K):=h ▸ zay hu
theorem zql {K:W.Frag} (h:X.K=K) (hu:X.A.units+100<cLine):OpR X (compareOp .NotIn) (rInX K true):=h ▸ zwo hu
theorem zjt {K:W.Frag} (h:X.K=K) (hu:X.A.units+64<cLine):OpR X (compareOp .NotEq) (rNeD K):=h ▸ zmh hu
end
end L2
namespace L2
open PySem PySem.Spec PyProof.Rows PySem.NumText
section
variable {prog:Program} {w:World} {A:Around} {E:Value→Shared→Prop} {s:Shared} {d it:Addr} {ds:Array DictEntry} {ep i:Nat}
end
end L2
namespace L2
open PySem PySem.Spec PyProof.Rows PySem.NumText
section
variable {X:Cx} {o:Expr} {td:TE}
end
section
variable {prog:Program} {w:World} {A:Around} {E:Value→Shared→Prop} {s:Shared} {d it S:Addr} {ds:Array DictEntry} {ep:Nat}
end
section
variable {X:Cx}
end
end L2
namespace L2
open PySem PySem.Spec PyProof.Rows PySem.NumText
section
variable {X:Cx}
end
section
variable {prog:Program} {w:World} {A:Around} {E:Value→Shared→Prop} {s:Shared} {d q:Addr}
end
end L2
namespace L2
open PySem PySem.Spec PyProof.Rows PySem.NumText
section
variable {prog:Program} {w:World} {A:Around} {E:Value→Shared→Prop} {s:Shared} {d q:Addr}
end
section
variable {X:Cx} {o e:Expr} {td ty:TE} {apos cpos:Pos}
end
end L2
namespace L2
open PySem PySem.Spec PyProof.Rows PySem.NumText
section
variable {prog:Program} {w:World} {A:Around} {E:Value→Shared→Prop} {s:Shared} {a it:Addr}
end
end L2
namespace L2
open PySem PySem.Spec PyProof.Rows PySem.NumText
section
variable {prog:Program} {w:World} {A:Around} {E:Value→Shared→Prop} {s:Shared} {a it:Addr}
end
section
variable {X:Cx}
end
end L2
namespace L2
open PySem PySem.Spec PyProof.Rows PySem.NumText
section
variable {prog:Program} {w:World} {A:Around} {E:Value→Shared→Prop} {s:Shared} {a it:Addr} {es:Array (Int×Value)} {ep i:Nat} {t:ST}
end
end L2
namespace L2
open PySem PySem.Spec PyProof.Rows PySem.NumText
section
variable {prog:Program} {w:World} {A:Around} {E:Value→Shared→Prop} {s:Shared} {a it S:Addr} {es:Array (Int×Value)} {ep:Nat} {t:ST}
end
section
variable {X:Cx}
end
end L2
namespace L2
open PySem PySem.Spec PyProof.Rows PySem.NumText
section
variable {prog:Program} {w:World} {A:Around} {R:Result→Shared→Prop} {s:Shared}
end
section
variable {X:Cx}
end
end L2
namespace L2
open PySem PySem.Spec PyProof.Rows PySem.NumText
section
variable {prog:Program} {w:World} {A:Around} {E:Value→Shared→Prop} {R:Result→Shared→Prop} {s:Shared}
end
section
variable {X:Cx}
end
end L2
namespace L2
open PySem PySem.Spec PyProof.Rows PySem.NumText
section
variable {X:Cx}
end
end L2
namespace L2
open PySem PySem.Spec PyProof.Rows PySem.NumText
theorem znp {J:It} {n:Nat} {nt:Nat} {cap:List Nat} {g:TG} {ti:TT} {te:TE} {σ:St} {H1:Hp} {Q:VK} {D:Addr} (val:Nat→V) (kb:Nat→Bool) (R:Nat→V→Hp→Prop) (hD:H1 D=none) (hP:Plain H1) (hx:n≤sizeLine)
  (hJ:∀ i H2,Same H1 H2→(i<n→J.go i H2)∧(J.stop n H2)∧∀ x H3,i<n→J.yld i H2 x H3→H3=H2∧x=val i)
  (mono:∀ i y H H',R i y H→(∀ b o,b≠D→H b=some o→H' b=some o)→(∃ zs,H D=some (.lst zs))→R i y H')
  (step:∀ (i:Nat) H2 (Tt:VK) (Tf:Hp→Prop),i<n→Plain H2→Same H1 H2→(kb i=true→∀ y H6,R i y H6→Same H2 H6→Plain H6→Tt y H6)→(kb i=false→∀ H6,Same H2 H6→Plain H6→Tf H6) →
   g (val i) (List.replicate nt none++caps cap σ) H2 λ σ4 H4=>ti σ4 H4 λ b H5=>if b=true then te σ4 H5 Tt else Tf H5)
  (fin:∀ ys H2,Paired (λ i y=>R i y H2) ((List.range n).filter kb) ys→H2 D=some (.lst ys)→Same H1 H2→Plain H2→Q (.ref D) H2) :
  ztv J D nt cap g ti te σ H1 Q:=by
 refine ⟨λ i m ys H2=>m=n - i∧i≤n∧ys.length≤i∧H2 D=some (.lst ys)∧Same H1 H2∧Plain H2∧Paired (λ i y=>R i y H2) ((List.range i).filter kb) ys,⟨_,rfl,Nat.zero_le _,Nat.le_refl _,upd_same,zea hD,hP.lst,.nil⟩,?_⟩
 rintro i m ys H2 ⟨rfl,hi,hl,hd,hs,hp,hr⟩
 refine ⟨hd,?_⟩
 obtain ⟨j1,j2,j3⟩:=hJ i H2 hs
 by_cases hlt:i<n
 ·refine .inr ⟨j1 hlt,by omega,λ v H3 hy=>?_⟩
  obtain ⟨rfl,rfl⟩:=j3 v H3 hlt hy
  refine step i _ _ _ hlt hp hs (λ hk y H6 hR hs6 hp6=>⟨hs6 _ _ hd,_,by omega,rfl,hlt,by simp;omega,upd_same,(hs.trans hs6).upd hD,hp6.lst,?_⟩) (λ hk H6 hs6 hp6=>⟨_,by omega,rfl,hlt,by omega,hs6 _ _ hd,hs.trans hs6,hp6,?_⟩)
  ·have up:∀ b o,b≠D→H6 b=some o→(upd H6 D (.lst (ys++[y]))) b=some o:=λ b o hb e=>by rw [zja hb];exact e
   rw [List.range_succ,List.filter_append,show [i].filter kb=[i] by simp [hk]]
   refine Paired.snoc (Paired.mapP hr λ e' y' hr'=>mono e' y' H6 _ (mono e' y' _ H6 hr' (λ b o _ q=>hs6 b o q) ⟨_,hd⟩) up ⟨_,hs6 _ _ hd⟩) (mono i y H6 _ hR up ⟨_,hs6 _ _ hd⟩)
  ·rw [List.range_succ,List.filter_append,show [i].filter kb=[] by simp [hk],List.append_nil]
   exact Paired.mapP hr λ e' y' hr'=>mono e' y' _ H6 hr' (λ b o _ q=>hs6 b o q) ⟨_,hd⟩
 ·have e:i=n:=by omega
  subst e
  exact .inl ⟨j2,fin ys H2 hr hd hs hp⟩
theorem zdo {α:Type} (as:List α) (d:α):(List.range as.length).map (λ i=>as.getD i d)=as:=by
 refine List.ext_getElem (by simp) λ i h1 h2=>?_
 rw [List.getElem_map,List.getElem_range,List.getD_eq_getElem?_getD,List.getElem?_eq_getElem h2]
 rfl
theorem zos {α β:Type} (as:List α) (d:α) (kb:α→Bool) (f:α→β):((List.range as.length).filter (λ i=>kb (as.getD i d))).map (λ i=>f (as.getD i d))=(as.filter kb).map f:=by
 have h:=zdo as d
 rw [show (as.filter kb).map f=(((List.range as.length).map (λ i=>as.getD i d)).filter kb).map f by rw [h],List.filter_map,List.map_map]
 rfl
noncomputable abbrev Cla:=Int×Mark×Ver×Ver×Int×Str
noncomputable def claD (c:Cla):PyData := .tuple [.int c.1,markD c.2.1,ver c.2.2.1,ver c.2.2.2.1,.int c.2.2.2.2.1,.str c.2.2.2.2.2]
noncomputable def chO (c:Cla):Str:=c.2.2.2.2.2
theorem zkm {K:W.Frag} {H:Hp} {c:Cla} {x:V} (h:DV K H (claD c) x):∃ t mv sv av,x = .ref t∧SqT K H t [.int c.1,mv,sv,av,.int c.2.2.2.2.1,.str (chO c)]∧DV K H (markD c.2.1) mv∧DV K H (ver c.2.2.1) sv∧DV K H (ver c.2.2.2.1) av:=by
 obtain ⟨t,vs,rfl,hq,v1,r1,rfl,e1,v2,r2,rfl,e2,v3,r3,rfl,e3,v4,r4,rfl,e4,v5,r5,rfl,e5,v6,r6,rfl,e6,e7⟩:=h
 cases (show v1=_ from e1)
 cases (show v5=_ from e5)
 cases (show v6=_ from e6)
 cases (show r6=_ from e7)
 exact ⟨t,v2,v3,v4,rfl,hq,e2,e3,e4⟩
theorem zcw {K:W.Frag} {H:Hp} {c:Cla} {t:Addr} {mv sv av:V} (h:SqT K H t [.int c.1,mv,sv,av,.int c.2.2.2.2.1,.str (chO c)]) (h2:DV K H (markD c.2.1) mv) (h3:DV K H (ver c.2.2.1) sv) (h4:DV K H (ver c.2.2.2.1) av):DV K H (claD c) (.ref t) :=
 ⟨t,_,rfl,h,_,_,rfl,rfl,_,_,rfl,h2,_,_,rfl,h3,_,_,rfl,h4,_,_,rfl,rfl,_,_,rfl,rfl,rfl⟩
end L2
namespace L2
open PySem PySem.Spec PyProof.Rows PySem.NumText
noncomputable def mks (a:Sh):List Mark:=a.map (·.1)
theorem zji:∀ {a:Sh} {m:Mark} {v:Ver},look a m=some v→(m,v)∈a
 | [],_,_,h=>by cases h
 | x::a,m,v,h=>by
  unfold look at h
  by_cases e:x.1=m
  ·rw [if_pos e] at h
   cases h
   rw [← e]
   exact List.mem_cons_self
  ·rw [if_neg e] at h
   exact List.mem_cons_of_mem _ (zji h)
theorem zbm {α:Type}:∀ {l1 l2:List α},l1.Nodup→l2.Nodup→(∀ x,x∈l1↔x∈l2)→l1.Perm l2:=λ h1 h2 h=>(List.perm_ext_iff_of_nodup h1 h2).mpr h
end L2
namespace L2
open PySem PySem.Spec PyProof.Rows PySem.NumText
section
variable {prog:Program} {w:World} {A:Around} {E:Value→Shared→Prop} {s:Shared} {d a:Addr} {ds:Array DictEntry} {ep:Nat} {o:Obj}
end
section
variable {X:Cx}
end
end L2
namespace L2
open PySem PySem.Spec PyProof.Rows PySem.NumText
section
variable {prog:Program} {w:World} {A:Around} {E:Value→Shared→Prop} {s:Shared} {d r:Addr} {ds:Array DictEntry} {ep:Nat}
end
section
variable {X:Cx}
end
end L2
namespace L2
open PySem PySem.Spec PyProof.Rows PySem.NumText
theorem zfs {ns:Sh} {m:Mark} {v:Ver} (hn:m∉mks ns):∀ k,look (ns++[(m,v)]) k=if m=k then some v else look ns k:=by
 intro k
 induction ns with
 | nil=>rfl
 | cons n ns ih =>
  have hn':m∉mks ns:=λ z=>hn (List.mem_cons_of_mem _ z)
  have hm:n.1≠m:=λ z=>hn (by rw [← z];exact List.mem_cons_self)
  show (if n.1=k then some n.2 else look (ns++[(m,v)]) k)=if m=k then some v else if n.1=k then some n.2 else look ns k
  rw [ih hn']
  by_cases h1:n.1=k
  ·rw [if_pos h1,if_neg (λ z=>hm (h1.trans z.symm)),if_pos h1]
  ·rw [if_neg h1,if_neg h1]
end L2
namespace L2
open PySem PySem.Spec PyProof.Rows PySem.NumText
end L2
namespace L2
open PySem PySem.Spec PyProof.Rows PySem.NumText
section
variable {X:Cx} {tg:Expr}
end
end L2
namespace L2
open PySem PySem.Spec PyProof.Rows PySem.NumText
section
variable {prog:Program} {w:World} {A:Around} {E:Value→Shared→Prop} {s:Shared}
end
section
variable {X:Cx}
end
end L2
namespace L2
open PySem PySem.Spec PyProof.Rows PySem.NumText
end L2
namespace L2
open PySem PySem.Spec PyProof.Rows PySem.NumText
section
variable {X:Cx} {tg:Expr}
end
end L2
namespace L2
open PySem PySem.Spec PyProof.Rows PySem.NumText
end L2
namespace L2
open PySem PySem.Spec PyProof.Rows PySem.NumText
end L2
namespace L2
open PySem PySem.Spec PyProof.Rows PySem.NumText PySem.W
section
variable {prog:Program} {w:World} {A:Around} {E:Value→Shared→Prop} {s:Shared} {a:Addr} {vs:List Value}
end
section
variable {X:Cx}
end
end L2
namespace L2
open PySem PySem.Spec PyProof.Rows PySem.NumText PySem.W
section
variable {X:Cx}
variable {CX:CXT} {k:Nat} {E:XK} {x:Str} {p pos:Pos} {e:Expr} {es:List Expr} {t:TA}
end
theorem nwT {H H':Hp} {t:Addr} {xs:List V} (e:upd H t (.tup xs)=H') (h:H t=none) (P:Plain H):Same H H'∧Plain H'∧H' t=some (.tup xs):=by
 subst e
 exact ⟨zea h,P.tup,upd_same⟩
theorem nwL {H H':Hp} {t:Addr} {xs:List V} (e:upd H t (.lst xs)=H') (h:H t=none) (P:Plain H):Same H H'∧Plain H'∧H' t=some (.lst xs):=by
 subst e
 exact ⟨zea h,P.lst,upd_same⟩
end L2
namespace L2
open PySem PySem.Spec PyProof.Rows PySem.NumText
section
variable {X:Cx}
end
end L2
namespace L2
open PySem PySem.Spec PyProof.Rows PySem.NumText
end L2
namespace L2
open PySem PySem.Spec PyProof.Rows PySem.NumText
theorem zfk:∀ (n:Nat) (da db:PyData) (c:Bool) (A:Around) (s:Shared) (a b:Value) (as bs:List Addr),PyData.depth da≤n→Reads s.heap a da as→Reads s.heap b db bs→da.canLay0=true→db.canLay0=true→ltD db da=some c →
  A.units+n+2<cLine→zzc .LtE A s a b (!c):=by
 intro n
 induction n with
 | zero =>
  intro da db c A s a b as bs hd ra rb _ _ hc hu
  cases ra with
  | int i t =>
   cases rb with
   | int j u =>
    have hc:decide (j<i)=c:=by simpa [ltD] using hc
    subst hc
    exact λ prog w E Q hq=>(PyProof.Rows.le_int (by rw [show decide (i≤j) = !decide (j<i) by rw [← decide_not];exact decide_eq_decide.mpr (by omega)];exact hq):wpAny (model prog w) A (compareOp .LtE (.int i t) (.int j u)) Q E s)
   | _=>simp [ltD] at hc
  | str x t =>
   cases rb with
   | str y u =>
    have hc:decide (y.cps.toList<x.cps.toList)=c:=by simpa [ltD] using hc
    subst hc
    exact λ prog w E Q hq=>(PySem.P.le_str hq:wpAny (model prog w) A (compareOp .LtE (.str x t) (.str y u)) Q E s)
   | _=>simp [ltD] at hc
  | tuple h1 h2 h3 h4=>simp [PyData.depth] at hd
  | _=>cases rb <;> simp [ltD] at hc
 | succ n ih =>
  intro da db c A s a b as bs hd ra rb la lb hc hu
  cases ra with
  | int i t =>
   cases rb with
   | int j u =>
    have hc:decide (j<i)=c:=by simpa [ltD] using hc
    subst hc
    exact λ prog w E Q hq=>(PyProof.Rows.le_int (by rw [show decide (i≤j) = !decide (j<i) by rw [← decide_not];exact decide_eq_decide.mpr (by omega)];exact hq):wpAny (model prog w) A (compareOp .LtE (.int i t) (.int j u)) Q E s)
   | _=>simp [ltD] at hc
  | str x t =>
   cases rb with
   | str y u =>
    have hc:decide (y.cps.toList<x.cps.toList)=c:=by simpa [ltD] using hc
    subst hc
    exact λ prog w E Q hq=>(PySem.P.le_str hq:wpAny (model prog w) A (compareOp .LtE (.str x t) (.str y u)) Q E s)
   | _=>simp [ltD] at hc
  | @tuple l o vs m xs as h1 h2 h3 h4 =>
   cases rb with
   | @tuple l2 o2 vs2 m2 ys bs g1 g2 g3 g4 =>
    have hc:ltDs ys xs=some c:=by simpa [ltD] using hc
    have z1:vs.size=xs.length:=by have:=SeqAt.ReadsAll.length _ _ _ h4;simpa using this
    have z2:vs2.size=ys.length:=by have:=SeqAt.ReadsAll.length _ _ _ g4;simpa using this
    have la':PyData.canLayAll0 xs=true:=la
    have lb':PyData.canLayAll0 ys=true:=lb
    have hd':PyData.depthAll xs≤n:=by have:PyData.depth (.tuple xs)=PyData.depthAll xs+1:=rfl;omega
    have at1:∀ j (h:j<vs.size),∃ d bs,xs[j]? = some d∧Reads s.heap vs[j] d bs∧d∈xs:=λ j h=>zdb h4 (by simp [h])
    have at2:∀ j (h:j<vs2.size),∃ d bs,ys[j]? = some d∧Reads s.heap vs2[j] d bs∧d∈ys:=λ j h=>zdb g4 (by simp [h])
    have he:∀ j (k1:j<vs.size) (k2:j<vs2.size),SeqAt.EqAt A.in1 s vs[j] vs2[j] (PyData.eqv ((ys[j]?).getD .none) ((xs[j]?).getD .none)):=λ j k1 k2=>by
     obtain ⟨d,b1,e1,r1,m1⟩:=at1 j k1
     obtain ⟨d2,b2,e2,r2,m2⟩:=at2 j k2
     rw [e1,e2,zeh]
     refine SeqAt.eqAt_reads d d2 A.in1 s _ _ b1 b2 r1 r2 (zna m1 la') (zna m2 lb') ?_
     have:=zob m1
     have:min d.depth d2.depth≤d.depth:=Nat.min_le_left _ _
     show A.units+1+min d.depth d2.depth<cLine
     omega
    have hl:IsTup s.heap l vs:=⟨o,h1,h2,m,h3⟩
    have hr:IsTup s.heap l2 vs2:=⟨o2,g1,g2,m2,g3⟩
    have e0:∀ (j:Nat) x y,ys[j]? = some x→xs[j]? = some y→PyData.eqv ((ys[j]?).getD .none) ((xs[j]?).getD .none)=PyData.eqv x y:=λ j x y e1 e2=>by rw [e1,e2];rfl
    have lexlt:=zmf (e:=λ j=>PyData.eqv ((ys[j]?).getD .none) ((xs[j]?).getD .none)) (r:=λ j=>(ltD ((ys[j]?).getD .none) ((xs[j]?).getD .none)).getD false) hc e0 (λ j x y c' e1 e2 _ _ e3=>by rw [e1,e2];simp only [Option.getD_some];rw [e3];rfl)
    have hu1:A.in1.units+n+2<cLine:=by show A.units+1+n+2<cLine;omega
    have cmp:∀ j (k1:j<vs.size) (k2:j<vs2.size),(∀ i,i<j→PyData.eqv ((ys[i]?).getD .none) ((xs[i]?).getD .none)=true)→PyData.eqv ((ys[j]?).getD .none) ((xs[j]?).getD .none)=false →
      zzc .LtE A.in1 s vs[j] vs2[j] (!(ltD ((ys[j]?).getD .none) ((xs[j]?).getD .none)).getD false):=λ j k1 k2 hall hne=>by
     obtain ⟨d,b1,e1,r1,m1⟩:=at1 j k1
     obtain ⟨d2,b2,e2,r2,m2⟩:=at2 j k2
     rw [e1,e2] at hne ⊢
     obtain ⟨c',hc'⟩:=zol ys xs c hc j d2 d e2 e1 (λ i x y hi h1 h2=>by have:=hall i hi;rw [h1,h2] at this;exact this) hne
     simp only [Option.getD_some]
     rw [hc']
     exact ih d d2 c' A.in1 s _ _ b1 b2 (Nat.le_trans (zob m1) hd') r1 r2 (zna m1 la') (zna m2 lb') hc' hu1
    intro prog w E Q hq
    refine (zep hl hr he (λ j k1 k2 h3 h4=>cmp j k1 k2 h3 h4) (by omega) ?_:wpAny (model prog w) A (compareOp .LtE (.ref l) (.ref l2)) Q E s)
    have e:decide (vs.size≤vs2.size) = !decide (vs2.size<vs.size):=by rw [← decide_not];exact decide_eq_decide.mpr (by omega)
    rw [e,zhh,z1,z2,Nat.min_comm,lexlt]
    exact hq
   | _=>simp [ltD] at hc
  | _=>cases rb <;> simp [ltD] at hc
section
variable {X:Cx}
noncomputable def rLeG (K:W.Frag):R2:=λ x y H Q=>∃ d e c,DV K H d x∧DV K H e y∧SeqAt.shaped d=true∧SeqAt.shaped e=true∧ltD e d=some c∧Q (.bl (!c)) H
theorem zew (hu:X.A.units+100<cLine):OpR X (compareOp .LtE) (rLeG X.K):=by
 intro pins s σ H x y v u Q I rx ry h
 obtain ⟨d,e,c,hd,he,sd,se,hc,q⟩:=h
 obtain ⟨as,ra⟩:=DV.reads I d x v hd rx
 obtain ⟨bs,rb⟩:=DV.reads I e y u he ry
 exact zfk 64 d e c X.A s v u as bs (SeqAt.depth_of_shaped sd) ra rb (SeqAt.canLay_of_shaped sd) (SeqAt.canLay_of_shaped se) hc (by omega) _ _ _ _ ⟨.bl _,H,I,rfl,q⟩
theorem zvu {K:W.Frag} (h:X.K=K) (hu:X.A.units+100<cLine):OpR X (compareOp .LtE) (rLeG K):=h ▸ zew hu
noncomputable def zg0:R2:=λ x y H Q=>∃ z k,x = .str z∧y = .int (if k=true then 1 else 0)∧z.length≤sizeLine∧Q (.str (if k=true then z else "")) H
theorem zfq:OpR X (binaryOp .Mult) zg0:=by
 intro pins s σ H x y v u Q I rx ry h
 obtain ⟨z,k,rfl,rfl,hz,q⟩:=h
 obtain ⟨t,rfl⟩:=rx
 obtain ⟨t',rfl⟩:=ry
 cases k with
 | true =>
  refine SB.mul (n:=1) ⟨rfl,⟨λ _ h=>absurd h (by rw [Bool.or_eq_false_iff];intro y;exact absurd y.1 (by decide)),λ _ h=>absurd h (by rw [Bool.or_eq_false_iff];intro y;exact absurd y.1 (by decide))⟩⟩ λ t'' k'=>?_
  rw [show Txt.mul z 1=z by unfold Txt.mul;rw [if_neg (by decide),if_pos (by rfl)]]
  exact ⟨.str z,H,I.tok _,⟨_,rfl⟩,q⟩
 | false =>
  refine SB.mul (n:=0) ⟨rfl,⟨λ h=>absurd (by decide) h,λ h=>absurd (by decide) h⟩⟩ λ t'' k'=>?_
  exact ⟨.str "",H,I.tok _,⟨_,rfl⟩,q⟩
end
end L2
local macro_rules | `(tactic| walk_at "rd") => `(tactic| repeat (first
 | refine ⟨_,rfl,?_⟩
 | refine ⟨_,_,rfl,rfl,?_⟩
 | refine ⟨(by show (0:Int)<_;decide),?_⟩
 | refine ⟨⟨by decide,by decide⟩,?_⟩
 | refine ⟨Or.inr ⟨by decide,by decide⟩,?_⟩
 | refine ⟨⟨by decide,by decide,by decide⟩,?_⟩
 | refine ⟨_,_,_,_,rfl,rfl,L2.SqL.of L2.upd_same,rfl,?_⟩
 | refine ⟨_,_,_,_,rfl,rfl,L2.SqL.of (by assumption),rfl,?_⟩))
namespace My
open PySem L2 PySem.Spec PyProof.Rows PySem.NumText
local macro_rules | `(tactic| walk_at "sc") => `(tactic| exact ⟨rfl,rfl,rfl,by decide +kernel,rfl,by decide +kernel,by decide +kernel⟩)
theorem sm1 {n:Nat} (h:n≤1000):n≤sizeLine:=Nat.le_of_lt (zyc h)
theorem ip_2:(0:Int)<2:=by decide
theorem ip_3:(0:Int)<3:=by decide
theorem ip_4:(0:Int)<4:=by decide
theorem ip_5:(0:Int)<5:=by decide
theorem ip_6:(0:Int)<6:=by decide
theorem ip_7:(0:Int)<7:=by decide
theorem ip_9:(0:Int)<9:=by decide
theorem ztz:(0:Int)<11:=by decide
theorem zs0:(0:Int)<15:=by decide
theorem zlz:(0:Int)<40:=by decide
theorem sz_0:0≤sizeLine:=by decide
theorem sz_1:1≤sizeLine:=by decide
theorem sz_2:2≤sizeLine:=by decide
theorem sz_3:3≤sizeLine:=by decide
theorem sz_4:4≤sizeLine:=by decide
theorem sz_6:6≤sizeLine:=by decide
noncomputable def top (i:Nat):Stmt:=PySem.Challenge.pw_twotabs_k31_chosen.main.body.getD i (.Pass ⟨0,0,0,0⟩)
noncomputable abbrev zfy:Stmt:=top 12
noncomputable abbrev zhx:Stmt:=top 11
noncomputable abbrev zlx:Stmt:=top 14
noncomputable abbrev zwv:Stmt:=top 15
noncomputable abbrev s_q7:Stmt:=top 18
noncomputable abbrev zkw:Stmt:=top 19
noncomputable abbrev s_q1:Stmt:=zzi (top 23) 0
noncomputable abbrev s_q6:Stmt:=zzi (top 23) 1
noncomputable abbrev s_q2:Stmt:=zzi (top 23) 2
noncomputable abbrev s_q0:Stmt:=zzi (top 23) 8
noncomputable abbrev zuv:Stmt:=top 21
noncomputable abbrev zwy:Stmt:=top 20
noncomputable abbrev s_q5:Stmt:=top 25
noncomputable abbrev s_q9:Stmt:=top 26
noncomputable abbrev s_q4:Stmt:=top 27
noncomputable abbrev zfx:Stmt:=top 28
noncomputable abbrev ziw:Stmt:=top 29
noncomputable abbrev s_q8:Stmt:=top 30
noncomputable abbrev zex:Stmt:=top 31
noncomputable abbrev s_q3:Stmt:=top 32
noncomputable abbrev zox:Stmt:=top 33
noncomputable abbrev zxs:Stmt:=top 34
structure Adr where
 f_q15:Addr
 d_q15:FuncData
 f_q17:Addr
 d_q17:FuncData
 f_q18:Addr
 d_q18:FuncData
 f_q20:Addr
 d_q20:FuncData
 f_q7:Addr
 d_q7:FuncData
 f_q10:Addr
 d_q10:FuncData
 f_q1:Addr
 d_q1:FuncData
 f_q6:Addr
 d_q6:FuncData
 f_q2:Addr
 d_q2:FuncData
 f_q0:Addr
 d_q0:FuncData
 f_q16:Addr
 d_q16:FuncData
 f_q19:Addr
 d_q19:FuncData
 f_q5:Addr
 d_q5:FuncData
 f_q9:Addr
 d_q9:FuncData
 f_q4:Addr
 d_q4:FuncData
 f_q13:Addr
 d_q13:FuncData
 f_q12:Addr
 d_q12:FuncData
 f_q8:Addr
 d_q8:FuncData
 f_q14:Addr
 d_q14:FuncData
 f_q3:Addr
 d_q3:FuncData
 f_q11:Addr
 d_q11:FuncData
 f_law:Addr
 d_law:FuncData
 DraftError:Addr
 NoBoth:Addr
 NoChoice:Addr
 NoClash:Addr
 NoPiece:Addr
 NoRoom:Addr
 NoSheet:Addr
 Settled:Addr
 Sheet:Addr
 CHOICES:Addr
structure Txt (K:W.Frag) (mg:Str→Option Value) (A:Adr):Prop where
 F_q15:Fun K "free_rank" "free_rank" zfy A.f_q15 A.d_q15
 g_q15:mg "free_rank" = some (.ref A.f_q15)
 k_q15:W.keepIn K (.ref A.f_q15)=true
 b_q15:Binds K A.d_q15 ["low", "high"] []
 F_q17:Fun K "between" "between" zhx A.f_q17 A.d_q17
 g_q17:mg "between" = some (.ref A.f_q17)
 k_q17:W.keepIn K (.ref A.f_q17)=true
 b_q17:Binds K A.d_q17 ["low", "high", "window", "count"] []
 F_q18:Fun K "at_beat" "at_beat" zlx A.f_q18 A.d_q18
 g_q18:mg "at_beat" = some (.ref A.f_q18)
 k_q18:W.keepIn K (.ref A.f_q18)=true
 b_q18:Binds K A.d_q18 ["version", "beat"] []
 F_q20:Fun K "is_in" "is_in" zwv A.f_q20 A.d_q20
 g_q20:mg "is_in" = some (.ref A.f_q20)
 k_q20:W.keepIn K (.ref A.f_q20)=true
 b_q20:Binds K A.d_q20 ["version"] []
 F_q7:Fun K "check_choice" "check_choice" s_q7 A.f_q7 A.d_q7
 g_q7:mg "check_choice" = some (.ref A.f_q7)
 k_q7:W.keepIn K (.ref A.f_q7)=true
 b_q7:Binds K A.d_q7 ["choice"] []
 F_q10:Fun K "check_both" "check_both" zkw A.f_q10 A.d_q10
 g_q10:mg "check_both" = some (.ref A.f_q10)
 k_q10:W.keepIn K (.ref A.f_q10)=true
 b_q10:Binds K A.d_q10 ["clash", "choice"] []
 F_q1:Fun K "__init__" "Sheet.__init__" s_q1 A.f_q1 A.d_q1
 b_q1:Binds K A.d_q1 ["self", "pairs"] []
 mk_Sheet:Mk K A.Sheet A.f_q1
 F_q6:Fun K "pairs" "Sheet.pairs" s_q6 A.f_q6 A.d_q6
 b_q6:Binds K A.d_q6 ["self"] []
 m_q6:Meth K A.Sheet "pairs" A.f_q6
 F_q2:Fun K "lines" "Sheet.lines" s_q2 A.f_q2 A.d_q2
 b_q2:Binds K A.d_q2 ["self"] []
 m_q2:Meth K A.Sheet "lines" A.f_q2
 F_q0:Fun K "next_place" "Sheet.next_place" s_q0 A.f_q0 A.d_q0
 b_q0:Binds K A.d_q0 ["self", "low", "aside"] []
 m_q0:Meth K A.Sheet "next_place" A.f_q0
 F_q16:Fun K "both_pair" "both_pair" zuv A.f_q16 A.d_q16
 g_q16:mg "both_pair" = some (.ref A.f_q16)
 k_q16:W.keepIn K (.ref A.f_q16)=true
 b_q16:Binds K A.d_q16 ["clash", "sheet", "beat"] []
 F_q19:Fun K "chosen" "chosen" zwy A.f_q19 A.d_q19
 g_q19:mg "chosen" = some (.ref A.f_q19)
 k_q19:W.keepIn K (.ref A.f_q19)=true
 b_q19:Binds K A.d_q19 ["clash", "choice", "sheet", "beat"] []
 F_q5:Fun K "_law_cell_at" "_law_cell_at" s_q5 A.f_q5 A.d_q5
 g_q5:mg "_law_cell_at" = some (.ref A.f_q5)
 k_q5:W.keepIn K (.ref A.f_q5)=true
 b_q5:Binds K A.d_q5 ["_law_script", "_law_k"] []
 F_q9:Fun K "_law_place" "_law_place" s_q9 A.f_q9 A.d_q9
 g_q9:mg "_law_place" = some (.ref A.f_q9)
 k_q9:W.keepIn K (.ref A.f_q9)=true
 b_q9:Binds K A.d_q9 ["_law_number"] []
 F_q4:Fun K "_law_version" "_law_version" s_q4 A.f_q4 A.d_q4
 g_q4:mg "_law_version" = some (.ref A.f_q4)
 k_q4:W.keepIn K (.ref A.f_q4)=true
 b_q4:Binds K A.d_q4 ["_law_number", "_law_beat"] []
 F_q13:Fun K "_law_sheet" "_law_sheet" zfx A.f_q13 A.d_q13
 g_q13:mg "_law_sheet" = some (.ref A.f_q13)
 k_q13:W.keepIn K (.ref A.f_q13)=true
 b_q13:Binds K A.d_q13 ["_law_cells"] []
 F_q12:Fun K "_law_aside" "_law_aside" ziw A.f_q12 A.d_q12
 g_q12:mg "_law_aside" = some (.ref A.f_q12)
 k_q12:W.keepIn K (.ref A.f_q12)=true
 b_q12:Binds K A.d_q12 ["_law_pairs", "_law_number"] []
 F_q8:Fun K "_law_least" "_law_least" s_q8 A.f_q8 A.d_q8
 g_q8:mg "_law_least" = some (.ref A.f_q8)
 k_q8:W.keepIn K (.ref A.f_q8)=true
 b_q8:Binds K A.d_q8 ["_law_pairs", "_law_place_here"] []
 F_q14:Fun K "_law_both" "_law_both" zex A.f_q14 A.d_q14
 g_q14:mg "_law_both" = some (.ref A.f_q14)
 k_q14:W.keepIn K (.ref A.f_q14)=true
 b_q14:Binds K A.d_q14 ["_law_pairs", "_law_clash", "_law_beat", "_law_told"] []
 F_q3:Fun K "_law_refused" "_law_refused" s_q3 A.f_q3 A.d_q3
 g_q3:mg "_law_refused" = some (.ref A.f_q3)
 k_q3:W.keepIn K (.ref A.f_q3)=true
 b_q3:Binds K A.d_q3 ["_law_sheet_here", "_law_clash", "_law_choice", "_law_beat"] []
 F_q11:Fun K "_law_right" "_law_right" zox A.f_q11 A.d_q11
 g_q11:mg "_law_right" = some (.ref A.f_q11)
 k_q11:W.keepIn K (.ref A.f_q11)=true
 b_q11:Binds K A.d_q11 ["_law_pairs", "_law_sheet_here", "_law_clash", "_law_beat", "_law_odd"] []
 F_law:Fun K "law" "law" zxs A.f_law A.d_law
 g_law:mg "law" = some (.ref A.f_law)
 k_law:W.keepIn K (.ref A.f_law)=true
 b_law:Binds K A.d_law ["_law_script"] []
 g_DraftError:mg "DraftError" = some (.ref A.DraftError)
 x_DraftError:XCls K A.DraftError
 g_NoBoth:mg "NoBoth" = some (.ref A.NoBoth)
 x_NoBoth:XCls K A.NoBoth
 g_NoChoice:mg "NoChoice" = some (.ref A.NoChoice)
 x_NoChoice:XCls K A.NoChoice
 g_NoClash:mg "NoClash" = some (.ref A.NoClash)
 x_NoClash:XCls K A.NoClash
 g_NoPiece:mg "NoPiece" = some (.ref A.NoPiece)
 x_NoPiece:XCls K A.NoPiece
 g_NoRoom:mg "NoRoom" = some (.ref A.NoRoom)
 x_NoRoom:XCls K A.NoRoom
 g_NoSheet:mg "NoSheet" = some (.ref A.NoSheet)
 x_NoSheet:XCls K A.NoSheet
 g_Settled:mg "Settled" = some (.ref A.Settled)
 x_Settled:XCls K A.Settled
 g_Sheet:mg "Sheet" = some (.ref A.Sheet)
 cl_Sheet:Cls K A.Sheet
 na_Sheet_versions:NoAttr K A.Sheet "versions"
 g_CHOICES:mg "CHOICES" = some (.ref A.CHOICES)
 t_CHOICES:∀ H,SqT K H A.CHOICES [.str "stay",.str "turn",.str "both"]
 m_NoChoice:W.mroIn K A.NoChoice (.ref A.DraftError)=some true
 m_NoBoth:W.mroIn K A.NoBoth (.ref A.DraftError)=some true
 v_NoChoice:W.kitOne K (.ref A.NoChoice) (.type "ValueError")=some true
 v_NoBoth:W.kitOne K (.ref A.NoBoth) (.type "ValueError")=some true
 i_NoChoice_NoBoth:W.kitOne K (.ref A.NoChoice) (.ref A.NoBoth)=some false
 i_NoBoth_NoChoice:W.kitOne K (.ref A.NoBoth) (.ref A.NoChoice)=some false
 j_NoChoice:W.kitAny K (.ref A.NoChoice) [.ref A.NoClash,.ref A.Settled]=some false
 j_NoBoth:W.kitAny K (.ref A.NoBoth) [.ref A.NoClash,.ref A.Settled]=some false
 n_ValueError:mg "ValueError" = none
 n_dict:mg "dict" = none
 n_enumerate:mg "enumerate" = none
 n_int:mg "int" = none
 n_isinstance:mg "isinstance" = none
 n_len:mg "len" = none
 n_list:mg "list" = none
 n_min:mg "min" = none
 n_range:mg "range" = none
 n_set:mg "set" = none
 n_sorted:mg "sorted" = none
 n_tuple:mg "tuple" = none
noncomputable def sp_law (K:W.Frag):Sp:=λ vs H Q _=>∃ (a:Addr) (ns:List Int),vs=[.ref a]∧SqL K H a (ns.map V.int)∧ns.length≤63∧(∀ H',Q (.bl true) H')∧Plain H
theorem zgz {p:Prop} [Decidable p] {A B:Prop} (h:¬ p) (b:B):if decide p=true then A else B:=by rw [decide_eq_false h];exact iteF b
theorem zjz {p:Prop} [Decidable p] {A B:Prop} (h:p) (a:A):if decide p=true then A else B:=by rw [decide_eq_true h];exact iteT a
theorem zsz {p:Prop} [Decidable p] {A B:Prop} (h:¬ p) (a:A):if (!decide p)=true then A else B:=by rw [decide_eq_false h];exact iteT a
theorem zqb {K:W.Frag} {H:Hp} {t:Addr} (h:H t=some (.tup [])):DV K H (plc []) (.ref t):=⟨t,[],rfl,SqT.of h,rfl⟩
noncomputable def zy0 (K:W.Frag):Sp:=zbw (λ (v:Ver) vs H=>∃ x,vs=[x]∧DV K H (ver v) x) (λ v r _=>r = .bl (!decide (v.2.1=[]))) (λ _ _=>False)
theorem Plain.ins {H:Hp} {l C dx:Addr} {fs:List (Str×V)} (p:Plain H):Plain (upd H l (.ins C dx fs)):=p.upd trivial
theorem Plain.ext {H:Hp} {l:Addr} {φ:Heap→Prop} (p:Plain H):Plain (upd H l (.ext φ)):=p.upd trivial
theorem zzp {K:W.Frag} {H:Hp} {p C dx:Addr} {fs fs':List (Str×V)} {a:Addr} {xs:List V} (hp:H p=some (.ins C dx fs)) (h:SqT K H a xs):SqT K (upd H p (.ins C dx fs')) a xs:=by
 rcases h with (h | ⟨o,h⟩) | h
 ·exact .inl (.inl (by rw [zja (zys h hp (by intro z;cases z))];exact h))
 ·exact .inl (.inr ⟨o,by rw [zja (zys h hp (by intro z;cases z))];exact h⟩)
 ·exact .inr h
mutual
theorem zlu {K:W.Frag} {H:Hp} {p C dx:Addr} {fs fs':List (Str×V)} (hp:H p=some (.ins C dx fs)):∀ (d:PyData) (v:V),noL d=true→DV K H d v→DV K (upd H p (.ins C dx fs')) d v
 | .none,v,_,h=>h
 | .bool b,v,_,h=>h
 | .int i,v,_,h=>h
 | .str x,v,_,h=>h
 | .list xs,v,n,_=>by cases n
 | .tuple xs,v,n,⟨a,vs,h1,h2,h3⟩=>⟨a,vs,h1,zzp hp h2,zvp hp xs vs n h3⟩
 | .dict _,v,_,h=>h.elim
theorem zvp {K:W.Frag} {H:Hp} {p C dx:Addr} {fs fs':List (Str×V)} (hp:H p=some (.ins C dx fs)):∀ (ds:List PyData) (vs:List V),noLs ds=true→DVs K H ds vs→DVs K (upd H p (.ins C dx fs')) ds vs
 | [],vs,_,h=>h
 | d::ds,vs,n,⟨v,r,h1,h2,h3⟩=>by
  have n:noL d=true∧noLs ds=true:=by rw [noLs,Bool.and_eq_true] at n;exact n
  exact ⟨v,r,h1,zlu hp d v n.1 h2,zvp hp ds r n.2 h3⟩
end
theorem zjp {K:W.Frag} {H:Hp} {m:Mark×Ver} {y:V} (h:DV K H (prD m) y):∃ t q x,y = .ref t∧SqT K H t [.ref q,x]∧SqT K H q (mkV m.1)∧DV K H (ver m.2) x:=by
 obtain ⟨t,vs,rfl,ht,x1,r1,rfl,e1,x2,r2,rfl,e2,e3⟩:=h
 cases (show r2=[] from e3)
 obtain ⟨q,rfl,hq⟩:=ztg e1
 exact ⟨t,q,x2,rfl,ht,hq,e2⟩
theorem uniq {α:Type} {r:α→α→Prop} (as:∀ a b,r a b→r b a→False):∀ {l1 l2:List α},l1.Perm l2→l1.Pairwise r→l2.Pairwise r→l1=l2
 | [],l2,p,_,_=>(List.nil_perm.mp p).symm
 | a::l1,[],p,_,_=>absurd p.symm.nil_eq (by simp)
 | a::l1,b::l2,p,h1,h2=>by
  have h1':=List.pairwise_cons.mp h1
  have h2':=List.pairwise_cons.mp h2
  by_cases e:a=b
  ·subst e
   rw [uniq as ((List.perm_cons a).mp p) h1'.2 h2'.2]
  ·have m1:a∈l2:=by
    rcases List.mem_cons.mp (p.mem_iff.mp List.mem_cons_self) with z | z
    ·exact absurd z e
    ·exact z
   have m2:b∈l1:=by
    rcases List.mem_cons.mp (p.mem_iff.mpr List.mem_cons_self) with z | z
    ·exact absurd z.symm e
    ·exact z
   exact absurd (h2'.1 a m1) (λ z=>as _ _ (h1'.1 b m2) z)
theorem ztx (a b:Mark) (h1:mLt a b=true) (h2:mLt b a=true):False:=by rw [mLt_sto.asym h1] at h2;cases h2
theorem zuk:∀ (ms:Sh),(∀ m∈ms,okV m.2)→PyData.canLayAll0 (ms.map prD)=true∧PyData.depthAll (ms.map prD)≤30
 | [],_=>⟨rfl,Nat.zero_le _⟩
 | m::ms,h=>by
  obtain ⟨h1,h2⟩:=zuk ms λ x hx=>h x (List.mem_cons_of_mem _ hx)
  have h3:=zgd (m:=m) (h m List.mem_cons_self)
  unfold SeqAt.shaped at h3
  rw [Bool.and_eq_true] at h3
  refine ⟨?_,?_⟩
  ·show (PyData.canLay0 (prD m) && PyData.canLayAll0 (ms.map prD))=true
   rw [h3.1,h1]
   rfl
  ·show max (PyData.depth (prD m)) (PyData.depthAll (ms.map prD))≤30
   have h4:PyData.depth (prD m)=max 1 (max (max 0 (max (PyData.depthAll (m.2.2.1.map stp)+1) (max 0 0))+1) 0)+1:=rfl
   have:=zsb m.2.2.1
   omega
theorem znb {ms:Sh} (h:∀ m∈ms,okV m.2):SeqAt.shaped (.list (ms.map prD))=true:=by
 obtain ⟨h1,h2⟩:=zuk ms h
 unfold SeqAt.shaped
 rw [show PyData.canLay0 (.list (ms.map prD))=true from h1,Bool.true_and]
 refine decide_eq_true ?_
 show PyData.depthAll (ms.map prD)+1≤64
 omega
theorem zyy {α β:Type} {ok G:α→β→Prop} {C:Prop} (h1:(∀ y z,ok y z→G y z)→C) (h2:∀ y z,ok y z→G y z):C:=h1 h2
noncomputable def zcy (P:Program) (w:World) (K:W.Frag) (C NS:Addr):Sp:=λ vs H Q E=>Plain H∧∃ (p dx l:Addr) (ws:List V) (ms:Sh),vs=[.ref p,.ref l]∧H p=some (.ins C dx [])∧SqL K H l ws∧DVs K H (ms.map prD) ws∧(∀ m∈ms,okV m.2)∧ms.length<64 ∧
 ((ms.map (·.1)).Nodup→∀ H',(∀ b o,b≠p→H b=some o→H' b=some o)→ShAt P w K C H' p ms→Plain H'→Q .non H')∧(¬ (ms.map (·.1)).Nodup→∀ H',(∀ b o,b≠p→H b=some o→H' b=some o)→Plain H'→E (.ref NS) none H')
noncomputable def zdx (P:Program) (w:World) (K:W.Frag) (C:Addr):Sp:=λ vs H Q _=>Plain H∧∃ (p:Addr) (ms:Sh),vs=[.ref p]∧ShAt P w K C H p ms∧∀ (H':Hp) (l:Addr) (bs:Sh) (ws:List V),H l=none→Same H H'→Plain H'→H' l=some (.lst ws)→bs.Perm ms→bs.Pairwise (λ a b=>mLt a.1 b.1=true)→DVs K H' (bs.map prD) ws→Q (.ref l) H'
noncomputable def zmx (P:Program) (w:World) (K:W.Frag) (C:Addr):Sp:=λ vs H Q _=>Plain H∧∃ (p:Addr) (ms:Sh),vs=[.ref p]∧ShAt P w K C H p ms∧∀ (H':Hp) (l:Addr) (bs:List Mark) (ws:List V),H l=none→Same H H'→Plain H'→H' l=some (.lst ws)→bs.Perm (zne ms)→bs.Pairwise (λ a b=>lnLt ms a b=true)→DVs K H' (bs.map (lnD ms)) ws→Q (.ref l) H'
noncomputable def zzj (ms:Sh) (low:List Stp) (as:List Mark) (k:Mark):Bool := !decide (k∈as) && pLt low (vOf ms k).2.1
noncomputable def zof (ms:Sh) (low:List Stp) (as:List Mark):List (List Stp):=((ms.map (·.1)).filter (zzj ms low as)).map λ k=>(vOf ms k).2.1
noncomputable def Least (hs:List (List Stp)):Option (List Stp)→Prop
 | none=>hs=[]
 | some r=>r∈hs∧∀ q∈hs,r=q ∨ pLt r q=true
theorem Least.one {hs:List (List Stp)}:∀ {a b:Option (List Stp)},Least hs a→Least hs b→a=b
 | none,none,_,_=>rfl
 | none,some b,h1,h2=>by
  have h1:hs=[]:=h1
  subst h1
  cases h2.1
 | some a,none,h1,h2=>by
  have h2:hs=[]:=h2
  subst h2
  cases h1.1
 | some a,some b,h1,h2=>by
  rcases h1.2 b h2.1 with e | e
  ·rw [e]
  ·rcases h2.2 a h1.1 with e2 | e2
   ·rw [e2]
   ·rw [pLt_sto.asym e] at e2
    cases e2
noncomputable def hiD:Option (List Stp)→PyData
 | none=>.none
 | some r=>plc r
theorem zgs (as:List Mark):∀ d∈as.map markD,ok4 d:=λ d hd=>by
 obtain ⟨m,_,rfl⟩:=List.mem_map.mp hd
 exact zsk m
theorem zvo {as:List Mark} {m:Mark}:markD m∈as.map markD↔m∈as:=by
 constructor
 ·intro h
  obtain ⟨k,hk,e⟩:=List.mem_map.mp h
  have:k=m:=by
   have e:=PyData.tuple.inj e
   injection e with e1 e2
   injection e2 with e2 _
   exact Prod.ext (PyData.int.inj e1) (PyData.int.inj e2)
  exact this ▸ hk
 ·exact List.mem_map_of_mem
noncomputable def zk0 (P:Program) (w:World) (K:W.Frag) (A:Adr):Sp:=λ vs H Q _=>Plain H∧∃ (p:Addr) (ms:Sh) (low:List Stp) (lv:V) (a:Addr) (ys:List V) (as:List Mark),vs=[.ref p,lv,.ref a]∧ShAt P w K A.Sheet H p ms∧DV K H (plc low) lv∧SqL K H a ys∧DVs K H (as.map markD) ys∧as.length<300∧∀ o v H',Same H H'→Plain H'→Least (zof ms low as) o→DV K H' (hiD o) v→Q v H'
theorem zms {K:W.Frag} {H:Hp} {es:List Ent} {ms:Sh} (he:EnS K H es ms) (low:List Stp) (as:List Mark):(es.filter λ e=>zzj ms low as e.1).map (λ e=>(vOf ms e.1).2.1)=zof ms low as:=by
 unfold zof
 rw [← zfc he,List.filter_map,List.map_map]
 rfl
theorem zcu (a:List Stp):pLt a []=false:=by cases a <;> rfl
noncomputable def HV (K:W.Frag) (H:Hp):Option (List Stp)→V→Prop
 | none,v=>v = .non
 | some h,v=>DV K H (plc h) v
noncomputable def zyi (low:List Stp):Option (List Stp)→Int
 | none=>0
 | some h=>if h.take low.length=low then ((h[low.length]?).getD (0,0,0)).1 - 1 else 0
noncomputable def zxu (low:List Stp) (high:Option (List Stp)):Prop:=∀ h,high=some h→pLt low h=true
theorem zve {α:Type} [DecidableEq α] (lt:α→α→Bool):∀ xs:List α,lexG lt xs xs=false
 | []=>rfl
 | x::xs=>by rw [lexG,if_pos rfl];exact zve lt xs
theorem zdj {α:Type} [DecidableEq α] (lt:α→α→Bool) (t:α):∀ xs:List α,lexG lt xs (xs++[t])=true
 | []=>rfl
 | x::xs=>by rw [List.cons_append,lexG,if_pos rfl];exact zdj lt t xs
theorem zfj {α:Type} [DecidableEq α] (lt:α→α→Bool) (ts:List α):∀ xs ys:List α,lexG lt xs ys=true→ys.take xs.length≠xs→lexG lt (xs++ts) ys=true
 | [],ys,_,h=>absurd rfl h
 | x::xs,[],h,_=>by cases h
 | x::xs,y::ys,h,hn=>by
  rw [List.cons_append]
  rw [lexG] at h ⊢
  by_cases e:x=y
  ·rw [if_pos e] at h ⊢
   refine zfj lt ts xs ys h λ z=>hn ?_
   rw [List.length_cons,List.take_succ_cons,z,e]
  ·rw [if_neg e] at h ⊢
   exact h
theorem zqe {α:Type} [DecidableEq α] (lt:α→α→Bool) (a b:List α):∀ xs:List α,lexG lt (xs++a) (xs++b)=lexG lt a b
 | []=>rfl
 | x::xs=>by rw [List.cons_append,List.cons_append,lexG,if_pos rfl];exact zqe lt a b xs
theorem zis {low h:List Stp} (hp:pLt low h=true) (ht:h.take low.length=low):∃ s r,h=low++s::r:=by
 have e:low++h.drop low.length=h:=by
  have:=List.take_append_drop low.length h
  rw [ht] at this
  exact this
 cases hd:h.drop low.length with
 | nil =>
  rw [hd,List.append_nil] at e
  subst e
  have e2:=zve sLt low
  rw [show pLt low low=lexG sLt low low from rfl,e2] at hp
  cases hp
 | cons s r=>exact ⟨s,r,by rw [← e,hd]⟩
theorem zwz (s:Stp) (w c:Int):lexG sLt [(s.1 - 1,w,c)] [s]=true:=by
 obtain ⟨a,b,d⟩:=s
 rw [lexG,if_neg (by intro e;have:=congrArg Prod.fst e;simp at this;omega)]
 show lexG iLt [a - 1,w,c] [a,b,d]=true
 rw [lexG,if_neg (by omega)]
 exact decide_eq_true (by omega)
theorem zzo (s:Stp) (w c:Int) (r:List Stp):lexG sLt [(s.1 - 1,w,c)] (s::r)=true:=by
 have h:=zwz s w c
 have hne:¬ (s.1 - 1,w,c)=s:=by intro e;have:=congrArg Prod.fst e;simp at this;omega
 rw [lexG,if_neg hne] at h ⊢
 exact h
theorem zwj {low h:List Stp} {w c:Int} (hp:pLt low h=true):pLt (low++[(zyi low (some h),w,c)]) h=true:=by
 by_cases ht:h.take low.length=low
 ·obtain ⟨s,r,e⟩:=zis hp ht
  have hg:zyi low (some h)=s.1 - 1:=by
   show (if h.take low.length=low then ((h[low.length]?).getD (0,0,0)).1 - 1 else 0)=s.1 - 1
   rw [if_pos ht,e]
   simp
  rw [hg,e]
  show lexG sLt _ _=true
  rw [zqe]
  exact zzo s w c r
 ·exact zfj sLt _ low h hp ht
noncomputable def zk1 (K:W.Frag):Sp:=zbw (λ (a:List Stp×Option (List Stp)) vs H=>∃ x y,vs=[x,y]∧DV K H (plc a.1) x∧HV K H a.2 y∧zxu a.1 a.2) (λ a v _=>v = .int (zyi a.1 a.2)) (λ _ _=>False)
noncomputable def ze1 (K:W.Frag) (A:Adr):Sp:=zbw (λ (a:List Stp×Option (List Stp)×Int×Int) vs H=>∃ x y,vs=[x,y,.int a.2.2.1,.int a.2.2.2]∧DV K H (plc a.1) x∧HV K H a.2.1 y∧a.1.length≤100)
 (λ a v H=>zxu a.1 a.2.1∧∃ t,v = .ref t∧DV K H (plc (a.1++[(zyi a.1 a.2.1,a.2.2)])) v) (λ a C=>C=A.NoRoom∧¬ zxu a.1 a.2.1)
theorem zdk {a:Sh} (nd:(mks a).Nodup) (k:Mark):k∈zne a ↔ ∃ v,look a k=some v∧zzd v=true:=by
 constructor
 ·intro h
  obtain ⟨m,hm,rfl⟩:=List.mem_map.mp h
  obtain ⟨h1,h2⟩:=List.mem_filter.mp hm
  exact ⟨m.2,zrc nd h1,h2⟩
 ·rintro ⟨v,h1,h2⟩
  exact List.mem_map_of_mem (f:=λ x:Mark×Ver=>x.1) (a:=(k,v)) (List.mem_filter.mpr ⟨zji h1,h2⟩)
theorem zsu {ms:Sh} {m:Mark} (h:okV (vOf ms m)):PyData.canLay0 (lnD ms m)=true:=by
 have h3:=zwg (m:=m) h
 unfold SeqAt.shaped at h3
 rw [Bool.and_eq_true] at h3
 have h4:(PyData.canLay0 (plc (vOf ms m).2.1) && (PyData.canLay0 (L2.markD m) && (PyData.canLay0 (.str (vOf ms m).2.2) && true)))=true:=h3.1
 rw [Bool.and_eq_true] at h4
 exact h4.2
theorem zjm {ms:Sh}:∀ (bs:List Mark),(∀ m∈bs,okV (vOf ms m))→PyData.canLayAll0 (bs.map (lnD ms))=true∧PyData.depthAll (bs.map (lnD ms))≤30
 | [],_=>⟨rfl,Nat.zero_le _⟩
 | m::bs,h=>by
  obtain ⟨h1,h2⟩:=zjm bs λ x hx=>h x (List.mem_cons_of_mem _ hx)
  refine ⟨?_,?_⟩
  ·show (PyData.canLay0 (lnD ms m) && PyData.canLayAll0 (bs.map (lnD ms)))=true
   rw [zsu (h m List.mem_cons_self),h1]
   rfl
  ·show max (PyData.depth (lnD ms m)) (PyData.depthAll (bs.map (lnD ms)))≤30
   have h4:PyData.depth (lnD ms m)=2:=rfl
   omega
theorem zah {ms:Sh} {bs:List Mark} (h:∀ m∈bs,okV (vOf ms m)):SeqAt.shaped (.list (bs.map (lnD ms)))=true:=by
 obtain ⟨h1,h2⟩:=zjm bs h
 unfold SeqAt.shaped
 rw [show PyData.canLay0 (.list (bs.map (lnD ms)))=true from h1,Bool.true_and]
 refine decide_eq_true ?_
 show PyData.depthAll (bs.map (lnD ms))+1≤64
 omega
theorem zdv {ms:Sh} {bs:List Mark} (h:∀ m∈bs,okV (vOf ms m)):PyData.eqv (.list (bs.map (lnD ms))) (.list (bs.map (lnD ms)))=true:=SeqAt.eqvAll_refl _ (zjm bs h).1
theorem zhv {ms:Sh} (nd:(mks ms).Nodup) (ok:∀ m∈ms,okV m.2) {bs:List Mark} (p:bs.Perm (zne ms)):∀ m∈bs,okV (vOf ms m):=λ m hm=>by
 obtain ⟨x,hx,rfl⟩:=List.mem_map.mp (p.mem_iff.mp hm)
 have hx:=(List.mem_filter.mp hx).1
 rw [zbf nd hx]
 exact ok x hx
theorem zal {a:Sh} (h:∀ m∈a,okV m.2):PyData.eqv (.list (a.map prD)) (.list (a.map prD))=true:=SeqAt.eqvAll_refl _ (zuk a h).1
noncomputable def newV (b:Int) (low:List Stp) (o:Option (List Stp)) (mk:Mark) (z:Str):Ver:=(b,low++[(zyi low o,mk)],z)
noncomputable def zsw (K:W.Frag) (H:Hp) (Q:VK) (ps:Sh):Prop:=∀ (l:Addr) (ws:List V) (H':Hp),H l=none→Same H H'→Plain H'→H' l=some (.lst ws)→DVs K H' (ps.map prD) ws→Q (.ref l) H'
theorem zuu {ms:Sh} {a b:Mark} (h:lnLt ms a b=true):(vOf ms a).2.1=(vOf ms b).2.1 ∨ pLt (vOf ms a).2.1 (vOf ms b).2.1=true:=by
 unfold lnLt zxg at h
 dsimp only at h
 by_cases e:(vOf ms a).2.1=(vOf ms b).2.1
 ·exact .inl e
 ·rw [if_neg e] at h
  exact .inr h
theorem zmt {ms:Sh} {k:Mark} (h:k∈zne ms):k∈ms.map (·.1):=by
 obtain ⟨m,hm,rfl⟩:=List.mem_map.mp h
 exact List.mem_map_of_mem (f:=(·.1)) (List.mem_filter.mp hm).1
theorem zvb {ms:Sh} {low:List Stp} {as:List Mark} {o:Option (List Stp)} (h:Least (zof ms low as) o):zxu low o:=λ r e=>by
 rw [e] at h
 obtain ⟨k,hk,rfl⟩:=List.mem_map.mp h.1
 have:=(List.mem_filter.mp hk).2
 unfold zzj at this
 rw [Bool.and_eq_true] at this
 exact this.2
theorem zjo {a:Sh} (na:(mks a).Nodup) {bs L:List Mark} (pb:bs.Perm (zne a)) (pwb:bs.Pairwise λ x y=>lnLt a x y=true) (nd:L.Nodup) (hm:∀ k,k∈L ↔ ∃ v,look a k=some v∧zzd v=true) (pl:L.Pairwise λ x y=>lnLt a x y=true):bs=L:=by
 have pm:bs.Perm L:=zbm (pb.nodup_iff.mpr (znh na)) nd λ k=>by rw [pb.mem_iff,zdk na,hm]
 exact uniq (r:=λ x y=>lnLt a x y=true) (λ x y g1 g2=>by
  have g3:=(zcn a).asym g1
  rw [g2] at g3
  cases g3) pm pwb pl
noncomputable def ahd (ms:Sh) (o:Option (List Stp)) (m:Mark):Bool:=match o with
 | none=>true
 | some h=>pLt (vOf ms m).2.1 h
theorem zbj {α:Type} {R:α→α→Prop} {f:α→Bool} (mono:∀ a b,R a b→f b=true→f a=true):∀ {bs:List α},bs.Pairwise R→bs.take (bs.filter f).length=bs.filter f∧bs.drop (bs.filter f).length=bs.filter λ a => !f a
 | [],_=>⟨rfl,rfl⟩
 | a::bs,h=>by
  obtain ⟨h1,h2⟩:=List.pairwise_cons.mp h
  obtain ⟨i1,i2⟩:=zbj mono h2
  cases ha:f a with
  | true =>
   rw [List.filter_cons_of_pos ha,List.length_cons,List.take_succ_cons,List.drop_succ_cons,i1,i2,List.filter_cons_of_neg (by rw [ha];decide)]
   exact ⟨rfl,rfl⟩
  | false =>
   have hn:∀ b∈bs,f b=false:=λ b hb=>by
    cases e:f b with
    | false=>rfl
    | true=>have:=mono a b (h1 b hb) e;rw [ha] at this;cases this
   have e1:bs.filter f=[]:=List.filter_eq_nil_iff.mpr λ b hb=>by rw [hn b hb];decide
   have e2:bs.filter (λ a => !f a)=bs:=List.filter_eq_self.mpr λ b hb=>by rw [hn b hb];rfl
   rw [List.filter_cons_of_neg (by rw [ha];decide),e1,List.filter_cons_of_pos (by rw [ha];rfl),e2]
   exact ⟨rfl,rfl⟩
theorem ztd {a b:Sh} {k:Mark} (h:look a k=look b k):vOf a k=vOf b k:=by unfold vOf;rw [h]
theorem zkf {a b:Sh} {x y:Mark} (h1:look a x=look b x) (h2:look a y=look b y):lnLt a x y=lnLt b x y:=by unfold lnLt;rw [ztd h1,ztd h2]
theorem zgk {a b:Sh} {x:Mark} (h:look a x=look b x):lnD a x=lnD b x:=by unfold lnD;rw [ztd h]
theorem zlq {a:Sh} {x y:Mark} (h:pLt (vOf a x).2.1 (vOf a y).2.1=true):lnLt a x y=true:=by
 unfold lnLt zxg
 dsimp only
 rw [if_neg λ e=>by rw [e,pLt_sto.irr] at h;cases h]
 exact h
theorem zpn {ms ns:Sh} (nm:(mks ms).Nodup) (nn:(mks ns).Nodup) {mk:Mark} (hk:mk∉mks ms) {v:Ver} {low:List Stp} {o:Option (List Stp)} (hv:v.2.1=low++[(zyi low o,mk)]) (hl:Least (zof ms low []) o)
  (hlk:∀ k,look ns k=if mk=k then some v else look ms k) {bs cs:List Mark} (pb:bs.Perm (zne ms)) (pwb:bs.Pairwise λ x y=>lnLt ms x y=true) (pc:cs.Perm (zne ns)) (pwc:cs.Pairwise λ x y=>lnLt ns x y=true) :
  cs.map (lnD ns)=(bs.take (bs.filter (ahd ms o)).length).map (lnD ms)++[.tuple [markD mk,.str v.2.2]]++(bs.drop (bs.filter (ahd ms o)).length).map (lnD ms):=by
 have ndb:bs.Nodup:=pb.nodup_iff.mpr (znh nm)
 have inb:∀ k∈bs,k∈mks ms:=λ k h=>zmt (pb.mem_iff.mp h)
 have nkb:mk∉bs:=λ z=>hk (inb mk z)
 have lk:∀ k∈bs,look ns k=look ms k:=λ k h=>by rw [hlk,if_neg λ e=>nkb (by rw [e];exact h)]
 have evm:vOf ns mk=v:=by unfold vOf;rw [hlk,if_pos rfl];rfl
 have mono:∀ a b,lnLt ms a b=true→ahd ms o b=true→ahd ms o a=true:=λ a b hab hb=>by
  unfold ahd at hb ⊢
  cases o with
  | none=>rfl
  | some h =>
   dsimp only at hb ⊢
   rcases zuu hab with e | e
   ·rw [e];exact hb
   ·exact pLt_sto.tr _ _ _ e hb
 obtain ⟨t1,t2⟩:=zbj mono pwb
 obtain ⟨n,hn⟩:∃ n,n=(bs.filter (ahd ms o)).length:=⟨_,rfl⟩
 rw [← hn] at t1 t2 ⊢
 have es:bs=bs.take n++bs.drop n:=(List.take_append_drop n bs).symm
 have lowlt:pLt low v.2.1=true:=by rw [hv];exact zdj sLt _ low
 have left:∀ a∈bs.take n,pLt (vOf ms a).2.1 v.2.1=true:=λ a ha=>by
  have hab:a∈bs:=List.mem_of_mem_take ha
  rw [t1] at ha
  have hf:=(List.mem_filter.mp ha).2
  have nlow:pLt low (vOf ms a).2.1=false:=by
   cases e:pLt low (vOf ms a).2.1 with
   | false=>rfl
   | true =>
    have hh:(vOf ms a).2.1∈zof ms low []:=List.mem_map.mpr ⟨a,List.mem_filter.mpr ⟨inb a hab,by unfold zzj;rw [e];rfl⟩,rfl⟩
    cases o with
    | none=>rw [show zof ms low []=[] from hl] at hh;cases hh
    | some h =>
     have hf:pLt (vOf ms a).2.1 h=true:=hf
     rcases hl.2 _ hh with z | z
     ·rw [← z,pLt_sto.irr] at hf;cases hf
     ·rw [pLt_sto.asym z] at hf;cases hf
  by_cases e:low=(vOf ms a).2.1
  ·rw [← e];exact lowlt
  ·exact pLt_sto.tr _ _ _ (pLt_sto.tri _ _ e nlow) lowlt
 have right:∀ a∈bs.drop n,pLt v.2.1 (vOf ms a).2.1=true:=λ a ha=>by
  rw [t2] at ha
  have hf:=(List.mem_filter.mp ha).2
  cases o with
  | none=>cases hf
  | some h =>
   have hf:(!pLt (vOf ms a).2.1 h)=true:=hf
   have hf2:pLt (vOf ms a).2.1 h=false:=by
    cases e:pLt (vOf ms a).2.1 h with
    | false=>rfl
    | true=>rw [e] at hf;cases hf
   have h1:pLt v.2.1 h=true:=by rw [hv];exact zwj (w:=mk.1) (c:=mk.2) (zvb hl h rfl)
   by_cases e:(vOf ms a).2.1=h
   ·rw [e];exact h1
   ·exact pLt_sto.tr _ _ _ h1 (pLt_sto.tri _ _ e hf2)
 have e:cs=bs.take n++mk::bs.drop n:=by
  refine zjo nn pc pwc ?_ (λ k=>?_) ?_
  ·refine List.perm_middle.nodup_iff.mpr (List.nodup_cons.mpr ⟨?_,?_⟩)
   ·rw [← es];exact nkb
   ·rw [← es];exact ndb
  ·have hk1:k∈bs.take n++mk::bs.drop n↔k=mk ∨ k∈bs:=by
    conv=>rhs;rw [es]
    rw [List.mem_append,List.mem_cons,List.mem_append]
    constructor
    ·rintro (h | h | h)
     ·exact .inr (.inl h)
     ·exact .inl h
     ·exact .inr (.inr h)
    ·rintro (h | h | h)
     ·exact .inr (.inl h)
     ·exact .inl h
     ·exact .inr (.inr h)
   rw [hk1]
   constructor
   ·rintro (rfl | h)
    ·refine ⟨v,by rw [hlk,if_pos rfl],?_⟩
     unfold zzd
     rw [hv]
     cases low with
     | nil=>rfl
     | cons _ _=>rfl
    ·obtain ⟨u,h1,h2⟩:=(zdk nm k).mp (pb.mem_iff.mp h)
     exact ⟨u,by rw [lk k h];exact h1,h2⟩
   ·rintro ⟨u,h1,h2⟩
    rw [hlk] at h1
    by_cases e:mk=k
    ·exact .inl e.symm
    ·rw [if_neg e] at h1
     exact .inr (pb.mem_iff.mpr ((zdk nm k).mpr ⟨u,h1,h2⟩))
  ·rw [es,List.pairwise_append] at pwb
   obtain ⟨p1,p2,p3⟩:=pwb
   have tk:∀ {k},k∈bs.take n→k∈bs:=List.mem_of_mem_take
   have dk:∀ {k},k∈bs.drop n→k∈bs:=List.mem_of_mem_drop
   refine List.pairwise_append.mpr ⟨p1.imp_of_mem fun {x y} hx hy g=>by rw [zkf (lk x (tk hx)) (lk y (tk hy))];exact g,List.pairwise_cons.mpr ⟨λ y hy=>?_,p2.imp_of_mem fun {x y} hx hy g=>by rw [zkf (lk x (dk hx)) (lk y (dk hy))];exact g⟩,λ x hx y hy=>?_⟩
   ·refine zlq ?_
    rw [evm,ztd (lk y (dk hy))]
    exact right y hy
   ·rcases List.mem_cons.mp hy with rfl | hy
    ·refine zlq ?_
     rw [evm,ztd (lk x (tk hx))]
     exact left x hx
    ·rw [zkf (lk x (tk hx)) (lk y (dk hy))]
     exact p3 x hx y hy
 rw [e,List.map_append,List.map_cons,List.append_assoc]
 have h1:(bs.take n).map (lnD ns)=(bs.take n).map (lnD ms):=List.map_congr_left λ k h=>zgk (lk k (List.mem_of_mem_take h))
 have h2:(bs.drop n).map (lnD ns)=(bs.drop n).map (lnD ms):=List.map_congr_left λ k h=>zgk (lk k (List.mem_of_mem_drop h))
 have h3:lnD ns mk = .tuple [markD mk,.str v.2.2]:=by unfold lnD;rw [evm]
 rw [h1,h2,h3]
 rfl
theorem zft {K:W.Frag} {H:Hp} {m:Mark} {v:Ver} {t q:Addr} {y:V} (h:SqT K H t [.ref q,y]) (hm:SqT K H q (mkV m)) (hy:DV K H (ver v) y):DV K H (prD (m,v)) (.ref t) :=
 ⟨t,_,rfl,h,_,_,rfl,⟨q,_,rfl,hm,_,_,rfl,rfl,_,_,rfl,rfl,rfl⟩,_,_,rfl,hy,rfl⟩
theorem zf0 {K:W.Frag} {H:Hp} {o:Option (List Stp)} {v:V} (h:DV K H (hiD o) v):HV K H o v:=by
 cases o with
 | none=>exact h
 | some r=>exact h
theorem zj1 {K:W.Frag} {H:Hp} {l:Addr} {ws:List V} {ps:Sh} {Q:VK} (nd:(mks ps).Nodup) (few:ps.length<64) (ok:∀ p∈ps,okV p.2) (hl:H l=some (.lst ws)) (hw:DVs K H (ps.map prD) ws)
  (q:∀ (ss:Sh) (l2:Addr) (w2:List V),H l2=none→ss.Perm ps→ss.Pairwise (λ a b=>mLt a.1 b.1=true)→DVs K H (ss.map prD) w2→Q (.ref l2) (upd H l2 (.lst w2))):zgt K [.ref l] H Q:=by
 have hwm:DVs K H ((ps.map (·.1)).map λ a=>.tuple [markD a,vdat (look ps a)]) ws:=by
  have:=zch nd (List.Perm.refl (ps.map (·.1)))
  rw [zcj nd] at this
  show DVs K H ((ps.map (·.1)).map (zfp λ m=>vdat (look ps m))) ws
  rw [this]
  exact hw
 have srt:Srt (ps.map (·.1)) (λ m=>[markD m,vdat (look ps m)]) mLt .tup:=by
  have:=zjl (es:=ps.map λ m=>(m.1,0,V.non)) (val:=λ m=>vdat (look ps m)) (λ e he=>by
   obtain ⟨m,hm,rfl⟩:=List.mem_map.mp he
   show SeqAt.shaped (.tuple [markD m.1,vdat (look ps m.1)])=true
   rw [zrc nd hm]
   exact zgd (ok m hm)) (by rw [List.map_map];exact nd) (by rw [List.length_map];omega)
  rw [List.map_map] at this
  exact this
 refine ⟨Mark,List.map (λ x:Mark×Ver=>x.1) ps,(λ m=>[markD m,vdat (look ps m)]),mLt,.tup,l,ws,rfl,SqL.of hl,hwm,srt,λ l2 bs2 ws2 hl2 pm2 pw2 hw2=>?_⟩
 refine q (toSh ps bs2) l2 ws2 hl2 (zsi nd pm2) (zrq pw2) ?_
 rw [← zch nd pm2]
 exact hw2
theorem zr0 {a b:Sh} (pm:a.Perm b) (pa:a.Pairwise λ x y=>mLt x.1 y.1=true) (pb:b.Pairwise λ x y=>mLt x.1 y.1=true):a=b:=uniq (r:=λ x y:Mark×Ver=>mLt x.1 y.1=true) (λ x y=>ztx x.1 y.1) pm pa pb
theorem getL {α:Type} [Inhabited α] {S:List α} {i:Nat} (h:i<S.length):S.getD i default=S[i]:=by rw [List.getD_eq_getElem?_getD,List.getElem?_eq_getElem h];rfl
noncomputable def chs:List V:=[.str (Str.ofString "stay"),.str (Str.ofString "turn"),.str (Str.ofString "both")]
noncomputable def isCh (z:Str):Bool:=inV (.str z) chs
noncomputable def zfb (c:Cla) (z:Str):Bool:=decide (z=Str.ofString "both") && decide (c.2.2.2.1.2.1=[])
theorem zw0 {p:Prop} [Decidable p] {A B:Prop} (h1:¬ p→A) (h2:p→B):if (!decide p)=true then A else B:=by
 by_cases h:p
 ·rw [decide_eq_true h];exact h2 h
 ·rw [decide_eq_false h];exact h1 h
theorem zcq {K:W.Frag} {H:Hp}:∀ {ds:List PyData} {vs:List V} {j:Nat} {d:PyData} {v:V},DVs K H ds vs→DV K H d v→DVs K H (ds.set j d) (vs.set j v)
 | [],vs,j,d,v,h,_=>by cases (show vs=[] from h);exact rfl
 | x::ds,vs,j,d,v,h,hd=>by
  obtain ⟨v0,r,rfl,h1,h2⟩:=h
  cases j with
  | zero=>exact ⟨v,r,rfl,hd,h2⟩
  | succ j=>exact ⟨v0,r.set j v,rfl,h1,zcq h2 hd⟩
noncomputable def zv0 (A:Adr):Sp:=λ vs H Q E=>∃ z:Str,vs=[.str z]∧(isCh z=true→Q .non H)∧(isCh z=false→E (.ref A.NoChoice) none H)
noncomputable def zd1 (K:W.Frag) (A:Adr):Sp:=λ vs H Q E=>Plain H∧∃ (v:V) (c:Cla) (z:Str),vs=[v,.str z]∧DV K H (claD c) v∧(zfb c z=false→∀ H',Same H H'→Plain H'→Q .non H')∧(zfb c z=true→∀ H',Same H H'→Plain H'→E (.ref A.NoBoth) none H')
noncomputable def zpx (K:W.Frag):Sp:=λ vs H Q _=>Plain H∧∃ (v:Ver) (x:V) (b:Int),vs=[x,.int b]∧DV K H (ver v) x∧∀ y H',Same H H'→Plain H'→DV K H' (ver (b,v.2.1,v.2.2)) y→Q y H'
noncomputable def zvs (b:Int) (o:Option (List Stp)) (c:Cla):Ver:=newV b c.2.2.2.1.2.1 o (0,c.1) c.2.2.2.1.2.2
noncomputable def zxw (P:Program) (w:World) (K:W.Frag) (A:Adr):Sp:=λ vs H Q _=>Plain H∧∃ (v:V) (c:Cla) (p:Addr) (ms:Sh) (b:Int),vs=[v,.ref p,.int b]∧DV K H (claD c) v∧ShAt P w K A.Sheet H p ms∧c.2.2.2.1.2.1.length≤100∧∀ o y H',Least (zof ms c.2.2.2.1.2.1 []) o→Same H H'→Plain H'→DV K H' (prD ((0,c.1),zvs b o c)) y→Q y H'
noncomputable def zjx (P:Program) (w:World) (K:W.Frag) (A:Adr):Sp:=λ vs H Q E=>Plain H∧∃ (v:V) (c:Cla) (z:Str) (p:Addr) (ms:Sh) (b:Int),vs=[v,.str z,.ref p,.int b]∧DV K H (claD c) v∧ShAt P w K A.Sheet H p ms∧c.2.2.2.1.2.1.length≤100 ∧
 (isCh z=false→∀ H',Same H H'→Plain H'→E (.ref A.NoChoice) none H')∧(isCh z=true→zfb c z=true→∀ H',Same H H'→Plain H'→E (.ref A.NoBoth) none H') ∧
 (isCh z=true→zfb c z=false→(z = "turn" → zsw K H Q [(c.2.1,(b,c.2.2.2.1.2.1,c.2.2.2.1.2.2))])∧(z = "both" → ∀ o,Least (zof ms c.2.2.2.1.2.1 []) o→zsw K H Q [((0,c.1),zvs b o c)])∧(¬ z = "turn" → ¬ z = "both" → zsw K H Q []))
noncomputable def zmw (K:W.Frag):Sp:=λ vs H Q _=>∃ (a:Addr) (ns:List Int) (k:Nat),vs=[.ref a,.int k]∧SqL K H a (ns.map V.int)∧∀ n:Int,Q (.int n) H
noncomputable def zuy (K:W.Frag):Sp:=λ vs H Q _=>Plain H∧∃ n:Int,vs=[.int n]∧∀ (pl:List Stp) (t:V) (H':Hp),pl.length≤4→Same H H'→Plain H'→DV K H' (plc pl) t→Q t H'
noncomputable def zyw (K:W.Frag):Sp:=λ vs H Q _=>Plain H∧∃ n b:Int,vs=[.int n,.int b]∧∀ (v:Ver) (t:V) (H':Hp),okV v→v.2.1.length≤4→Same H H'→Plain H'→DV K H' (ver v) t→Q t H'
structure Gd (ms:Sh):Prop where
 nd:(mks ms).Nodup
 ok:∀ m∈ms,okV m.2
 sh:∀ m∈ms,m.2.2.1.length≤4
 up:∀ m∈ms,1≤m.1.1
 few:ms.length≤60
noncomputable def zly (K:W.Frag):Sp:=λ vs H Q _=>Plain H∧∃ (a:Addr) (ns:List V),vs=[.ref a]∧H a=some (.lst ns)∧(∀ x∈ns,∃ n:Int,x = .int n)∧ns.length≤60∧∀ (l:Addr) (ws:List V) (ms:Sh) (H':Hp),Same H H'→Plain H'→H' l=some (.lst ws)→DVs K H' (ms.map prD) ws→Gd ms→ms.length=ns.length→Q (.ref l) H'
noncomputable def zty (K:W.Frag):Sp:=λ vs H Q _=>Plain H∧∃ (l:Addr) (ws:List V) (ms:Sh) (n:Int),vs=[.ref l,.int n]∧H l=some (.lst ws)∧DVs K H (ms.map prD) ws∧Gd ms∧ms≠[]∧∀ (v:Ver) (t:V) (H':Hp),okV v→v.2.1.length≤10→Same H H'→Plain H'→DV K H' (ver v) t→Q t H'
noncomputable def zgw (K:W.Frag):Sp:=λ vs H Q _=>Plain H∧∃ (l:Addr) (ws:List V) (ms:Sh) (low:List Stp) (lv:V),vs=[.ref l,lv]∧H l=some (.lst ws)∧DVs K H (ms.map prD) ws∧Gd ms∧DV K H (plc low) lv∧∀ o v H',Least (zof ms low []) o→Same H H'→Plain H'→DV K H' (hiD o) v→Q v H'
theorem zkn {a b:List (List Stp)} (h:∀ x,x∈a↔x∈b) {o:Option (List Stp)} (hl:Least a o):Least b o:=by
 cases o with
 | none =>
  have hl:a=[]:=hl
  show b=[]
  refine List.eq_nil_iff_forall_not_mem.mpr λ x hx=>?_
  have:=(h x).mpr hx
  rw [hl] at this
  cases this
 | some r=>exact ⟨(h r).mp hl.1,λ q hq=>hl.2 q ((h q).mpr hq)⟩
noncomputable def hsT (ms:Sh) (low:List Stp) (i:Nat):List (List Stp):=((ms.take i).filter λ m=>pLt low m.2.2.1).map λ m=>m.2.2.1
theorem zfn {ms:Sh} (low:List Stp) {i:Nat} (h:i<ms.length):hsT ms low (i+1)=hsT ms low i++if pLt low ms[i].2.2.1=true then [ms[i].2.2.1] else []:=by
 unfold hsT
 rw [List.take_succ_eq_append_getElem h,List.filter_append,List.map_append]
 congr 1
 cases e:pLt low ms[i].2.2.1 with
 | true=>rw [if_pos rfl,List.filter_cons_of_pos (p:=λ m:Mark×Ver=>pLt low m.2.2.1) e];rfl
 | false=>rw [if_neg (by decide),List.filter_cons_of_neg (p:=λ m:Mark×Ver=>pLt low m.2.2.1) (by rw [e];decide)];rfl
theorem zyu {ms:Sh} (nd:(mks ms).Nodup) (low:List Stp) (x:List Stp):x∈hsT ms low ms.length↔x∈zof ms low []:=by
 unfold hsT zof
 rw [List.take_length,List.mem_map,List.mem_map]
 constructor
 ·rintro ⟨m,hm,rfl⟩
  obtain ⟨h1,h2⟩:=List.mem_filter.mp hm
  refine ⟨m.1,List.mem_filter.mpr ⟨List.mem_map_of_mem (f:=(·.1)) h1,?_⟩,by rw [zbf nd h1]⟩
  unfold zzj
  rw [zbf nd h1,h2]
  rfl
 ·rintro ⟨k,hk,rfl⟩
  obtain ⟨h1,h2⟩:=List.mem_filter.mp hk
  obtain ⟨m,hm,rfl⟩:=List.mem_map.mp h1
  unfold zzj at h2
  rw [zbf nd hm,Bool.and_eq_true] at h2
  exact ⟨m,List.mem_filter.mpr ⟨hm,h2.2⟩,by rw [zbf nd hm]⟩
theorem zpm {hs:List (List Stp)} {o:Option (List Stp)} (hl:Least hs o) (p:List Stp):(o=none→Least (hs++[p]) (some p))∧∀ r,o=some r→(pLt p r=true→Least (hs++[p]) (some p))∧(pLt p r=false→Least (hs++[p]) (some r)):=by
 refine ⟨λ e=>?_,λ r e=>⟨λ h=>?_,λ h=>?_⟩⟩
 ·subst e
  rw [show hs=[] from hl]
  exact ⟨List.mem_singleton.mpr rfl,λ q hq=>.inl (List.mem_singleton.mp hq).symm⟩
 ·subst e
  refine ⟨List.mem_append_right _ (List.mem_singleton.mpr rfl),λ q hq=>?_⟩
  rcases List.mem_append.mp hq with y | y
  ·rcases hl.2 q y with z | z
   ·rw [← z];exact .inr h
   ·exact .inr (pLt_sto.tr _ _ _ h z)
  ·exact .inl (List.mem_singleton.mp y).symm
 ·subst e
  refine ⟨List.mem_append_left _ hl.1,λ q hq=>?_⟩
  rcases List.mem_append.mp hq with y | y
  ·exact hl.2 q y
  ·rw [List.mem_singleton.mp y]
   by_cases z:r=p
   ·exact .inl z
   ·refine .inr ?_
    cases e:pLt r p with
    | true=>rfl
    | false=>rw [pLt_sto.tri _ _ z e] at h;cases h
noncomputable def zsy (K:W.Frag):Sp:=λ vs H Q _=>Plain H∧∃ (l:Addr) (ws:List V) (ms:Sh) (v:V) (c:Cla) (b:Int) (lt:Addr) (wt:List V) (o:Option (List Stp)),vs=[.ref l,v,.int b,.ref lt]∧H l=some (.lst ws)∧DVs K H (ms.map prD) ws∧Gd ms∧DV K H (claD c) v∧okV c.2.2.2.1∧c.2.2.2.1.2.1.length≤10∧H lt=some (.lst wt)∧Least (zof ms c.2.2.2.1.2.1 []) o∧DVs K H ([((0,c.1),zvs b o c)].map prD) wt∧∀ H',Same H H'→Plain H'→Q (.bl true) H'
theorem zun {ms:Sh} (nd:(mks ms).Nodup) {low:List Stp} {o:Option (List Stp)} (hl:Least (zof ms low []) o) {bs:List Mark} (pm:bs.Perm (zne ms)):(bs.filter (ahd ms o)).length=(ms.filter λ m=>zzd m.2 && !pLt low m.2.2.1).length:=by
 have e1:(bs.filter (ahd ms o)).length=((zne ms).filter (ahd ms o)).length:=(pm.filter _).length_eq
 have e2:(zne ms).filter (ahd ms o)=((ms.filter λ m=>zzd m.2).filter λ m=>ahd ms o m.1).map (·.1):=by
  unfold zne
  rw [List.filter_map]
  rfl
 rw [e1,e2,List.length_map,List.filter_filter]
 congr 1
 refine List.filter_congr λ m hm=>?_
 have ev:=zbf nd hm
 cases hi:zzd m.2 with
 | false=>rw [Bool.and_false];rfl
 | true =>
  rw [Bool.and_true,Bool.true_and]
  unfold ahd
  cases hlt:pLt low m.2.2.1 with
  | true =>
   have hh:m.2.2.1∈zof ms low []:=List.mem_map.mpr ⟨m.1,List.mem_filter.mpr ⟨List.mem_map_of_mem (f:=(·.1)) hm,by unfold zzj;rw [ev,hlt];rfl⟩,by rw [ev]⟩
   cases o with
   | none=>rw [show zof ms low []=[] from hl] at hh;cases hh
   | some h =>
    dsimp only
    rw [ev]
    rcases hl.2 _ hh with z | z
    ·rw [← z,pLt_sto.irr];rfl
    ·rw [pLt_sto.asym z];rfl
  | false =>
   cases o with
   | none=>rfl
   | some h =>
    dsimp only
    rw [ev]
    have hr:pLt low h=true:=zvb hl h rfl
    by_cases e:low=m.2.2.1
    ·rw [← e,hr];rfl
    ·rw [pLt_sto.tr _ _ _ (pLt_sto.tri _ _ e hlt) hr];rfl
noncomputable def zxv (P:Program) (w:World) (K:W.Frag) (A:Adr):Sp:=λ vs H Q _=>Plain H∧∃ (p:Addr) (ms:Sh) (v:V) (c:Cla) (z:Str) (b:Int),vs=[.ref p,v,.str z,.int b]∧ShAt P w K A.Sheet H p ms∧DV K H (claD c) v∧c.2.2.2.1.2.1.length≤100∧(isCh z=false ∨ (isCh z=true∧zfb c z=true))∧∀ H',Same H H'→Plain H'→Q (.str (if isCh z=false then "choice" else "both")) H'
noncomputable def zgy (P:Program) (w:World) (K:W.Frag) (A:Adr):Sp:=λ vs H Q _=>Plain H∧∃ (l:Addr) (ws:List V) (p:Addr) (ms:Sh) (v:V) (c:Cla) (b:Int) (z:Str),vs=[.ref l,.ref p,v,.int b,.str z]∧H l=some (.lst ws)∧DVs K H (ms.map prD) ws∧Gd ms∧ShAt P w K A.Sheet H p ms∧DV K H (claD c) v∧okV c.2.2.2.1∧c.2.2.2.1.2.1.length≤10∧isCh z=false∧∀ H',Same H H'→Plain H'→Q (.bl true) H'
theorem zmr (nsc:List Int):(∀ x∈cutV (nsc.map V.int++[V.int 7,V.int 9,V.int 11]) (some 2) (some 60),∃ n:Int,x=V.int n)∧1≤(cutV (nsc.map V.int++[V.int 7,V.int 9,V.int 11]) (some 2) (some 60)).length∧(cutV (nsc.map V.int++[V.int 7,V.int 9,V.int 11]) (some 2) (some 60)).length≤58:=by
 refine ⟨λ x hx=>?_,?_⟩
 ·unfold cutV at hx
  rcases List.mem_append.mp (List.mem_of_mem_drop (List.mem_of_mem_take hx)) with y | y
  ·obtain ⟨n,_,rfl⟩:=List.mem_map.mp y
   exact ⟨n,rfl⟩
  ·rcases List.mem_cons.mp y with rfl | y
   ·exact ⟨7,rfl⟩
   ·rcases List.mem_cons.mp y with rfl | y
    ·exact ⟨9,rfl⟩
    ·rw [List.mem_singleton.mp y]
     exact ⟨11,rfl⟩
 ·unfold cutV
  have hl:(nsc.map V.int++[V.int 7,V.int 9,V.int 11]).length=nsc.length+3:=by rw [List.length_append,List.length_map];rfl
  generalize nsc.map V.int++[V.int 7,V.int 9,V.int 11]=xs at hl ⊢
  rw [List.length_take,List.length_drop,show HT.sIx xs.length 0 (some 2)=min 2 xs.length from HT.sIx_nat ..,show HT.sIx xs.length xs.length (some 60)=min 60 xs.length from HT.sIx_nat ..]
  omega
section
variable (P:Program) (w:World) (K:W.Frag) (mg:Str→Option Value) (B:Heap) (A:Adr)
noncomputable abbrev zau:Prop:=FnOk P w K mg B (CX1 P w B) 1 A.f_q15 A.d_q15 ["low", "high"] (zk1 K)
noncomputable abbrev zzu:Prop:=FnOk P w K mg B (CX1 P w B) 2 A.f_q17 A.d_q17 ["low", "high", "window", "count"] (ze1 K A)
noncomputable abbrev zkt:Prop:=FnOk P w K mg B (CX1 P w B) 1 A.f_q18 A.d_q18 ["version", "beat"] (zpx K)
noncomputable abbrev zer:Prop:=FnOk P w K mg B (CX1 P w B) 1 A.f_q20 A.d_q20 ["version"] (zy0 K)
noncomputable abbrev zoz:Prop:=FnOk P w K mg B (CX1 P w B) 1 A.f_q7 A.d_q7 ["choice"] (zv0 A)
noncomputable abbrev zct:Prop:=FnOk P w K mg B (CX1 P w B) 2 A.f_q10 A.d_q10 ["clash", "choice"] (zd1 K A)
noncomputable abbrev zax:Prop:=FnOk P w K mg B (CX1 P w B) 1 A.f_q1 A.d_q1 ["self", "pairs"] (zcy P w K A.Sheet A.NoSheet)
noncomputable abbrev zmz:Prop:=FnOk P w K mg B (CX1 P w B) 1 A.f_q6 A.d_q6 ["self"] (zdx P w K A.Sheet)
noncomputable abbrev zqz:Prop:=FnOk P w K mg B (CX1 P w B) 2 A.f_q2 A.d_q2 ["self"] (zmx P w K A.Sheet)
noncomputable abbrev zfz:Prop:=FnOk P w K mg B (CX1 P w B) 1 A.f_q0 A.d_q0 ["self", "low", "aside"] (zk0 P w K A)
noncomputable abbrev zlt:Prop:=FnOk P w K mg B (CX1 P w B) 3 A.f_q16 A.d_q16 ["clash", "sheet", "beat"] (zxw P w K A)
noncomputable abbrev zpr:Prop:=FnOk P w K mg B (CX1 P w B) 4 A.f_q19 A.d_q19 ["clash", "choice", "sheet", "beat"] (zjx P w K A)
noncomputable abbrev zzy:Prop:=FnOk P w K mg B (CX1 P w B) 1 A.f_q5 A.d_q5 ["_law_script", "_law_k"] (zmw K)
noncomputable abbrev zkx:Prop:=FnOk P w K mg B (CX1 P w B) 1 A.f_q9 A.d_q9 ["_law_number"] (zuy K)
noncomputable abbrev zdz:Prop:=FnOk P w K mg B (CX1 P w B) 2 A.f_q4 A.d_q4 ["_law_number", "_law_beat"] (zyw K)
noncomputable abbrev zpt:Prop:=FnOk P w K mg B (CX1 P w B) 3 A.f_q13 A.d_q13 ["_law_cells"] (zly K)
noncomputable abbrev zmu:Prop:=FnOk P w K mg B (CX1 P w B) 2 A.f_q12 A.d_q12 ["_law_pairs", "_law_number"] (zty K)
noncomputable abbrev zkz:Prop:=FnOk P w K mg B (CX1 P w B) 1 A.f_q8 A.d_q8 ["_law_pairs", "_law_place_here"] (zgw K)
noncomputable abbrev zwu:Prop:=FnOk P w K mg B (CX1 P w B) 3 A.f_q14 A.d_q14 ["_law_pairs", "_law_clash", "_law_beat", "_law_told"] (zsy K)
noncomputable abbrev zpz:Prop:=FnOk P w K mg B (CX1 P w B) 5 A.f_q3 A.d_q3 ["_law_sheet_here", "_law_clash", "_law_choice", "_law_beat"] (zxv P w K A)
noncomputable abbrev zru:Prop:=FnOk P w K mg B (CX1 P w B) 6 A.f_q11 A.d_q11 ["_law_pairs", "_law_sheet_here", "_law_clash", "_law_beat", "_law_odd"] (zgy P w K A)
noncomputable abbrev zvx:Prop:=FnOk P w K mg B (CX1 P w B) 7 A.f_law A.d_law ["_law_script"] (sp_law K)
end
set_option maxHeartbeats 4000000
section
variable {P:Program} {w:World} {K:W.Frag} {mg:Str→Option Value} {B:Heap} {A:Adr}
theorem znx:FnScope ["low", "high"] ["low", "high"] (zia zfy):=by walk_at "sc"
theorem zgx (T:Txt K mg A)  : zau P w K mg B A:=by
 refine T.F_q15.okN znx (λ vs H Q E h=>?_) (λ _ _ _ _ H vs Q E hr h=>?_)
 ·obtain ⟨_,a,⟨x,y,rfl,_⟩,_⟩:=h
  rfl
 ·obtain ⟨hp,⟨low,high⟩,⟨x,y,hv,hx,hy,hr2⟩,q,_⟩:=h
  obtain rfl:vs=[x,y]:=hv
  dsimp only at *
  obtain ⟨p,xs,rfl,hq,hds⟩:=id hx
  have hxl:xs.length=low.length:=by rw [hds.length,List.length_map]
  refine ⟨_,(zca (zuc (PW.pt (zsv (zla zit (pv 1) zvj (zua _)) (zto (zla (zmh hr.units) (zpb zaj (pv 1) zpc (zxb (zma zka rfl T.n_len (by decide +kernel) (zaa (pv 0) zda)))) (pv 0) (zua _))))) (zfa (zwa zba)) zsa)
   (zfa (zwa (zqa zij (zib zxa (zib zxa (pv 1) (zma zka rfl T.n_len (by decide +kernel) (zaa (pv 0) zda)) (λ _ _=>rfl)) zba (λ _ _=>rfl)) zba)))),?_⟩
  cases high with
  | none =>
   obtain rfl:y = .non:=hy
   refine ⟨_,rfl,rfl,_,rfl,zjz rfl (iteT ?_)⟩
   exact q _ _ rfl (Same.refl _) hp
  | some h =>
   obtain ⟨ph,ys,rfl,hqh,hdh⟩:=id hy
   have hyl:ys.length=h.length:=by rw [hdh.length,List.length_map]
   have hpl:pLt low h=true:=hr2 h rfl
   refine ⟨_,rfl,rfl,_,rfl,zgz (by intro z;cases z) ?_⟩
   refine ⟨_,rfl,_,rfl,p,_,rfl,.inr hq,_,rfl,ph,ys,rfl,hqh,λ p1 G1 g1 s1 pg1=>?_⟩
   have PG1:=pg1 hp
   rw [zgf (by omega),Int.toNat_natCast,hxl] at g1
   have d1:DV K G1 (plc (h.take low.length)) (.ref p1):=⟨p1,_,rfl,g1,by rw [List.map_take];exact (DVs.same s1 _ _ hdh).take _⟩
   refine ⟨_,rfl,plc (h.take low.length),plc low,d1,DV.same s1 _ _ hx,zga _,zga _,_,rfl,?_⟩
   rw [zec]
   refine zi1 (λ hne=>?_) (λ heq=>?_)
   ·have e0:zyi low (some h)=0:=if_neg hne
    exact q _ _ (by rw [e0]) s1 PG1
   ·obtain ⟨s0,r0,eh⟩:=zis hpl heq
    have e0:zyi low (some h)=s0.1 - 1:=by
     show (if h.take low.length=low then ((h[low.length]?).getD (0,0,0)).1 - 1 else 0)=s0.1 - 1
     rw [if_pos heq,eh]
     simp
    obtain ⟨t0,ht0,hq0⟩:=zli (DVs.same s1 _ _ hdh) (i:=low.length) (by rw [eh];simp)
    have es:h[low.length]'(by rw [eh];simp)=s0:=by simp [eh]
    rw [es] at hq0
    refine ⟨_,rfl,_,rfl,p,_,rfl,.inr (s1.seqT hq),zwt (s1.seqT hqh) (by omega) (by rw [Int.toNat_natCast,hxl];exact ht0) ⟨_,_,_,_,rfl,rfl,hq0,rfl,_,_,rfl,rfl,q _ _ (by rw [e0]) s1 PG1⟩⟩
theorem zqw:FnScope ["low", "high", "window", "count"] ["low", "high", "window", "count"] (zia zhx):=by walk_at "sc"
theorem zdy (T:Txt K mg A) (G_q15:zau P w K mg B A):zzu P w K mg B A:=by
 have B_q15:=T.b_q15
 refine T.F_q17.okX zqw (λ vs H Q E h=>?_) (λ _ _ _ _ H vs Q E hr h=>?_)
 ·obtain ⟨_,a,⟨x,y,rfl,_⟩,_⟩:=h
  rfl
 ·obtain ⟨hp,⟨low,high,w1,c1⟩,⟨x,y,hv,hx,hy,hl⟩,q,qe⟩:=h
  obtain rfl:vs=[x,y,.int w1,.int c1]:=hv
  dsimp only at *
  obtain ⟨p,xs,rfl,hq,hds⟩:=id hx
  have hxl:xs.length=low.length:=by rw [hds.length,List.length_map]
  refine ⟨_,(zca (zuc (PW.pt (zqh (zla zsp (pv 1) zvj (zua _)) (zwd (zla (zpy hr.u100) (pv 0) (pv 1) (zua _))))) (zfa (zye T.x_NoRoom ztb rfl rfl T.g_NoRoom (zaa zya zda))) zsa)
   (zfa (zwa (zqa zlk (pv 0) (zoa (zaa (zoa (zaa (zra G_q15 (hr.mono (by decide)) rfl T.g_q15 T.k_q15 B_q15 .nil zmc (zaa (pv 0) (zaa (pv 1) zda))) (zaa (pv 2) (zaa (pv 3) zda)))) zda)))))),?_⟩
  apply zuz (G:=zxu low high→_)
  ·intro R
   have hcase:high=none ∨ ∃ h,high=some h:=by cases high with | none=>exact .inl rfl | some h=>exact .inr ⟨h,rfl⟩
   rcases hcase with hn | ⟨h,hn⟩
   ·have hy0:y = .non:=by rw [hn] at hy;exact hy
    refine ⟨_,rfl,rfl,_,rfl,zhz hy0 (iteF ?_)⟩
    exact R (λ h e=>by rw [hn] at e;cases e)
   ·have hy':DV K H (plc h) y:=by rw [hn] at hy;exact hy
    have hy0:y ≠ .non:=by obtain ⟨ph,ys,e,_⟩:=hy';rw [e];intro z;cases z
    refine ⟨_,rfl,rfl,_,rfl,zsz hy0 ?_⟩
    refine ⟨_,rfl,_,rfl,low,h,hx,hy',_,rfl,?_⟩
    cases hpl:pLt low h with
    | false=>exact iteT ⟨by decide,qe _ _ ⟨rfl,λ g=>by rw [g h hn] at hpl;cases hpl⟩ (Same.refl _) hp⟩
    | true=>exact iteF (R (λ h' e=>by rw [hn] at e;cases e;exact hpl))
  intro hroom
  refine ⟨_,rfl,_,rfl,_,rfl,hp,(low,high),⟨_,_,rfl,hx,hy,hroom⟩,λ v H1 hv hs1 hp1'=>?_,λ _ _ h=>h.elim⟩
  subst hv
  refine ⟨_,rfl,_,rfl,sz_3,λ t1 hp2=>?_⟩
  generalize hH2:upd H1 t1 (HO.tup _)=H2
  have s2:Same H1 H2:=hH2 ▸ zea hp2
  have P2:Plain H2:=hH2 ▸ hp1'.tup
  have h2:=(congrFun hH2 t1).symm.trans upd_same
  refine ⟨sz_1,λ t2 hp3=>?_⟩
  generalize hH3:upd H2 t2 (HO.tup _)=H3
  have s3:Same H2 H3:=hH3 ▸ zea hp3
  have P3:Plain H3:=hH3 ▸ P2.tup
  have h3:=(congrFun hH3 t2).symm.trans upd_same
  have S3:=(hs1.trans s2).trans s3
  refine ⟨p,t2,_,_,rfl,rfl,S3.seqT hq,SqT.of h3,sm1 ((by show _+1≤1000;omega)),λ p4 G4 g4 s4 pg4=>q _ _ ⟨hroom,p4,rfl,p4,_,rfl,g4,?_⟩ (S3.trans s4) (pg4 P3)⟩
  rw [List.map_append]
  exact (DVs.same (S3.trans s4) _ _ hds).append ⟨_,_,rfl,zdg (s:=(zyi low high,w1,c1)) (SqT.of ((s3.trans s4) _ _ h2)),rfl⟩
theorem zqy:FnScope ["version", "beat"] ["version", "beat"] (zia zlx):=by walk_at "sc"
theorem zcx (T:Txt K mg A)  : zkt P w K mg B A:=by
 refine T.F_q18.okN zqy (λ vs H Q E h=>?_) (λ _ _ _ _ H vs Q E hr h=>?_)
 ·obtain ⟨_,v,x,b,rfl,_⟩:=h
  rfl
 ·obtain ⟨hP,v,x,b,rfl,hx,q⟩:=h
  refine ⟨_,(zfa (zwa (zoa (zaa (pv 1) (zaa (zib zxa (pv 0) zba (λ _ _=>rfl)) (zaa (zib zxa (pv 0) zba (λ _ _=>rfl)) zda)))))),?_⟩
  obtain ⟨tv,pvv,rfl,hq,hpl⟩:=zae hx
  refine ⟨_,rfl,_,rfl,tv,_,_,_,rfl,rfl,hq,rfl,_,rfl,tv,_,_,_,rfl,rfl,hq,rfl,sz_3,λ t hp1=>?_⟩
  generalize hH1:upd H t (HO.tup _)=H1;obtain ⟨s1,P1,h1⟩:=nwT hH1 hp1 hP
  exact q _ _ s1 P1 (zaf (v:=(b,v.2.1,v.2.2)) (SqT.of h1) (DV.same s1 _ _ hpl))
theorem ztw:FnScope ["version"] ["version"] (zia zwv):=by walk_at "sc"
theorem zvv (T:Txt K mg A)  : zer P w K mg B A:=by
 refine T.F_q20.okN ztw (λ vs H Q E h=>?_) (λ _ _ _ _ H vs Q E hr h=>?_)
 ·obtain ⟨_,a,⟨x,rfl,_⟩,_⟩:=h
  rfl
 ·obtain ⟨hp,v,⟨x,hv,hx⟩,q,_⟩:=h
  obtain rfl:vs=[x]:=hv
  obtain ⟨t,pa,rfl,hq,hd⟩:=zae hx
  refine ⟨_,(zfa (zwa (zgg (zmh hr.units) (zib zxa (pv 0) zba (λ _ _=>rfl)) (zoa zda) (zua _)))),?_⟩
  refine ⟨_,rfl,_,_,_,_,rfl,rfl,hq,rfl,sz_0,λ te hp1=>?_⟩
  generalize hH1:upd H te (HO.tup _)=H1
  have s1:Same H H1:=hH1 ▸ zea hp1
  have P1:Plain H1:=hH1 ▸ hp.tup
  have h1:=(congrFun hH1 te).symm.trans upd_same
  refine ⟨plc v.2.1,plc [],DV.same s1 _ _ hd,zqb h1,zga _,zga _,q _ _ ?_ s1 P1⟩
  rw [zec]
theorem zb1:FnScope ["choice"] ["choice"] (zia s_q7):=by walk_at "sc"
theorem zr1 (T:Txt K mg A)  : zoz P w K mg B A:=by
 refine T.F_q7.okX zb1 (λ vs H Q E h=>?_) (λ _ _ _ _ H vs Q E hr h=>?_)
 ·obtain ⟨z,rfl,_⟩:=h
  rfl
 ·obtain ⟨z,rfl,q,qe⟩:=h
  refine ⟨_,(zfa (zuc (zla zth (pv 0) (zie (v := .ref A.CHOICES) rfl T.g_CHOICES rfl) (by rfl)) (zfa (zye T.x_NoChoice ztb rfl rfl T.g_NoChoice (zaa zya zda))) zsa)),?_⟩
  refine ⟨_,rfl,A.CHOICES,chs,rfl,.inr (T.t_CHOICES _),rfl,rfl,_,rfl,?_⟩
  show if (!isCh z)=true then _ else _
  cases hz:isCh z with
  | true=>exact iteF (q hz)
  | false=>exact iteT ⟨by decide,qe hz⟩
theorem zqx:FnScope ["clash", "choice"] ["clash", "choice"] (zia zkw):=by walk_at "sc"
theorem zbx (T:Txt K mg A) (G_q20:zer P w K mg B A):zct P w K mg B A:=by
 have B_q20:=T.b_q20
 refine T.F_q10.okX zqx (λ vs H Q E h=>?_) (λ _ _ _ _ H vs Q E hr h=>?_)
 ·obtain ⟨_,v,c,z,rfl,_⟩:=h
  rfl
 ·obtain ⟨hP,v,c,z,rfl,hd,q,qe⟩:=h
  refine ⟨_,(zfa (zuc (PW.pt (zqh (zla zcl (pv 1) zya (zua _)) (zwd (zro (zlh (zra G_q20 (hr.mono (by decide)) rfl T.g_q20 T.k_q20 B_q20 .nil zmc (zaa (zib zxa (pv 0) zba (λ _ _=>rfl)) zda))))))) (zfa (zye T.x_NoBoth ztb rfl rfl T.g_NoBoth (zaa zya zda))) zsa)),?_⟩
  obtain ⟨t,mv,sv,av,rfl,hq,_,_,ha⟩:=zkm hd
  refine ⟨_,rfl,rfl,_,rfl,zhl (λ h1=>?_) (λ h1=>iteF (q ?_ _ (Same.refl _) hP))⟩
  ·have ez:z=Str.ofString "both" := V.str.inj h1
   refine ⟨_,rfl,t,_,_,_,rfl,rfl,hq,rfl,hP,c.2.2.2.1,⟨_,rfl,ha⟩,λ r H5 hr5 s5 P5=>⟨_,hr5,?_⟩,λ _ _ h=>h.elim⟩
   cases hb:decide (c.2.2.2.1.2.1=[]) with
   | true=>exact iteT ⟨by decide,qe (by unfold zfb;rw [hb,ez];rfl) _ s5 P5⟩
   | false=>exact iteF (q (by unfold zfb;rw [hb,Bool.and_false]) _ s5 P5)
  ·unfold zfb
   rw [show decide (z=Str.ofString "both")=false from decide_eq_false λ e=>h1 (by rw [e]),Bool.false_and]
theorem zu0:FnScope ["self", "pairs"] ["self", "pairs"] (zia s_q1):=by walk_at "sc"
theorem zq1 (T:Txt K mg A)  : zax P w K mg B A:=by
 refine T.F_q1.okX zu0 (λ vs H Q E h=>?_) (λ _ _ _ _ H vs Q E hr h=>?_)
 ·obtain ⟨_,p,dx,l,ws,ms,rfl,_⟩:=h
  rfl
 ·obtain ⟨hP,p,dx,l,ws,ms,rfl,hp,hl,hd,hok,few,q,qe⟩:=h
  refine ⟨_,(zca (zey (pv 0) (zrb (zbn rfl hr.u100) rfl T.n_dict (by decide +kernel) (zaa (pv 1) zda)) rfl)
   (zfa (zuc (zla zaz (zma zon rfl T.n_len (by decide +kernel) (zaa (znn (pv 0) rfl) zda)) (zma zka rfl T.n_len (by decide +kernel) (zaa (pv 1) zda)) (zua _)) (zfa (zye T.x_NoSheet ztb rfl rfl T.g_NoSheet (zaa zya zda))) zsa))),?_⟩
  obtain ⟨ps,h1,h2⟩:=zyl hd
  have hpl:ps.length=ws.length:=Paired.length h1
  have hpm:ps.length=ms.length:=Paired.length h2
  have emk:=zfc h2
  refine ⟨_,rfl,l,ws,ps,rfl,hl,h1,by omega,λ d o hd0=>?_⟩
  have npd:p≠d:=zha hp hd0
  refine ⟨_,rfl,p,A.Sheet,dx,[],rfl,(by rw [zja npd];exact hp),T.cl_Sheet,T.na_Sheet_versions,(by show 0<1000;decide),?_⟩
  have keep:∀ b o',b≠p→H b=some o'→(upd (upd H d (dO P w d (zlb [] ps) o)) p (.ins A.Sheet dx (putF "versions" (.ref d) []))) b=some o':=λ b o' hb e=>by
   rw [zja hb,zja (zha e hd0)];exact e
  have P2:Plain (upd (upd H d (dO P w d (zlb [] ps) o)) p (.ins A.Sheet dx (putF "versions" (.ref d) []))):=Plain.ins (Plain.ext hP)
  have hp2:(upd (upd H d (dO P w d (zlb [] ps) o)) p (.ins A.Sheet dx (putF "versions" (.ref d) []))) p=some (.ins A.Sheet dx [("versions",.ref d)]):=upd_same
  have hd2:(upd (upd H d (dO P w d (zlb [] ps) o)) p (.ins A.Sheet dx (putF "versions" (.ref d) []))) d=some (dO P w d (zlb [] ps) o):=by rw [zja npd.symm];exact upd_same
  have hl2:SqL K (upd (upd H d (dO P w d (zlb [] ps) o)) p (.ins A.Sheet dx (putF "versions" (.ref d) []))) l ws:=by
   rcases hl with (z | ⟨o',z⟩) | z
   ·exact .inl (.inl (keep _ _ (zys z hp (by intro z;cases z)) z))
   ·exact .inl (.inr ⟨o',keep _ _ (zys z hp (by intro z;cases z)) z⟩)
   ·exact .inr z
  have he2:EnS K (upd (upd H d (dO P w d (zlb [] ps) o)) p (.ins A.Sheet dx (putF "versions" (.ref d) []))) ps ms:=by
   have sd:Same H (upd H d (dO P w d (zlb [] ps) o)):=zea hd0
   have hpd:(upd H d (dO P w d (zlb [] ps) o)) p=some (.ins A.Sheet dx []):=sd _ _ hp
   refine (h2.imp (H':=upd H d (dO P w d (zlb [] ps) o)) (λ _ _ q=>sd.seqT q) λ _ _ q=>DV.same sd _ _ q).imp (λ a m q=>zzp hpd q) λ v x q=>zlu hpd _ _ (zyq v) q
  refine ⟨_,rfl,p,A.Sheet,dx,_,_,rfl,hp2,T.cl_Sheet,T.na_Sheet_versions,rfl,d,_,o,rfl,hd2,_,rfl,l,ws,rfl,.inl hl2,rfl,_,rfl,?_⟩
  by_cases nd:(ms.map (·.1)).Nodup
  ·have e:zlb [] ps=ps:=zrg ps [] (by rw [List.nil_append,emk];exact nd)
   refine zhz (by rw [e,hpl]) ?_
   exact q nd _ keep ⟨⟨dx,d,ps,o,hp2,hd2.trans (by rw [e]),he2⟩,nd,hok,few⟩ P2
  ·have e:=zre ps [] List.nodup_nil (by rw [List.nil_append,emk];exact nd)
   rw [List.length_nil] at e
   refine zsz (λ z=>by have:=V.int.inj z;omega) ?_
   exact ⟨sz_1,qe nd _ keep P2⟩
theorem zm0:FnScope ["self"] ["self"] (zia s_q6):=by walk_at "sc"
theorem zs1 (T:Txt K mg A)  : zmz P w K mg B A:=by
 refine T.F_q6.okN zm0 (λ vs H Q E h=>?_) (λ _ _ _ _ H vs Q E hr h=>?_)
 ·obtain ⟨_,p,ms,rfl,_⟩:=h
  rfl
 ·obtain ⟨hP,p,ms,rfl,S,q⟩:=h
  refine ⟨_,(zfa (zwa (zma (zrh rfl hr.u100) rfl T.n_sorted (by decide +kernel) (zaa (ztr (znn (pv 0) rfl)) zda)))),?_⟩
  obtain ⟨dx,d,es,o,hp,hd,he⟩:=S.ex
  refine ⟨_,rfl,p,A.Sheet,dx,_,_,rfl,hp,T.cl_Sheet,T.na_Sheet_versions,rfl,d,es,o,rfl,hd,λ v hv=>?_⟩
  have sv:Same H (upd H v (zej v d)):=zea hv
  have emk:=zfc he
  have hpm:es.length=ms.length:=Paired.length he
  refine ⟨v,d,es,o,λ m=>vdat (look ms m),rfl,upd_same,sv _ _ hd,λ e h=>sv.seqT (zle he e h).1,λ e h=>?_,λ e h=>?_,by rw [emk];exact S.nd,by have:=S.few;omega,λ H' l bs ws s' p' hl pm pw hw=>?_⟩
  ·obtain ⟨_,x,h1,h2⟩:=zle he e h
   dsimp only
   rw [zrc S.nd h1]
   exact DV.same sv _ _ h2
  ·obtain ⟨_,x,h1,h2⟩:=zle he e h
   show SeqAt.shaped (.tuple [markD e.1,vdat (look ms e.1)])=true
   rw [zrc S.nd h1]
   exact zgd (m:=(e.1,x)) (S.ok _ h1)
  ·rw [emk] at pm
   rw [zch S.nd pm] at hw
   exact q _ l _ ws ((sv.trans s').free hl) ((sv.trans s').trans (zea hl)) (p' (Plain.ext hP)).lst upd_same (zsi S.nd pm) (zrq pw) (DVs.same (zea hl) _ _ hw)
theorem sc_q2:FnScope ["self", "inside"] ["self"] (zia s_q2):=by walk_at "sc"
theorem zo0 (T:Txt K mg A) (G_q20:zer P w K mg B A):zqz P w K mg B A:=by
 have B_q20:=T.b_q20
 refine T.F_q2.okN sc_q2 (λ vs H Q E h=>?_) (λ _ _ _ _ H vs Q E hr h=>?_)
 ·obtain ⟨_,p,ms,rfl,_⟩:=h
  rfl
 ·obtain ⟨hP,p,ms,rfl,S,q⟩:=h
  refine ⟨_,(zca (zxq ["mark", "version"] 2 [] (i:=1) sc_q2.nd rfl (Or.inl rfl) rfl (zzl (znn (pv 0) rfl)) gk2 (λ _ _ _ _ _=>znf rfl (zpa (zab (i:=0) (show List.Nodup (["mark", "version"]:List Str) by decide +kernel) rfl (Or.inl rfl)) (zpa (zab (i:=1) (show List.Nodup (["mark", "version"]:List Str) by decide +kernel) rfl (Or.inl rfl)) zkc))) (λ _ _ _ _ _=>zjk (zlh (zra G_q20 (hr.mono (by decide)) rfl T.g_q20 T.k_q20 B_q20 .nil zmc (zaa (pv 1) zda)))) (λ _ _ _ _ _=>(zoa (zaa (zib (zpe (K:=K) rfl) (pv 1) zba (λ _ _=>rfl)) (zaa (pv 0) (zaa (zib (zpe (K:=K) rfl) (pv 1) zba (λ _ _=>rfl)) zda))))))
   (zfa (zwa (zeq ["place", "mark", "words"] 3 [] rfl (zok (zma (zvd hr.u100) rfl T.n_sorted (by decide +kernel) (zaa (pv 1) zda))) gk3 (λ _ _ _ _ _=>znf rfl (zpa (zab (i:=0) (show List.Nodup (["place", "mark", "words"]:List Str) by decide +kernel) rfl (Or.inl rfl)) (zpa (zab (i:=1) (show List.Nodup (["place", "mark", "words"]:List Str) by decide +kernel) rfl (Or.inl rfl)) (zpa (zab (i:=2) (show List.Nodup (["place", "mark", "words"]:List Str) by decide +kernel) rfl (Or.inl rfl)) zkc)))) (λ _ _ _ _ _=>ztt) (λ _ _ _ _ _=>(zoa (zaa (pv 1) (zaa (pv 2) zda)))))))),?_⟩
  obtain ⟨dx,d,es,o,hp,hd,he⟩:=S.ex
  have hpm:es.length=ms.length:=Paired.length he
  have few:=S.few
  refine ⟨_,rfl,p,A.Sheet,dx,_,_,rfl,hp,T.cl_Sheet,T.na_Sheet_versions,rfl,d,es,o,rfl,hd,λ v hv D hD=>?_⟩
  have sv:Same H (upd H v (zej v d)):=zea hv
  have P1:Plain (upd H v (zej v d)):=Plain.ext hP
  refine zbh (λ e=>zzd (vOf ms e.1)) (λ e y H=>DV K H (.tuple (enL ms e.1)) y) hD P1 (sv _ _ hd) (sm1 ((by omega))) (λ e y Ha Hb h k hz=>DV.mono k hz _ _ (zov ms e.1) h) ?_ ?_
  ·intro i e H2 T' Tt Tf hei P2 S2 hT ht hf
   obtain ⟨hk,x,hx,hv2⟩:=zle he e (List.mem_of_getElem? hei)
   have ex:vOf ms e.1=x:=zbf S.nd hx
   have s3:Same H (upd H2 T' (.tup [.ref e.2.1,e.2.2])):=(sv.trans S2).trans (zea hT)
   refine ⟨T',_,rfl,SqT.of upd_same,rfl,_,_,rfl,_,_,rfl,rfl,?_⟩
   refine ⟨_,rfl,P2.tup,x,⟨_,rfl,DV.same s3 _ _ hv2⟩,λ r H5 hr5 s5 P5=>⟨_,hr5,?_⟩,λ _ _ h=>h.elim⟩
   have hk5:=(s3.trans s5).seqT hk
   have hv5:=DV.same (s3.trans s5) _ _ hv2
   obtain ⟨tv,pvv,e5,hq5,hd5⟩:=zae hv5
   cases hb:zzd x with
   | true =>
    rw [show (!decide (x.2.1=[]))=true from hb]
    refine iteT ?_
    refine ⟨_,rfl,tv,_,_,_,e5,rfl,hq5,rfl,_,rfl,_,rfl,tv,_,_,_,e5,rfl,hq5,rfl,sz_3,λ t h6=>?_⟩
    refine ht (by rw [ex];exact hb) _ _ ?_ (((zea hT).trans s5).trans (zea h6)) P5.tup
    have s6:=zea (o:=HO.tup [pvv,.ref e.2.1,.str x.2.2]) h6
    show DV K (upd H5 t (.tup [pvv,.ref e.2.1,.str x.2.2])) (.tuple (enL ms e.1)) (.ref t)
    unfold enL
    rw [ex]
    exact ⟨t,_,rfl,SqT.of upd_same,_,_,rfl,DV.same s6 _ _ hd5,_,_,rfl,zhj (s6.seqT hk5),_,_,rfl,rfl,rfl⟩
   | false =>
    rw [show (!decide (x.2.1=[]))=false from hb]
    exact iteF (hf (by rw [ex];exact hb) _ ((zea hT).trans s5) P5)
  ·intro ys H2 hys hD2 S2 P2
   have hdv:DVs K H2 ((zne ms).map λ m=>.tuple (enL ms m)) ys:=by
    have:=zcd (f:=λ (e:Ent)=>PyData.tuple (enL ms e.1)) hys
    rw [show ((es.filter λ e=>zzd (vOf ms e.1)).map λ (e:Ent)=>PyData.tuple (enL ms e.1))=(zne ms).map λ m=>.tuple (enL ms m) by rw [← zop he S.nd,List.map_map];rfl] at this
    exact this
   refine ⟨_,rfl,Mark,zne ms,enL ms,lnLt ms,.tup,D,ys,rfl,SqL.of hD2,hdv,zef S.nd S.ok S.few,λ l bs ws hl pm pw hw=>?_⟩
   have s3:Same H2 (upd H2 l (.lst ws)):=zea hl
   have P3:Plain (upd H2 l (.lst ws)):=P2.lst
   have h3:SqL K (upd H2 l (.lst ws)) l ws:=SqL.of upd_same
   have hw3:=DVs.same s3 _ _ hw
   have hbl:bs.length≤63:=by rw [pm.length_eq];exact Nat.le_of_lt_succ (zef S.nd S.ok S.few).few
   have hwl:ws.length=bs.length:=by rw [hw3.length,List.length_map]
   generalize upd H2 l (.lst ws)=H3 at s3 P3 h3 hw3 ⊢
   refine ⟨l,rfl,⟨_,h3⟩,λ D2 hD3=>zxr (λ i=>ws.getD i .non) (λ i y H=>∃ m,bs[i]? = some m∧DV K H (lnD ms m) y) hD3 P3 (sm1 ((by omega))) (zlv h3) ?_ ?_ ?_⟩
   ·rintro i y Ha Hb ⟨m,hm,hy⟩ k hz
    exact ⟨m,hm,DV.mono k hz _ _ (by show (noL (markD m) && (noL (.str (vOf ms m).2.2) && true))=true;rfl) hy⟩
   ·intro i H4 R hi P4 S4 hR
    have hib:i<bs.length:=by omega
    obtain ⟨y,hy,hyd⟩:=hw3.get (i:=i) (d := .tuple (enL ms bs[i])) (by rw [List.getElem?_map,List.getElem?_eq_getElem hib];rfl)
    obtain ⟨t,pv0,q0,ey,hq,hm⟩:=zuw hyd
    have eg:ws.getD i .non = .ref t:=by rw [List.getD_eq_getElem?_getD,hy,ey];rfl
    rw [eg]
    refine ⟨t,_,rfl,S4.seqT hq,rfl,_,_,rfl,_,_,rfl,_,_,rfl,rfl,?_⟩
    refine ⟨_,rfl,_,rfl,sz_2,λ t2 h2=>?_⟩
    refine hR _ _ ⟨bs[i],List.getElem?_eq_getElem hib,t2,_,rfl,SqT.of upd_same,_,_,rfl,zhj ((S4.trans (zea h2)).seqT hm),_,_,rfl,rfl,rfl⟩ (zea h2) P4.tup
   ·intro zs H4 hzl hzs hD4 S4 P4
    refine q H4 D2 bs zs (((sv.trans S2).trans s3).free hD3) (((sv.trans S2).trans s3).trans S4) P4 hD4 pm pw ?_
    refine DVs.of (f:=lnD ms) (by omega) λ i v m hv hm=>?_
    obtain ⟨m',h1,h2⟩:=hzs i v hv
    rw [hm] at h1
    cases h1
    exact h2
theorem sc_q0:FnScope ["self", "low", "aside", "left", "places"] ["self", "low", "aside"] (zia s_q0):=by walk_at "sc"
theorem za0 (T:Txt K mg A)  : zfz P w K mg B A:=by
 refine T.F_q0.okN sc_q0 (λ vs H Q E h=>?_) (λ _ _ _ _ H vs Q E hr h=>?_)
 ·obtain ⟨_,p,ms,low,lv,a,ys,as,rfl,_⟩:=h
  rfl
 ·obtain ⟨hP,p,ms,low,lv,a,ys,as,rfl,S,hlow,ha,has,few,q⟩:=h
  refine ⟨_,(zca (zta (i:=3) sc_q0.nd rfl (Or.inr rfl) (zrb (zqo rfl hr.u100) rfl T.n_set (by decide +kernel) (zaa (pv 2) zda)))
   (zca (zxq ["mark", "version", "low", "left"] 2 [1,3] (i:=4) sc_q0.nd rfl (Or.inl rfl) rfl (zzl (znn (pv 0) rfl)) gk2 (λ _ _ _ _ _=>znf rfl (zpa (zab (i:=0) (show List.Nodup (["mark", "version", "low", "left"]:List Str) by decide +kernel) rfl (Or.inl rfl)) (zpa (zab (i:=1) (show List.Nodup (["mark", "version", "low", "left"]:List Str) by decide +kernel) rfl (Or.inl rfl)) zkc))) (λ _ _ _ _ _=>zjk (PW.pt (zqh (zla (zql (K:=K) rfl hr.u100) (pv 0) (pv 3) (by rfl)) (zwd (zla (zst (K:=K) rfl hr.u100) (zib (zpe (K:=K) rfl) (pv 1) zba (λ _ _=>rfl)) (pv 2) (zua _)))))) (λ _ _ _ _ _=>(zib (zpe (K:=K) rfl) (pv 1) zba (λ _ _=>rfl))))
   (zfa (zwa (zvr (zvn rfl hr.u100) rfl T.n_min (by decide +kernel) (zaa (pv 4) zda)))))),?_⟩
  obtain ⟨dx,d,es,o,hp,hd,he⟩:=S.ex
  refine ⟨_,rfl,a,as.map markD,ys,rfl,ha,has,zgs as,by rw [List.length_map];exact few,λ sa qs hsa X1 hin hql=>?_⟩
  have s1:Same H (upd H sa (zhp sa qs)):=zea hsa
  have P1:Plain (upd H sa (zhp sa qs)):=hP.upd trivial
  generalize upd H sa (zhp sa qs)=H1 at s1 P1 X1 ⊢
  have hpm:es.length=ms.length:=Paired.length he
  have few2:=S.few
  refine ⟨_,rfl,p,A.Sheet,dx,_,_,rfl,s1 _ _ hp,T.cl_Sheet,T.na_Sheet_versions,rfl,d,es,o,rfl,s1 _ _ hd,λ v hv D hD=>?_⟩
  have sv:Same H1 (upd H1 v (zej v d)):=zea hv
  have P2:Plain (upd H1 v (zej v d)):=Plain.ext P1
  generalize upd H1 v (zej v d)=H2 at sv P2 hD ⊢
  have S2:=s1.trans sv
  refine zbh (λ e=>zzj ms low as e.1) (λ e y H=>DV K H (plc (vOf ms e.1).2.1) y) hD P2 (S2 _ _ hd) (sm1 ((by omega))) (λ e y Ha Hb h k hz=>DV.mono k hz _ _ (zml _) h) ?_ ?_
  ·intro i e H3 T' Tt Tf hei P3 S3 hT ht hf
   obtain ⟨hk,x,hx,hv2⟩:=zle he e (List.mem_of_getElem? hei)
   have ex:vOf ms e.1=x:=zbf S.nd hx
   have s3:Same H (upd H3 T' (.tup [.ref e.2.1,e.2.2])):=(S2.trans S3).trans (zea hT)
   have s13:Same H1 (upd H3 T' (.tup [.ref e.2.1,e.2.2])):=(sv.trans S3).trans (zea hT)
   refine ⟨T',_,rfl,SqT.of upd_same,rfl,_,_,rfl,_,_,rfl,rfl,?_⟩
   have P4:Plain (upd H3 T' (.tup [.ref e.2.1,e.2.2])):=P3.tup
   have S34:Same H3 (upd H3 T' (.tup [.ref e.2.1,e.2.2])):=zea hT
   generalize upd H3 T' (.tup [.ref e.2.1,e.2.2])=H4 at s3 s13 P4 S34 ⊢
   obtain ⟨tv,pvv,e5,hq5,hd5⟩:=zae (DV.same s3 _ _ hv2)
   refine ⟨_,rfl,_,rfl,markD e.1,sa,qs,zhj (s3.seqT hk),zsk _,rfl,X1.same s13,λ b hb=>⟨_,rfl,?_⟩⟩
   have hbm:b=true↔e.1∈as:=hb.trans ((hin _).trans zvo)
   cases b with
   | true =>
    refine iteF (iteF (hf ?_ _ S34 P4))
    unfold zzj
    rw [decide_eq_true (hbm.mp rfl)]
    rfl
   | false =>
    have hna:e.1∉as:=λ z=>by have:=hbm.mpr z;cases this
    refine iteT ⟨_,rfl,tv,_,_,_,e5,rfl,hq5,rfl,_,rfl,plc x.2.1,plc low,_,hd5,DV.same s3 _ _ hlow,zga _,zga _,zwe _ _,_,rfl,?_⟩
    have hB:zzj ms low as e.1=pLt low x.2.1:=by
     unfold zzj
     rw [decide_eq_false hna,ex]
     rfl
    cases hlt:pLt low x.2.1 with
    | true=>exact iteT ⟨_,rfl,tv,_,_,_,e5,rfl,hq5,rfl,ht (by rw [hB];exact hlt) _ _ (by rw [ex];exact hd5) S34 P4⟩
    | false=>exact iteF (hf (by rw [hB];exact hlt) _ S34 P4)
  ·intro zs H3 hzs hD3 S3 P3
   have hdv:DVs K H3 ((zof ms low as).map plc) zs:=by
    have:=zcd (f:=λ (e:Ent)=>plc (vOf ms e.1).2.1) hzs
    rw [show ((es.filter λ e=>zzj ms low as e.1).map λ (e:Ent)=>plc (vOf ms e.1).2.1)=(zof ms low as).map plc by rw [← zms he low as,List.map_map];rfl] at this
    exact this
   refine ⟨_,rfl,D,zof ms low as,zs,rfl,SqL.of hD3,hdv,λ e0=>?_,λ i r v hr hv hle=>?_⟩
   ·exact q none .non H3 (S2.trans S3) P3 e0 rfl
   ·obtain ⟨v',hv',hd'⟩:=hdv.get (i:=i) (d:=plc r) (by rw [List.getElem?_map,hr];rfl)
    rw [hv] at hv'
    cases hv'
    exact q (some r) v H3 (S2.trans S3) P3 ⟨List.mem_of_getElem? hr,hle⟩ hd'
theorem sc_q16:FnScope ["clash", "sheet", "beat", "number", "low", "words", "place"] ["clash", "sheet", "beat"] (zia zuv):=by walk_at "sc"
theorem zhy (T:Txt K mg A) (G_q17:zzu P w K mg B A) (G_q0:zfz P w K mg B A):zlt P w K mg B A:=by
 have B_q17:=T.b_q17
 have B_q0:=T.b_q0
 refine T.F_q16.okX sc_q16 (λ vs H Q E h=>?_) (λ _ _ _ _ H vs Q E hr h=>?_)
 ·obtain ⟨_,v,c,p,ms,b,rfl,_⟩:=h
  rfl
 ·obtain ⟨hP,v,c,p,ms,b,rfl,hc,S,ll,q⟩:=h
  refine ⟨_,(zca (zta (i:=3) sc_q16.nd rfl (Or.inl rfl) (zib zxa (pv 0) zba (λ _ _=>rfl)))
   (zca (zrr (zpb zaj (zib zxa (pv 0) zba (λ _ _=>rfl)) (zxb zba) zpc) (znf rfl (zpa (zab (i:=4) sc_q16.nd rfl (Or.inl rfl)) (zpa (zab (i:=5) sc_q16.nd rfl (Or.inl rfl)) zkc))))
   (zca (zta (i:=6) sc_q16.nd rfl (Or.inl rfl) (zra G_q17 (hr.mono (by decide)) rfl T.g_q17 T.k_q17 B_q17 .nil (Wants.passes ztb) (zaa (pv 4) (zaa (zvt (pv 1) T.cl_Sheet T.m_q0 G_q0 (hr.mono (by decide)) B_q0 .nil zmc (zaa (pv 4) (zaa (zgc zda) zda))) (zaa zba (zaa (pv 3) zda))))))
   (zfa (zwa (zoa (zaa (zoa (zaa zba (zaa (pv 3) zda))) (zaa (zoa (zaa (pv 2) (zaa (pv 6) (zaa (pv 5) zda)))) zda)))))))),?_⟩
  obtain ⟨t,mv,sv,av,rfl,ht,hm,hs,ha⟩:=zkm hc
  obtain ⟨tv,pvv,rfl,hqv,hpl⟩:=zae ha
  refine ⟨_,rfl,t,_,_,_,rfl,rfl,ht,rfl,?_⟩
  refine ⟨_,rfl,t,_,_,_,rfl,rfl,ht,rfl,1,rfl,tv,_,rfl,hqv,λ pc H1 h1 s1 pg1=>?_⟩
  have P1:=pg1 hP
  have h1:SqT K H1 pc [pvv,.str c.2.2.2.1.2.2]:=h1
  refine ⟨pc,_,rfl,h1,rfl,_,_,rfl,_,_,rfl,rfl,?_⟩
  have Sh1:=S.same s1
  obtain ⟨dx,_,_,_,hp,_⟩:=id Sh1.ex
  refine ⟨_,rfl,_,rfl,p,dx,_,rfl,hp,rfl,_,rfl,sz_0,λ e2 hp2=>?_⟩
  generalize hH2:upd H1 e2 (HO.lst _)=H2;obtain ⟨s2,P2,h2⟩:=nwL hH2 hp2 P1
  have S2:=s1.trans s2
  refine ⟨P2,p,ms,c.2.2.2.1.2.1,pvv,e2,[],[],rfl,S.same S2,DV.same S2 _ _ hpl,SqL.of h2,rfl,by show 0<300;decide,λ o v3 H3 s3 P3 hl hv3=>?_⟩
  have S3:=S2.trans s3
  refine ⟨_,rfl,P3,(c.2.2.2.1.2.1,o,0,c.1),⟨_,_,rfl,DV.same S3 _ _ hpl,zf0 hv3,ll⟩,λ v4 H4 ⟨_,t4,e4,hd4⟩ s4 P4=>?_,λ C H4 ⟨_,hn⟩=>absurd (zvb hl) hn⟩
  dsimp only at hd4
  dsimp only [zkd,L2.start,List.set,List.map,List.length,List.replicate,List.append,List.cons_append,List.nil_append,Nat.reduceSub,Nat.reduceAdd]
  refine ⟨_,rfl,sz_2,λ t5 hp5=>?_⟩
  generalize hH5:upd H4 t5 (HO.tup _)=H5;obtain ⟨s5,P5,h5⟩:=nwT hH5 hp5 P4
  refine ⟨_,rfl,_,rfl,_,rfl,sz_3,λ t6 hp6=>?_⟩
  generalize hH6:upd H5 t6 (HO.tup _)=H6;obtain ⟨s6,P6,h6⟩:=nwT hH6 hp6 P5
  refine ⟨sz_2,λ t7 hp7=>?_⟩
  generalize hH7:upd H6 t7 (HO.tup _)=H7;obtain ⟨s7,P7,h7⟩:=nwT hH7 hp7 P6
  exact q o _ _ hl ((((S3.trans s4).trans s5).trans s6).trans s7) P7 (zft (m:=(0,c.1)) (SqT.of h7) ((s6.trans s7).seqT (SqT.of h5)) (zaf (v:=zvs b o c) (s7.seqT (SqT.of h6)) (DV.same ((s5.trans s6).trans s7) _ _ hd4)))
theorem zjy:FnScope ["clash", "choice", "sheet", "beat"] ["clash", "choice", "sheet", "beat"] (zia zwy):=by walk_at "sc"
theorem zzv (T:Txt K mg A) (G_q18:zkt P w K mg B A) (G_q7:zoz P w K mg B A) (G_q10:zct P w K mg B A) (G_q16:zlt P w K mg B A):zpr P w K mg B A:=by
 have B_q18:=T.b_q18
 have B_q7:=T.b_q7
 have B_q10:=T.b_q10
 have B_q16:=T.b_q16
 refine T.F_q19.okX zjy (λ vs H Q E h=>?_) (λ _ _ _ _ H vs Q E hr h=>?_)
 ·obtain ⟨_,v,c,z,p,ms,b,rfl,_⟩:=h
  rfl
 ·obtain ⟨hP,v,c,z,p,ms,b,rfl,hc,S,ll,q1,q2,q3⟩:=h
  refine ⟨_,(zca (zoe (zra G_q7 (hr.mono (by decide)) rfl T.g_q7 T.k_q7 B_q7 .nil (Wants.passes ztb) (zaa (pv 1) zda)))
   (zca (zoe (zra G_q10 (hr.mono (by decide)) rfl T.g_q10 T.k_q10 B_q10 .nil (Wants.passes ztb) (zaa (pv 0) (zaa (pv 1) zda))))
   (zca (zuc (zla zcl (pv 1) zya (zua _)) (zfa (zwa (zgc (zaa (zoa (zaa (zib zxa (pv 0) zba (λ _ _=>rfl)) (zaa (zra G_q18 (hr.mono (by decide)) rfl T.g_q18 T.k_q18 B_q18 .nil zmc (zaa (zib zxa (pv 0) zba (λ _ _=>rfl)) (zaa (pv 3) zda))) zda))) zda)))) zsa)
   (zca (zuc (zla zcl (pv 1) zya (zua _)) (zfa (zwa (zgc (zaa (zra G_q16 (hr.mono (by decide)) rfl T.g_q16 T.k_q16 B_q16 .nil (Wants.passes ztb) (zaa (pv 0) (zaa (pv 2) (zaa (pv 3) zda)))) zda)))) zsa)
   (zfa (zwa (zgc zda))))))),?_⟩
  refine ⟨_,rfl,z,rfl,λ hz=>?_,λ hz=>q1 hz _ (Same.refl _) hP⟩
  refine ⟨_,rfl,_,rfl,hP,v,c,z,rfl,hc,λ hb H1 s1 P1=>?_,λ hb H' s' P'=>q2 hz hb H' s' P'⟩
  obtain ⟨qt,qb,qs⟩:=q3 hz hb
  have hc1:=DV.same s1 _ _ hc
  obtain ⟨t,mv,sv,av,rfl,ht,hm,hs,ha⟩:=zkm hc1
  obtain ⟨q0,rfl,hq0⟩:=ztg hm
  refine ⟨_,rfl,rfl,_,rfl,zhl (λ e=>?_) (λ e=>?_)⟩
  ·refine ⟨_,rfl,t,_,_,_,rfl,rfl,ht,rfl,_,rfl,t,_,_,_,rfl,rfl,ht,rfl,_,rfl,P1,c.2.2.2.1,av,b,rfl,ha,λ y H2 s2 P2 hy=>?_⟩
   refine ⟨sz_2,λ t3 hp3=>?_⟩
   generalize hH3:upd H2 t3 (HO.tup _)=H3;obtain ⟨s3,P3,h3⟩:=nwT hH3 hp3 P2
   refine ⟨sz_1,λ l hp4=>?_⟩
   have sl:Same H3 (upd H3 l (.lst [.ref t3])):=zea hp4
   have sa:=(s1.trans s2).trans s3
   exact qt (V.str.inj e) l _ _ (sa.free hp4) (sa.trans sl) P3.lst upd_same ⟨_,_,rfl,zft (sl.seqT (SqT.of h3)) (((s2.trans s3).trans sl).seqT hq0) (DV.same (s3.trans sl) _ _ hy),rfl⟩
  refine ⟨_,rfl,rfl,_,rfl,zhl (λ e2=>?_) (λ e2=>?_)⟩
  ·refine ⟨_,rfl,_,rfl,_,rfl,P1,_,c,p,ms,b,rfl,hc1,S.same s1,ll,λ o y H2 hl s2 P2 hy=>?_⟩
   refine ⟨sz_1,λ l hp4=>?_⟩
   have sl:Same H2 (upd H2 l (.lst [y])):=zea hp4
   exact qb (V.str.inj e2) o hl l _ _ ((s1.trans s2).free hp4) ((s1.trans s2).trans sl) P2.lst upd_same ⟨_,_,rfl,DV.same sl _ _ hy,rfl⟩
  refine ⟨sz_0,λ l hp4=>?_⟩
  exact qs (λ y=>e (by rw [y])) (λ y=>e2 (by rw [y])) l _ _ (s1.free hp4) (s1.trans (zea hp4)) P1.lst upd_same rfl
theorem zt0:FnScope ["_law_script", "_law_k"] ["_law_script", "_law_k"] (zia s_q5):=by walk_at "sc"
theorem zh0 (T:Txt K mg A)  : zzy P w K mg B A:=by
 refine T.F_q5.okN zt0 (λ vs H Q E h=>?_) (λ _ _ _ _ H vs Q E hr h=>?_)
 ·obtain ⟨a,ns,k,rfl,_⟩:=h
  rfl
 ·obtain ⟨a,ns,k,rfl,ha,q⟩:=h
  refine ⟨_,(zca (zuc (zla zm1 (pv 1) (zma zka rfl T.n_len (by decide +kernel) (zaa (pv 0) zda)) (zua _)) (zfa (zwa (zib zme (pv 0) (pv 1) (λ _ _=>rfl)))) zsa)
   (zfa (zwa zba))),?_⟩
  refine ⟨_,rfl,_,rfl,a,_,rfl,.inl ha,_,_,rfl,rfl,_,rfl,?_⟩
  by_cases h:k<ns.length
  ·rw [decide_eq_true (by rw [List.length_map];omega)]
   refine iteT ?_
   refine ⟨_,rfl,_,rfl,a,_,_,_,rfl,rfl,ha,zoi (v:=V.int ns[k]) (by rw [List.getElem?_map,List.getElem?_eq_getElem h];rfl),q _⟩
  ·rw [decide_eq_false (by rw [List.length_map];omega)]
   exact iteF (q 0)
theorem sc_q9:FnScope ["_law_number", "_law_steps", "_law_rest", "_law_k"] ["_law_number"] (zia s_q9):=by walk_at "sc"
theorem zn1 (T:Txt K mg A)  : zkx P w K mg B A:=by
 refine T.F_q9.okN sc_q9 (λ vs H Q E h=>?_) (λ _ _ _ _ H vs Q E hr h=>?_)
 ·obtain ⟨_,n,rfl,_⟩:=h
  rfl
 ·obtain ⟨hP,n,rfl,q⟩:=h
  refine ⟨_,(zca (zta (i:=1) sc_q9.nd rfl (Or.inl rfl) (zgc zda))
   (zca (zta (i:=2) sc_q9.nd rfl (Or.inl rfl) (zqa zeb (pv 0) zba))
   (zca (zbp PassesOwn.never rfl (zso rfl T.n_range (zaa (zqa zyb zba (zqa zhb (pv 0) zba)) zda)) (zab (i:=3) sc_q9.nd rfl (Or.inl rfl)) (zca (zoe (zez PySem.F.plainAttrs_list PySem.F.slot_list_append PySem.F.type_list_append zad (pv 1) (zaa (zoa (zaa (zqa zij (zqa zhb (pv 2) zba) zba) (zaa (zqa zhb (zqa zeb (pv 2) zba) zba) (zaa (zqa zyb zba (zqa zhb (zqa zeb (pv 2) zba) zba)) zda)))) zda)))
   (zfa (zta (i:=2) sc_q9.nd rfl (Or.inl rfl) (zqa zeb (pv 2) zba)))))
   (zca (zuc (zla zcl (zqa zhb (zqa zeb (pv 0) zba) zba) zba (zua _)) (zfa (zrr (zoa (zaa (zqa zij (zqa zhb (pv 2) (zqa zry zba (zqa zko zba zba))) (zqa zko zba zba)) (zaa zba (zaa zba zda)))) (zsx (pv 1) (zp0 zby zba) zns))) zsa)
   (zfa (zwa (zrb zeg rfl T.n_tuple (by decide +kernel) (zaa (pv 1) zda)))))))),?_⟩
  refine ⟨sz_0,λ st hp1=>?_⟩
  have s1:Same H (upd H st (.lst [])):=zea hp1
  have m0:=Int.emod_nonneg n (show (4:Int)≠0 by decide)
  have m1:=Int.emod_lt_of_pos n (show (0:Int)<4 by decide)
  refine ⟨_,rfl,_,_,rfl,rfl,⟨by decide,by decide⟩,?_⟩
  refine ⟨_,rfl,_,_,rfl,rfl,ip_4,_,_,rfl,rfl,_,rfl,by omega,by omega,zin (lo:=0) (n:=(1+n % 4).toNat) (λ i σ H2=>∃ (r:Int) (k:Option V) (xs:List V) (ss:List Stp),σ=[some (.int n),some (.ref st),some (.int r),k]∧Plain H2∧Same H H2∧H2 st=some (.lst xs)∧DVs K H2 (ss.map stp) xs∧ss.length=i)
   ⟨_,_,[],[],rfl,hP.lst,s1,upd_same,rfl,rfl⟩ ?_ ?_⟩
  ·rintro i σ H2 hi ⟨r,k,xs,ss,rfl,P2,S2,hst,hds,hss⟩
   have hxl:xs.length=i:=by rw [hds.length,List.length_map];exact hss
   refine ⟨_,rfl,.inl ⟨rfl,_,SqL.of hst⟩,?_⟩
   refine ⟨_,rfl,_,_,rfl,rfl,ip_5,_,_,rfl,rfl,_,rfl,_,_,rfl,rfl,⟨by decide,by decide⟩,_,_,rfl,rfl,ip_2,_,rfl,_,_,rfl,rfl,⟨by decide,by decide⟩,_,_,rfl,rfl,ip_2,_,_,rfl,rfl,sz_3,λ t hp5=>?_⟩
   dsimp only
   generalize r % 5 - 2=q1
   generalize r / 5 % 2=q2
   generalize 1+r / 10 % 2=q3
   generalize hH5:upd H2 t (HO.tup _)=H5;obtain ⟨s5,P5,h5⟩:=nwT hH5 hp5 P2
   have hst5:=s5 _ _ hst
   refine ⟨st,_,_,rfl,rfl,hst5,zyc (by omega),?_⟩
   have mn:∀ b' o',b'≠st→H5 b'=some o'→(upd H5 st (.lst (xs++[.ref t]))) b'=some o':=λ b' o' hb' e=>by rw [zja hb'];exact e
   refine ⟨_,rfl,_,_,rfl,rfl,⟨by decide,by decide⟩,?_⟩
   refine ⟨_,_,xs++[.ref t],ss++[(q1,q2,q3)],rfl,P5.lst,λ b' o' e=>by rw [zja (zha e hp1)];exact s5 _ _ (S2 b' o' e),upd_same,?_,by rw [List.length_append,hss];rfl⟩
   rw [List.map_append]
   refine DVs.mono (D:=st) mn ⟨_,hst5⟩ _ _ (by rw [← List.map_singleton,← List.map_append];exact zhf _) ?_
   exact (DVs.same s5 _ _ hds).append ⟨_,_,rfl,zdg (SqT.of h5),rfl⟩
  rintro σ H2 ⟨r,k,xs,ss,rfl,P2,S2,hst,hds,hss⟩
  have hsl:1≤ss.length∧ss.length≤4:=by omega
  have hxl:xs.length=ss.length:=by rw [hds.length,List.length_map]
  have fin:∀ (xs:List V) (ss:List Stp) (H3:Hp),ss.length≤4→Plain H3→Same H H3→H3 st=some (.lst xs)→DVs K H3 (ss.map stp) xs→∀ pt,H3 pt=none→Q (.ref pt) (upd H3 pt (.tup xs)):=λ xs ss H3 h4 P3 S3 hst hds pt hpt=>q ss _ _ h4 (S3.trans (zea hpt)) P3.tup ⟨pt,_,rfl,SqT.of upd_same,DVs.same (zea hpt) _ _ hds⟩
  refine ⟨_,rfl,_,_,rfl,rfl,⟨by decide,by decide⟩,_,_,rfl,rfl,ip_7,rfl,_,rfl,zhl (λ _=>?_) (λ _=>?_)⟩
  ·refine ⟨_,rfl,_,_,rfl,rfl,⟨by decide,by decide,by decide⟩,_,_,rfl,rfl,Or.inl ⟨by decide,by decide⟩,_,_,rfl,rfl,(by show (0:Int)<2 * 10 ^ Int.toNat 20;decide +kernel),_,_,rfl,rfl,⟨by decide,by decide,by decide⟩,_,_,rfl,rfl,sz_3,λ t hp5=>?_⟩
   dsimp only
   generalize r % (2 * 10 ^ Int.toNat 20) - 10 ^ Int.toNat 20=q1
   generalize hH5:upd H2 t (HO.tup _)=H5;obtain ⟨s5,P5,h5⟩:=nwT hH5 hp5 P2
   have hst5:=s5 _ _ hst
   refine ⟨_,rfl,_,rfl,st,xs,_,xs.length - 1,rfl,rfl,hst5,?_,?_⟩
   ·unfold ixN
    rw [if_neg (by decide),if_pos (by omega),show ((-1:Int)+(xs.length:Int)).toNat=xs.length - 1 by omega]
   have mn:∀ b' o',b'≠st→H5 b'=some o'→(upd H5 st (.lst (xs.set (xs.length - 1) (.ref t)))) b'=some o':=λ b' o' hb' e=>by rw [zja hb'];exact e
   refine ⟨_,rfl,st,_,rfl,.inl ⟨SqL.of upd_same,λ pt hp6=>?_⟩⟩
   refine fin _ (ss.set (xs.length - 1) (q1,1,1)) _ (by rw [List.length_set];exact hsl.2) P5.lst (λ b' o' e=>by rw [zja (zha e hp1)];exact s5 _ _ (S2 b' o' e)) upd_same ?_ pt hp6
   refine DVs.mono (D:=st) mn ⟨_,hst5⟩ _ _ (zhf _) ?_
   rw [List.map_set]
   exact zcq (DVs.same s5 _ _ hds) (zdg (s:=(q1,1,1)) (SqT.of h5))
  refine ⟨_,rfl,st,xs,rfl,.inl ⟨SqL.of hst,λ pt hp6=>?_⟩⟩
  exact fin xs ss H2 hsl.2 P2 S2 hst hds pt hp6
theorem zvz:FnScope ["_law_number", "_law_beat"] ["_law_number", "_law_beat"] (zia s_q4):=by walk_at "sc"
theorem zj0 (T:Txt K mg A) (G_q9:zkx P w K mg B A):zdz P w K mg B A:=by
 have B_q9:=T.b_q9
 refine T.F_q4.okN zvz (λ vs H Q E h=>?_) (λ _ _ _ _ H vs Q E hr h=>?_)
 ·obtain ⟨_,n,b,rfl,_⟩:=h
  rfl
 ·obtain ⟨hP,n,b,rfl,q⟩:=h
  refine ⟨_,(zca (zuc (zla zcl (zqa zhb (pv 0) zba) zba (zua _)) (zfa (zwa (zoa (zaa (pv 1) (zaa (zoa zda) (zaa zya zda)))))) zsa)
   (zfa (zwa (zoa (zaa (pv 1) (zaa (zra G_q9 (hr.mono (by decide)) rfl T.g_q9 T.k_q9 B_q9 .nil zmc (zaa (zqa zeb (pv 0) zba) zda)) (zaa (zpb ziu zya (zxb (zqa zhb (zqa zeb (pv 0) zba) zba)) zpc) zda))))))),?_⟩
  refine ⟨_,rfl,_,_,rfl,rfl,ip_5,rfl,_,rfl,zhl (λ _=>?_) (λ _=>?_)⟩
  ·refine ⟨_,rfl,sz_0,λ te hp1=>?_⟩
   generalize hH1:upd H te (HO.tup _)=H1;obtain ⟨s1,P1,h1⟩:=nwT hH1 hp1 hP
   refine ⟨sz_3,λ t hp2=>?_⟩
   generalize hH2:upd H1 t (HO.tup _)=H2;obtain ⟨s2,P2,h2⟩:=nwT hH2 hp2 P1
   exact q (b,[], "") _ _ (ztn "") (Nat.zero_le _) (s1.trans s2) P2 (zaf (v:=(b,[], "")) (SqT.of h2) (DV.same s2 _ _ (zqb h1)))
  refine ⟨_,rfl,_,rfl,_,_,rfl,rfl,⟨by decide,by decide⟩,hP,_,rfl,λ pl t1 H1 hpl s1 P1 ht1=>?_⟩
  refine ⟨_,rfl,_,_,rfl,rfl,⟨by decide,by decide⟩,_,_,rfl,rfl,ztz,_,rfl,_,rfl,(by decide +kernel),sz_3,λ t hp2=>?_⟩
  generalize hH2:upd H1 t (HO.tup _)=H2;obtain ⟨s2,P2,h2⟩:=nwT hH2 hp2 P1
  exact q (b,pl,Txt.slice "some words" (some (n / 35 % 11)) none) _ _ (zrm (ztn _) _ _) hpl (s1.trans s2) P2 (zaf (v:=(b,pl,Txt.slice "some words" (some (n / 35 % 11)) none)) (SqT.of h2) (DV.same s2 _ _ ht1))
theorem sc_q13:FnScope ["_law_cells", "_law_pairs", "_law_k", "_law_cell"] ["_law_cells"] (zia zfx):=by walk_at "sc"
theorem zhw (T:Txt K mg A) (G_q4:zdz P w K mg B A):zpt P w K mg B A:=by
 have B_q4:=T.b_q4
 refine T.F_q13.okN sc_q13 (λ vs H Q E h=>?_) (λ _ _ _ _ H vs Q E hr h=>?_)
 ·obtain ⟨_,a,ns,rfl,_⟩:=h
  rfl
 ·obtain ⟨hP,a,ns,rfl,ha,hi,few,q⟩:=h
  refine ⟨_,(zca (zta (i:=1) sc_q13.nd rfl (Or.inl rfl) (zgc zda))
   (zca (zbp PassesOwn.never rfl (zup rfl T.n_enumerate (by decide +kernel) (zaa (pv 0) zda)) (znf rfl (zpa (zab (i:=2) sc_q13.nd rfl (Or.inl rfl)) (zpa (zab (i:=3) sc_q13.nd rfl (Or.inl rfl)) zkc))) (zfa (zoe (zez PySem.F.plainAttrs_list PySem.F.slot_list_append PySem.F.type_list_append zad (pv 1) (zaa (zoa (zaa (zoa (zaa (zqa zyb zba (zqa zeb (pv 2) zba)) (zaa (zqa zyb zba (zqa zhb (pv 2) zba)) zda))) (zaa (zra G_q4 (hr.mono (by decide)) rfl T.g_q4 T.k_q4 B_q4 .nil zmc (zaa (pv 3) (zaa (zqa zyb (pv 2) zba) zda))) zda))) zda)))))
   (zfa (zwa (pv 1))))),?_⟩
  refine ⟨sz_0,λ fl hfl=>?_⟩
  have s1:Same H (upd H fl (.lst [])):=zea hfl
  refine ⟨_,rfl,a,rfl,⟨_,SqL.of (s1 _ _ ha)⟩,?_⟩
  refine zkl (K:=K) (a:=a) (xs:=ns) (λ i σ H2=>∃ (o1 o2:Option V) (ws:List V) (ms:Sh),σ=[some (.ref a),some (.ref fl),o1,o2]∧Plain H2∧Same H H2∧H2 fl=some (.lst ws)∧DVs K H2 (ms.map prD) ws∧ms.length=i∧(∀ m∈ms,okV m.2∧m.2.2.1.length≤4∧1≤m.1.1)∧mks ms=(List.range i).map λ k:Nat=>((1+(k:Int) / 9,1+(k:Int) % 9):Mark))
   ⟨_,_,[],[],rfl,hP.lst,s1,upd_same,rfl,rfl,(λ m h=>by cases h),rfl⟩ (λ i σ H2 _ ⟨_,_,_,_,_,_,s,_⟩=>SqL.of (s _ _ ha)) ?_ ?_
  ·rintro i y T' σ H2 hy ⟨o1,o2,ws,ms,rfl,P2,S2,hf2,hw2,hml,hok,hmk⟩ hT
   have hin:i<ns.length:=(List.getElem?_eq_some_iff.mp hy).1
   obtain ⟨cell,rfl⟩:=hi y (List.mem_of_getElem? hy)
   have hwl:ws.length=ms.length:=by rw [hw2.length,List.length_map]
   refine ⟨T',_,rfl,SqT.of upd_same,rfl,_,_,rfl,_,_,rfl,rfl,?_⟩
   have sT:Same H2 (upd H2 T' (.tup [.int i,.int cell])):=zea hT
   have PT:Plain (upd H2 T' (.tup [.int i,.int cell])):=P2.tup
   generalize upd H2 T' (.tup [.int i,.int cell])=H3 at sT PT ⊢
   refine ⟨_,rfl,.inl ⟨rfl,_,SqL.of (sT _ _ hf2)⟩,?_⟩
   refine ⟨_,rfl,_,_,rfl,rfl,⟨by decide,by decide⟩,_,_,rfl,rfl,_,rfl,_,_,rfl,rfl,ip_9,_,_,rfl,rfl,sz_2,λ t hp4=>?_⟩
   dsimp only
   obtain ⟨m,hm⟩:∃ m:Mark,m=(1+(i:Int) / 9,1+(i:Int) % 9):=⟨_,rfl⟩
   rw [show [V.int (1+(i:Int) / 9),V.int (1+(i:Int) % 9)]=mkV m by rw [hm];rfl]
   generalize hH4:upd H3 t (HO.tup _)=H4;obtain ⟨s4,P4,h4⟩:=nwT hH4 hp4 PT
   refine ⟨_,rfl,_,rfl,_,_,rfl,rfl,P4,cell,(i:Int)+1,rfl,λ v tv H5 okv hv4 s5 P5 htv=>?_⟩
   refine ⟨sz_2,λ t6 hp6=>?_⟩
   generalize hH6:upd H5 t6 (HO.tup _)=H6;obtain ⟨s6,P6,h6⟩:=nwT hH6 hp6 P5
   have S36:=(s4.trans s5).trans s6
   have hf6:=S36 _ _ (sT _ _ hf2)
   refine ⟨fl,_,_,rfl,rfl,hf6,zyc (by omega),?_⟩
   have mn:∀ b' o',b'≠fl→H6 b'=some o'→(upd H6 fl (.lst (ws++[.ref t6]))) b'=some o':=λ b' o' hb' e=>by rw [zja hb'];exact e
   refine ⟨_,_,ws++[.ref t6],ms++[(m,v)],rfl,P6.lst,λ b' o' e=>by rw [zja (zha e hfl)];exact S36 _ _ (sT _ _ (S2 b' o' e)),upd_same,?_,by rw [List.length_append,hml];rfl,λ y hy=>?_,?_⟩
   ·rw [List.map_append]
    refine DVs.mono (D:=fl) mn ⟨_,hf6⟩ _ _ (by rw [← List.map_singleton,← List.map_append];exact zqq _) ?_
    exact (DVs.same (sT.trans S36) _ _ hw2).append ⟨_,_,rfl,zft (SqT.of h6) ((s5.trans s6).seqT (SqT.of h4)) (DV.same s6 _ _ htv),rfl⟩
   ·rcases List.mem_append.mp hy with hy | hy
    ·exact hok y hy
    ·rw [List.mem_singleton.mp hy]
     exact ⟨okv,hv4,by show 1≤m.1;rw [hm];show 1≤1+(i:Int) / 9;omega⟩
   ·unfold mks at hmk ⊢
    rw [List.map_append,hmk,List.range_succ,List.map_append,hm]
    rfl
  rintro σ H2 ⟨o1,o2,ws,ms,rfl,P2,S2,hf2,hw2,hml,hok,hmk⟩
  refine ⟨_,rfl,q fl ws ms H2 S2 P2 hf2 hw2 ⟨?_,λ m h=>(hok m h).1,λ m h=>(hok m h).2.1,λ m h=>(hok m h).2.2,by omega⟩ hml⟩
  rw [hmk]
  refine List.pairwise_map.mpr (List.nodup_range.imp fun {x y} hne e=>hne ?_)
  have e1:1+(x:Int) / 9=1+(y:Int) / 9:=congrArg Prod.fst e
  have e2:1+(x:Int) % 9=1+(y:Int) % 9:=congrArg Prod.snd e
  omega
theorem sc_q12:FnScope ["_law_pairs", "_law_number", "_law_way", "_law_rest", "_law_mark", "_law_version_here", "_law_place_here"] ["_law_pairs", "_law_number"] (zia ziw):=by walk_at "sc"
theorem zzx (T:Txt K mg A) (G_q9:zkx P w K mg B A):zmu P w K mg B A:=by
 have B_q9:=T.b_q9
 refine T.F_q12.okN sc_q12 (λ vs H Q E h=>?_) (λ _ _ _ _ H vs Q E hr h=>?_)
 ·obtain ⟨_,l,ws,ms,n,rfl,_⟩:=h
  rfl
 ·obtain ⟨hP,l,ws,ms,n,rfl,hl,hw,G,mne,q⟩:=h
  refine ⟨_,(zca (zta (i:=2) sc_q12.nd rfl (Or.inl rfl) (zqa zhb (pv 1) zba))
   (zca (zta (i:=3) sc_q12.nd rfl (Or.inl rfl) (zqa zeb (pv 1) zba))
   (zca (zrr (zib zme (pv 0) (zqa zhb (pv 3) (zma zka rfl T.n_len (by decide +kernel) (zaa (pv 0) zda))) (λ _ _=>rfl)) (znf rfl (zpa (zab (i:=4) sc_q12.nd rfl (Or.inl rfl)) (zpa (zab (i:=5) sc_q12.nd rfl (Or.inl rfl)) zkc))))
   (zca (zta (i:=6) sc_q12.nd rfl (Or.inl rfl) (zib zxa (pv 5) zba (λ _ _=>rfl)))
   (zca (zta (i:=3) sc_q12.nd rfl (Or.inl rfl) (zqa zeb (pv 3) (zma zka rfl T.n_len (by decide +kernel) (zaa (pv 0) zda))))
   (zca (zuc (zla zcl (pv 2) zba (zua _)) (zfa (zwa (zoa (zaa (zqa zyb zba (zqa zhb (pv 3) zba)) (zaa (zoa zda) (zaa zya zda)))))) zsa)
   (zca (zuc (PW.pt (zqh (zla zcl (pv 2) zba (zua _)) (zwd (zla zl0 (zma zka rfl T.n_len (by decide +kernel) (zaa (pv 6) zda)) zba (zua _))))) (zfa (zta (i:=6) sc_q12.nd rfl (Or.inl rfl) (zpb zaj (pv 6) zpc (zxb (zqa zyb zba (zqa zhb (pv 3) (zqa zij (zma zka rfl T.n_len (by decide +kernel) (zaa (pv 6) zda)) zba))))))) (zfa (zuc (zla zcl (pv 2) zba (zua _)) (zfa (zta (i:=6) sc_q12.nd rfl (Or.inl rfl) (zqa zlk (pv 6) (zoa (zaa (zoa (zaa (zqa zij (zqa zhb (pv 3) zba) zba) (zaa zba (zaa (zqa zyb zba (zqa zhb (zqa zeb (pv 3) zba) zba)) zda)))) zda))))) (zfa (zuc (PW.pt (zsv (zla zcl (pv 2) zba (zua _)) (zto (zla (zvl hr.units) (pv 6) (zoa zda) (zua _))))) (zfa (zta (i:=6) sc_q12.nd rfl (Or.inl rfl) (zra G_q9 (hr.mono (by decide)) rfl T.g_q9 T.k_q9 B_q9 .nil zmc (zaa (pv 3) zda)))) zsa)))))
   (zfa (zwa (zoa (zaa (zqa zyb zba (zqa zhb (pv 3) zba)) (zaa (pv 6) (zaa (zpb ziu zya (zxb (zqa zhb (pv 3) zba)) zpc) zda))))))))))))),?_⟩
  have hwl:ws.length=ms.length:=by rw [hw.length,List.length_map]
  have hml:0<ms.length:=List.length_pos_iff.mpr mne
  have gfew:=G.few
  refine ⟨_,rfl,_,_,rfl,rfl,ip_5,?_⟩
  refine ⟨_,rfl,_,_,rfl,rfl,⟨by decide,by decide⟩,?_⟩
  dsimp only
  generalize n % 5=wy
  generalize n / 5=re
  have k0:=Int.emod_nonneg re (show (ws.length:Int)≠0 by omega)
  have k1:=Int.emod_lt_of_pos re (show (0:Int)<ws.length by omega)
  obtain ⟨i,hi⟩:∃ i:Nat,re % (ws.length:Int)=i:=⟨_,(Int.toNat_of_nonneg k0).symm⟩
  refine ⟨_,rfl,_,rfl,_,rfl,l,ws,rfl,.inl (SqL.of hl),_,_,rfl,rfl,by omega,?_⟩
  dsimp only
  rw [hi] at k1 ⊢
  have him:i<ms.length:=by omega
  obtain ⟨y,hy,hyd⟩:=hw.get (i:=i) (d:=prD ms[i]) (by rw [List.getElem?_map,List.getElem?_eq_getElem him];rfl)
  obtain ⟨t,q0,vx,rfl,hq,hq0,hvx⟩:=zjp hyd
  obtain ⟨tv,pvv,rfl,hqv,hpl⟩:=zae hvx
  obtain ⟨tp,xs,rfl,htp,hxs⟩:=id hpl
  have p4:=G.sh ms[i] (List.getElem_mem him)
  have hxl:xs.length=ms[i].2.2.1.length:=by rw [hxs.length,List.length_map]
  refine ⟨l,ws,_,_,rfl,rfl,SqL.of hl,zoi hy,t,_,rfl,hq,rfl,_,_,rfl,_,_,rfl,rfl,?_⟩
  refine ⟨_,rfl,tv,_,_,_,rfl,rfl,hqv,rfl,?_⟩
  refine ⟨_,rfl,_,rfl,l,ws,rfl,.inl (SqL.of hl),_,_,rfl,rfl,⟨by omega,by omega⟩,?_⟩
  dsimp only
  generalize re / (ws.length:Int)=re
  dsimp only [zkd,L2.start,List.set,List.map,List.length,List.replicate,List.append,List.cons_append,List.nil_append,Nat.reduceSub,Nat.reduceAdd]
  refine ⟨_,rfl,rfl,_,rfl,zhl (λ w0=>?_) (λ w0=>?_)⟩
  ·refine ⟨_,rfl,_,_,rfl,rfl,zlz,_,_,rfl,rfl,sz_0,λ te hp1=>?_⟩
   dsimp only
   generalize 1+re % 40=bt
   generalize hH1:upd H te (HO.tup _)=H1;obtain ⟨s1,P1,h1⟩:=nwT hH1 hp1 hP
   refine ⟨sz_3,λ t2 hp2=>?_⟩
   generalize hH2:upd H1 t2 (HO.tup _)=H2;obtain ⟨s2,P2,h2⟩:=nwT hH2 hp2 P1
   exact q (bt,[], "") _ _ (ztn "") (Nat.zero_le _) (s1.trans s2) P2 (zaf (v:=(bt,[], "")) (SqT.of h2) (DV.same s2 _ _ (zqb h1)))
  apply zyy (α:=V) (β:=Hp) (ok:=λ pv H'=>Plain H'∧Same H H'∧∃ pl:List Stp,pl.length≤10∧DV K H' (plc pl) pv)
  ·intro go
   refine ⟨_,rfl,rfl,_,rfl,zhl (λ w1=>?_) (λ w1=>?_)⟩
   ·refine ⟨_,rfl,tp,xs,rfl,.inr htp,_,_,rfl,rfl,_,rfl,?_⟩
    by_cases h1:1<xs.length
    ·rw [decide_eq_true (show (1:Int)<xs.length by omega)]
     refine iteT ?_
     have j0:=Int.emod_nonneg re (show (xs.length:Int) - 1≠0 by omega)
     refine ⟨_,rfl,_,rfl,_,rfl,tp,xs,rfl,.inr htp,_,_,rfl,rfl,_,_,rfl,rfl,by omega,_,_,rfl,rfl,_,rfl,tp,xs,rfl,htp,λ pc Hc hc sc pg=>?_⟩
     rw [zgf (by omega)] at hc
     obtain ⟨pv,hpv⟩:∃ pv,pv=V.ref pc:=⟨_,rfl⟩
     rw [← hpv]
     exact go pv Hc ⟨pg hP,sc,ms[i].2.2.1.take (1+re % ((xs.length:Int) - 1)).toNat,by rw [List.length_take];omega,pc,_,hpv,hc,by rw [List.map_take];exact (DVs.same sc _ _ hxs).take _⟩
    ·rw [decide_eq_false (show ¬ (1:Int)<xs.length by omega)]
     refine iteF ?_
     refine ⟨_,rfl,rfl,_,rfl,zhl (λ w2=>?_) (λ w2=>?_)⟩
     ·refine ⟨_,rfl,_,rfl,_,_,rfl,rfl,ip_7,_,_,rfl,rfl,_,rfl,_,_,rfl,rfl,⟨by decide,by decide⟩,_,_,rfl,rfl,ip_3,_,_,rfl,rfl,sz_3,λ ta hpa=>?_⟩
      dsimp only
      generalize re % 7 - 3=c1
      generalize 1+re / 7 % 3=c2
      generalize hHa:upd H ta (HO.tup _)=Ha;obtain ⟨sa,Pa,ha⟩:=nwT hHa hpa hP
      refine ⟨sz_1,λ tb hpb=>?_⟩
      generalize hHb:upd Ha tb (HO.tup _)=Hb;obtain ⟨sb,Pb,hb⟩:=nwT hHb hpb Pa
      have Sb:=sa.trans sb
      refine ⟨tp,tb,_,_,rfl,rfl,Sb.seqT htp,SqT.of hb,sm1 ((by show xs.length+1≤1000;omega)),λ tc Hc hc sc pc=>?_⟩
      exact go _ Hc ⟨pc Pb,Sb.trans sc,ms[i].2.2.1++[(c1,1,c2)],by rw [List.length_append];show ms[i].2.2.1.length+1≤10;omega,tc,_,rfl,hc,by rw [List.map_append];exact (DVs.same (Sb.trans sc) _ _ hxs).append ⟨_,_,rfl,zdg (s:=(c1,1,c2)) ((sb.trans sc).seqT (SqT.of ha)),rfl⟩⟩
     refine ⟨_,rfl,rfl,_,rfl,zhl (λ w3=>?_) (λ w3=>?_)⟩
     ·refine iteT ?_
      refine ⟨_,rfl,hP,_,rfl,λ pl t1 H1 hp4 s1 P1 ht1=>?_⟩
      exact go t1 H1 ⟨P1,s1,pl,by omega,ht1⟩
     refine ⟨_,rfl,sz_0,λ te hpe=>?_⟩
     generalize hHe:upd H te (HO.tup _)=He;obtain ⟨se,Pe,he⟩:=nwT hHe hpe hP
     refine ⟨plc ms[i].2.2.1,plc [],⟨tp,xs,rfl,se.seqT htp,DVs.same se _ _ hxs⟩,zqb he,zga _,zga _,_,rfl,?_⟩
     rw [zec]
     by_cases hr0:ms[i].2.2.1=[]
     ·rw [decide_eq_true hr0]
      refine iteT ?_
      refine ⟨_,rfl,Pe,_,rfl,λ pl t1 H1 hp4 s1 P1 ht1=>?_⟩
      exact go t1 H1 ⟨P1,se.trans s1,pl,by omega,ht1⟩
     ·rw [decide_eq_false hr0]
      exact iteF (go _ He ⟨Pe,se,ms[i].2.2.1,by omega,tp,xs,rfl,se.seqT htp,DVs.same se _ _ hxs⟩)
   ·refine iteF ?_
    refine ⟨_,rfl,rfl,_,rfl,zhl (λ w2=>?_) (λ w2=>?_)⟩
    ·refine ⟨_,rfl,_,rfl,_,_,rfl,rfl,ip_7,_,_,rfl,rfl,_,rfl,_,_,rfl,rfl,⟨by decide,by decide⟩,_,_,rfl,rfl,ip_3,_,_,rfl,rfl,sz_3,λ ta hpa=>?_⟩
     dsimp only
     generalize re % 7 - 3=c1
     generalize 1+re / 7 % 3=c2
     generalize hHa:upd H ta (HO.tup _)=Ha;obtain ⟨sa,Pa,ha⟩:=nwT hHa hpa hP
     refine ⟨sz_1,λ tb hpb=>?_⟩
     generalize hHb:upd Ha tb (HO.tup _)=Hb;obtain ⟨sb,Pb,hb⟩:=nwT hHb hpb Pa
     have Sb:=sa.trans sb
     refine ⟨tp,tb,_,_,rfl,rfl,Sb.seqT htp,SqT.of hb,sm1 ((by show xs.length+1≤1000;omega)),λ tc Hc hc sc pc=>?_⟩
     exact go _ Hc ⟨pc Pb,Sb.trans sc,ms[i].2.2.1++[(c1,1,c2)],by rw [List.length_append];show ms[i].2.2.1.length+1≤10;omega,tc,_,rfl,hc,by rw [List.map_append];exact (DVs.same (Sb.trans sc) _ _ hxs).append ⟨_,_,rfl,zdg (s:=(c1,1,c2)) ((sb.trans sc).seqT (SqT.of ha)),rfl⟩⟩
    refine ⟨_,rfl,rfl,_,rfl,zhl (λ w3=>?_) (λ w3=>?_)⟩
    ·refine iteT ?_
     refine ⟨_,rfl,hP,_,rfl,λ pl t1 H1 hp4 s1 P1 ht1=>?_⟩
     exact go t1 H1 ⟨P1,s1,pl,by omega,ht1⟩
    refine ⟨_,rfl,sz_0,λ te hpe=>?_⟩
    generalize hHe:upd H te (HO.tup _)=He;obtain ⟨se,Pe,he⟩:=nwT hHe hpe hP
    refine ⟨plc ms[i].2.2.1,plc [],⟨tp,xs,rfl,se.seqT htp,DVs.same se _ _ hxs⟩,zqb he,zga _,zga _,_,rfl,?_⟩
    rw [zec]
    by_cases hr0:ms[i].2.2.1=[]
    ·rw [decide_eq_true hr0]
     refine iteT ?_
     refine ⟨_,rfl,Pe,_,rfl,λ pl t1 H1 hp4 s1 P1 ht1=>?_⟩
     exact go t1 H1 ⟨P1,se.trans s1,pl,by omega,ht1⟩
    ·rw [decide_eq_false hr0]
     exact iteF (go _ He ⟨Pe,se,ms[i].2.2.1,by omega,tp,xs,rfl,se.seqT htp,DVs.same se _ _ hxs⟩)
  rintro pv H5 ⟨P5,S5,pl,hp10,hpv⟩
  refine ⟨_,rfl,_,_,rfl,rfl,zlz,_,_,rfl,rfl,_,rfl,_,rfl,_,_,rfl,rfl,zs0,_,rfl,_,rfl,(by decide +kernel),sz_3,λ t6 hp6=>?_⟩
  dsimp only
  generalize 1+re % 40=bt
  generalize re % 15=cu
  generalize hH6:upd H5 t6 (HO.tup _)=H6;obtain ⟨s6,P6,h6⟩:=nwT hH6 hp6 P5
  exact q (bt,pl,Txt.slice "aside it stood" (some cu) none) _ _ (zrm (ztn _) _ _) hp10 (S5.trans s6) P6 (zaf (v:=(bt,pl,Txt.slice "aside it stood" (some cu) none)) (SqT.of h6) (DV.same s6 _ _ hpv))
theorem sc_q8:FnScope ["_law_pairs", "_law_place_here", "_law_found", "_law_mark", "_law_version_here"] ["_law_pairs", "_law_place_here"] (zia s_q8):=by walk_at "sc"
theorem zc0 (T:Txt K mg A)  : zkz P w K mg B A:=by
 refine T.F_q8.okN sc_q8 (λ vs H Q E h=>?_) (λ _ _ _ _ H vs Q E hr h=>?_)
 ·obtain ⟨_,l,ws,ms,low,lv,rfl,_⟩:=h
  rfl
 ·obtain ⟨hP,l,ws,ms,low,lv,rfl,hl,hw,G,hlv,q⟩:=h
  refine ⟨_,(zca (zta (i:=2) sc_q8.nd rfl (Or.inl rfl) zvj)
   (zca (zbp PassesOwn.never rfl (zok (pv 0)) (znf rfl (zpa (zab (i:=3) sc_q8.nd rfl (Or.inl rfl)) (zpa (zab (i:=4) sc_q8.nd rfl (Or.inl rfl)) zkc))) (zfa (zuc (PW.pt (zqh (zla (zmh hr.units) (zib zxa (pv 4) zba (λ _ _=>rfl)) (zoa zda) (zua _)) (zwd (zla (zgv hr.u100) (pv 1) (zib zxa (pv 4) zba (λ _ _=>rfl)) (zua _))))) (zfa (zuc (PW.pt (zsv (zla zit (pv 2) zvj (zua _)) (zto (zla (zgv hr.u100) (zib zxa (pv 4) zba (λ _ _=>rfl)) (pv 2) (zua _))))) (zfa (zta (i:=2) sc_q8.nd rfl (Or.inl rfl) (zib zxa (pv 4) zba (λ _ _=>rfl)))) zsa)) zsa)))
   (zfa (zwa (pv 2))))),?_⟩
  have hwl:ws.length=ms.length:=by rw [hw.length,List.length_map]
  refine ⟨_,rfl,l,rfl,⟨_,SqL.of hl⟩,zrs (K:=K) (a:=l) (xs:=ws) (λ i σ H2=>∃ (fv:V) (o3 o4:Option V) (o:Option (List Stp)),σ=[some (.ref l),some lv,some fv,o3,o4]∧Plain H2∧Same H H2∧Least (hsT ms low i) o∧DV K H2 (hiD o) fv)
   ⟨.non,_,_,none,rfl,hP,Same.refl _,rfl,rfl⟩ (λ i σ H2 _ ⟨_,_,_,_,_,_,s,_⟩=>SqL.of (s _ _ hl)) ?_ ?_⟩
  ·rintro i y σ H2 hy ⟨fv,o3,o4,o,rfl,P2,S2,hle,hfv⟩
   have hi:i<ms.length:=by rw [← hwl];exact (List.getElem?_eq_some_iff.mp hy).1
   obtain ⟨y',hy',hyd⟩:=(DVs.same S2 _ _ hw).get (i:=i) (d:=prD ms[i]) (by rw [List.getElem?_map,List.getElem?_eq_getElem hi];rfl)
   rw [hy] at hy'
   cases hy'
   obtain ⟨t,q0,vx,rfl,hq,hq0,hvx⟩:=zjp hyd
   obtain ⟨tv,pvv,rfl,hqv,hpl⟩:=zae hvx
   refine ⟨t,_,rfl,hq,rfl,_,_,rfl,_,_,rfl,rfl,?_⟩
   refine ⟨_,rfl,tv,_,_,_,rfl,rfl,hqv,rfl,sz_0,λ te hp3=>?_⟩
   generalize hH3:upd H2 te (HO.tup _)=H3;obtain ⟨s3,P3,h3⟩:=nwT hH3 hp3 P2
   have S3:=S2.trans s3
   have skip:pLt low ms[i].2.2.1=false→∀ {s4:Option V} {s5:Option V},∃ (fv':V) (o3 o4:Option V) (o:Option (List Stp)),[some (.ref l),some lv,some fv,s4,s5]=[some (.ref l),some lv,some fv',o3,o4]∧Plain H3∧Same H H3∧Least (hsT ms low (i+1)) o∧DV K H3 (hiD o) fv':=λ e s4 s5=>⟨fv,_,_,o,rfl,P3,S3,by rw [zfn low hi,e];simpa using hle,DV.same s3 _ _ hfv⟩
   refine ⟨plc ms[i].2.2.1,plc [],DV.same s3 _ _ hpl,zqb h3,zga _,zga _,_,rfl,?_⟩
   rw [zec]
   by_cases hr0:ms[i].2.2.1=[]
   ·rw [decide_eq_true hr0]
    exact iteF (iteF (skip (by rw [hr0,zcu])))
   rw [decide_eq_false hr0]
   refine iteT ?_
   refine ⟨_,rfl,_,rfl,tv,_,_,_,rfl,rfl,s3.seqT hqv,rfl,plc low,plc ms[i].2.2.1,_,DV.same S3 _ _ hlv,DV.same s3 _ _ hpl,zga _,zga _,zwe _ _,_,rfl,?_⟩
   cases hlt:pLt low ms[i].2.2.1 with
   | false=>exact iteF (skip hlt)
   | true =>
    refine iteT ?_
    have hsn:hsT ms low (i+1)=hsT ms low i++[ms[i].2.2.1]:=by rw [zfn low hi,hlt,if_pos rfl]
    obtain ⟨ln,ls⟩:=zpm hle ms[i].2.2.1
    have put:Least (hsT ms low (i+1)) (some ms[i].2.2.1)→∀ {s4:Option V} {s5:Option V},∃ (fv':V) (o3 o4:Option V) (o:Option (List Stp)),[some (.ref l),some lv,some pvv,s4,s5]=[some (.ref l),some lv,some fv',o3,o4]∧Plain H3∧Same H H3∧Least (hsT ms low (i+1)) o∧DV K H3 (hiD o) fv':=λ e s4 s5=>⟨pvv,_,_,some ms[i].2.2.1,rfl,P3,S3,e,DV.same s3 _ _ hpl⟩
    cases o with
    | none =>
     refine ⟨_,rfl,rfl,_,rfl,zjz (show fv = .non from hfv) (iteT ?_)⟩
     exact ⟨_,rfl,tv,_,_,_,rfl,rfl,s3.seqT hqv,rfl,put (by rw [hsn];exact ln rfl)⟩
    | some h =>
     have hv2g:DV K H3 (plc h) fv:=DV.same s3 _ _ hfv
     refine ⟨_,rfl,rfl,_,rfl,zgz (λ z=>by obtain ⟨_,_,e,_⟩:=hv2g;rw [e] at z;cases z) ?_⟩
     refine ⟨_,rfl,tv,_,_,_,rfl,rfl,s3.seqT hqv,rfl,_,rfl,plc ms[i].2.2.1,plc h,_,DV.same s3 _ _ hpl,hv2g,zga _,zga _,zwe _ _,_,rfl,?_⟩
     cases hlh:pLt ms[i].2.2.1 h with
     | true =>
      refine iteT ?_
      exact ⟨_,rfl,tv,_,_,_,rfl,rfl,s3.seqT hqv,rfl,put (by rw [hsn];exact (ls h rfl).1 hlh)⟩
     | false=>exact iteF ⟨fv,_,_,some h,rfl,P3,S3,by rw [hsn];exact (ls h rfl).2 hlh,hv2g⟩
  rintro σ H2 ⟨fv,o3,o4,o,rfl,P2,S2,hle,hfv⟩
  rw [hwl] at hle
  exact ⟨_,rfl,q o fv H2 (zkn (zyu G.nd low) hle) S2 P2 hfv⟩
theorem sc_q14:FnScope ["_law_pairs", "_law_clash", "_law_beat", "_law_told", "_law_place_here", "_law_least_here", "_law_rank", "_law_made", "_law_ahead", "_law_lines"] ["_law_pairs", "_law_clash", "_law_beat", "_law_told"] (zia zex):=by walk_at "sc"
theorem zny (T:Txt K mg A) (G_q1:zax P w K mg B A) (G_q2:zqz P w K mg B A) (G_q8:zkz P w K mg B A):zwu P w K mg B A:=by
 have B_q1:=T.b_q1
 have B_q2:=T.b_q2
 have B_q8:=T.b_q8
 refine T.F_q14.okN sc_q14 (λ vs H Q E h=>?_) (λ _ _ _ _ H vs Q E hr h=>?_)
 ·obtain ⟨_,l,ws,ms,v,c,b,lt,wt,o,rfl,_⟩:=h
  rfl
 ·obtain ⟨hP,l,ws,ms,v,c,b,lt,wt,o,rfl,hl,hw,G,hc,okc,c10,hlt,hle,hwt,q⟩:=h
  refine ⟨_,(zca (zta (i:=4) sc_q14.nd rfl (Or.inr rfl) (zib zxa (zib zxa (pv 1) zba (λ _ _=>rfl)) zba (λ _ _=>rfl)))
   (zca (zta (i:=5) sc_q14.nd rfl (Or.inl rfl) (zra G_q8 (hr.mono (by decide)) rfl T.g_q8 T.k_q8 B_q8 .nil zmc (zaa (pv 0) (zaa (pv 4) zda))))
   (zca (zta (i:=6) sc_q14.nd rfl (Or.inl rfl) zba)
   (zca (zuc (PW.pt (zqh (zla zsp (pv 5) zvj (zua _)) (zwd (zla (zvl hr.units) (zpb zaj (pv 5) zpc (zxb (zma zka rfl T.n_len (by decide +kernel) (zaa (pv 4) zda)))) (pv 4) (zua _))))) (zfa (zta (i:=6) sc_q14.nd rfl (Or.inl rfl) (zqa zij (zib zxa (zib zxa (pv 5) (zma zka rfl T.n_len (by decide +kernel) (zaa (pv 4) zda)) (λ _ _=>rfl)) zba (λ _ _=>rfl)) zba))) zsa)
   (zca (zta (i:=7) sc_q14.nd rfl (Or.inl rfl) (zqa zlk (pv 4) (zoa (zaa (zoa (zaa (pv 6) (zaa zba (zaa (zib zxa (pv 1) zba (λ _ _=>rfl)) zda)))) zda))))
   (zca (zuc (zla (zmh hr.units) (pv 3) (zgc (zaa (zoa (zaa (zoa (zaa zba (zaa (zib zxa (pv 1) zba (λ _ _=>rfl)) zda))) (zaa (zoa (zaa (pv 2) (zaa (pv 7) (zaa (zib zxa (zib zxa (pv 1) zba (λ _ _=>rfl)) zba (λ _ _=>rfl)) zda)))) zda))) zda)) (zua _)) (zfa (zwa zus)) zsa)
   (zca (zta (i:=8) sc_q14.nd rfl (Or.inl rfl) (zma zka rfl T.n_len (by decide +kernel) (zaa (zeq ["_law_mark", "_law_version_here", "_law_place_here"] 2 [4] rfl (zok (pv 0)) gk2 (λ _ _ _ _ _=>znf rfl (zpa (zab (i:=0) (show List.Nodup (["_law_mark", "_law_version_here", "_law_place_here"]:List Str) by decide +kernel) rfl (Or.inl rfl)) (zpa (zab (i:=1) (show List.Nodup (["_law_mark", "_law_version_here", "_law_place_here"]:List Str) by decide +kernel) rfl (Or.inl rfl)) zkc))) (λ _ _ _ _ _=>zjk (PW.pt (zqh (zla (zjt (K:=K) rfl hr.units) (zib (zpe (K:=K) rfl) (pv 1) zba (λ _ _=>rfl)) (zoa zda) (zua _)) (zwd (zla (zvu (K:=K) rfl hr.u100) (zib (zpe (K:=K) rfl) (pv 1) zba (λ _ _=>rfl)) (pv 2) (zua _)))))) (λ _ _ _ _ _=>(pv 0))) zda)))
   (zca (zta (i:=9) sc_q14.nd rfl (Or.inl rfl) (zoh (zen T.mk_Sheet G_q1 (hr.mono (by decide)) rfl T.g_Sheet B_q1 .nil zmc (zaa (pv 0) zda)) T.cl_Sheet T.m_q2 G_q2 (hr.mono (by decide)) B_q2 .nil zmc))
   (zfa (zwa (zgg (zvl hr.units) (zoh (zen T.mk_Sheet G_q1 (hr.mono (by decide)) rfl T.g_Sheet B_q1 .nil zmc (zaa (zqa zgp (pv 0) (pv 3)) zda)) T.cl_Sheet T.m_q2 G_q2 (hr.mono (by decide)) B_q2 .nil zmc) (zqa zgp (zqa zgp (zpb zik (pv 9) zpc (zxb (pv 8))) (zgc (zaa (zoa (zaa (zoa (zaa zba (zaa (zib zxa (pv 1) zba (λ _ _=>rfl)) zda))) (zaa (zib zxa (zib zxa (pv 1) zba (λ _ _=>rfl)) zba (λ _ _=>rfl)) zda))) zda))) (zpb zik (pv 9) (zxb (pv 8)) zpc)) (zua _)))))))))))),?_⟩
  have hwl:ws.length=ms.length:=by rw [hw.length,List.length_map]
  have gfew:=G.few
  obtain ⟨t,mv,sv,av,rfl,ht,hm,hs,ha⟩:=zkm hc
  obtain ⟨tv,pvv,rfl,hqv,hpl⟩:=zae ha
  obtain ⟨low,hlow⟩:∃ low,low=c.2.2.2.1.2.1:=⟨_,rfl⟩
  rw [← hlow] at hpl c10 hle
  refine ⟨_,rfl,t,_,_,_,rfl,rfl,ht,rfl,tv,_,_,_,rfl,rfl,hqv,rfl,?_⟩
  refine ⟨_,rfl,_,rfl,hP,l,ws,ms,low,pvv,rfl,hl,hw,G,hpl,λ o1 lv H1 hl1 s1 P1 hlv=>?_⟩
  obtain rfl:o=o1:=hle.one hl1
  have ht1:=s1.seqT ht
  have hqv1:=s1.seqT hqv
  have hpl1:=DV.same s1 _ _ hpl
  obtain ⟨p,xs,rfl,hq,hxs⟩:=id hpl1
  have hxl:xs.length=low.length:=by rw [hxs.length,List.length_map]
  dsimp only [zkd,L2.start,List.set,List.map,List.length,List.replicate,List.append,List.cons_append,List.nil_append,Nat.reduceSub,Nat.reduceAdd]
  apply zyy (α:=Int) (β:=Hp) (ok:=λ rk H'=>Plain H'∧Same H1 H'∧rk=zyi low o)
  ·intro go
   have hcase:(∃ h,o=some h) ∨ o=none:=by cases o with | none=>exact .inr rfl | some h=>exact .inl ⟨h,rfl⟩
   rcases hcase with ⟨h,hn⟩ | hn
   ·have hlv':DV K H1 (plc h) lv:=by rw [hn] at hlv;exact hlv
    obtain ⟨ph,ys,elv,hqh,hdh⟩:=id hlv'
    have hyl:ys.length=h.length:=by rw [hdh.length,List.length_map]
    have hpl2:pLt low h=true:=zvb hle h hn
    refine ⟨_,rfl,rfl,_,rfl,?_⟩
    rw [decide_eq_false (show ¬ lv=V.non by rw [elv];intro z;cases z)]
    refine iteT ?_
    refine ⟨_,rfl,_,rfl,p,_,rfl,.inr hq,_,rfl,ph,ys,elv,hqh,λ p1 G1 g1 s2 pg1=>?_⟩
    have PG1:=pg1 P1
    rw [zgf (by omega),Int.toNat_natCast,hxl] at g1
    have d1:DV K G1 (plc (h.take low.length)) (.ref p1):=⟨p1,_,rfl,g1,by rw [List.map_take];exact (DVs.same s2 _ _ hdh).take _⟩
    refine ⟨_,rfl,plc (h.take low.length),plc low,d1,DV.same s2 _ _ hpl1,zga _,zga _,_,rfl,?_⟩
    rw [zec]
    by_cases heq:h.take low.length=low
    ·rw [decide_eq_true heq]
     refine iteT ?_
     obtain ⟨s0,r0,eh⟩:=zis hpl2 heq
     have e0:zyi low (some h)=s0.1 - 1:=by
      show (if h.take low.length=low then ((h[low.length]?).getD (0,0,0)).1 - 1 else 0)=s0.1 - 1
      rw [if_pos heq,eh]
      simp
     obtain ⟨t0,ht0,hq0⟩:=zli (DVs.same s2 _ _ hdh) (i:=low.length) (by rw [eh];simp)
     have es:h[low.length]'(by rw [eh];simp)=s0:=by simp [eh]
     rw [es] at hq0
     refine ⟨_,rfl,_,rfl,p,_,rfl,.inr (s2.seqT hq),?_⟩
     have ixl:∀ (i:V) (G:Hp) (R:VK),rIxT K (.ref ph) i G R→rIxT K lv i G R:=λ i G R z=>by rw [elv];exact z
     refine ixl _ _ _ (zwt (s2.seqT hqh) (by omega) (by rw [Int.toNat_natCast,hxl];exact ht0) ⟨_,_,_,_,rfl,rfl,hq0,rfl,_,_,rfl,rfl,?_⟩)
     obtain ⟨rk,hrk⟩:∃ rk:Int,rk=s0.1 - 1:=⟨_,rfl⟩
     dsimp only
     rw [← hrk]
     exact go rk G1 ⟨PG1,s2,by rw [hrk,hn,e0]⟩
    ·rw [decide_eq_false heq]
     exact iteF (go 0 G1 ⟨PG1,s2,by rw [hn];exact (if_neg heq).symm⟩)
   ·have e0:lv = .non:=by rw [hn] at hlv;exact hlv
    refine ⟨_,rfl,rfl,_,rfl,?_⟩
    rw [decide_eq_true e0]
    exact iteF (go 0 H1 ⟨P1,Same.refl _,by rw [hn];rfl⟩)
  rintro rk H2 ⟨P2,s2,hrk⟩
  have S2:=s1.trans s2
  dsimp only [zkd,L2.start,List.set,List.map,List.length,List.replicate,List.append,List.cons_append,List.nil_append,Nat.reduceSub,Nat.reduceAdd]
  have ht2:=S2.seqT ht
  refine ⟨_,rfl,_,rfl,_,rfl,t,_,_,_,rfl,rfl,ht2,rfl,sz_3,λ ta hpa=>?_⟩
  generalize hHa:upd H2 ta (HO.tup _)=Ha;obtain ⟨sa,Pa,ha⟩:=nwT hHa hpa P2
  refine ⟨sz_1,λ tb hpb=>?_⟩
  generalize hHb:upd Ha tb (HO.tup _)=Hb;obtain ⟨sb,Pb,hb⟩:=nwT hHb hpb Pa
  have Tb:=(s2.trans sa).trans sb
  refine ⟨p,tb,_,_,rfl,rfl,Tb.seqT hq,SqT.of hb,sm1 ((by show xs.length+1≤1000;omega)),λ tc Hc hc sc pc=>?_⟩
  have Pc:=pc Pb
  have Tc:=Tb.trans sc
  have Sc:=s1.trans Tc
  have hmade:DV K Hc (plc (low++[(zyi low o,(0,c.1))])) (.ref tc):=⟨tc,_,rfl,hc,by rw [List.map_append];exact (DVs.same Tc _ _ hxs).append ⟨_,_,rfl,zdg (s:=(zyi low o,(0,c.1))) (by rw [← hrk];exact (sb.trans sc).seqT (SqT.of ha)),rfl⟩⟩
  have htc:=Sc.seqT ht
  have hqvc:=Sc.seqT hqv
  dsimp only [zkd,L2.start,List.set,List.map,List.length,List.replicate,List.append,List.cons_append,List.nil_append,Nat.reduceSub,Nat.reduceAdd]
  refine ⟨_,rfl,_,rfl,t,_,_,_,rfl,rfl,htc,rfl,sz_2,λ td hpd=>?_⟩
  generalize hHd:upd Hc td (HO.tup _)=Hd;obtain ⟨sd,Pd,hd⟩:=nwT hHd hpd Pc
  refine ⟨_,rfl,_,rfl,_,rfl,t,_,_,_,rfl,rfl,(sd.seqT htc),rfl,tv,_,_,_,rfl,rfl,sd.seqT hqvc,rfl,sz_3,λ te hpe=>?_⟩
  generalize hHe:upd Hd te (HO.tup _)=He;obtain ⟨se,Pe,he⟩:=nwT hHe hpe Pd
  refine ⟨sz_2,λ tf hpf=>?_⟩
  generalize hHf:upd He tf (HO.tup _)=Hf;obtain ⟨sf,Pf,hf⟩:=nwT hHf hpf Pe
  refine ⟨sz_1,λ lg hpg=>?_⟩
  generalize hHg:upd Hf lg (HO.lst _)=Hg;obtain ⟨sg,Pg,hg⟩:=nwL hHg hpg Pf
  have Ug:=((sd.trans se).trans sf).trans sg
  have Sg:=Sc.trans Ug
  obtain ⟨mk,hmk⟩:∃ mk:Mark,mk=(0,c.1):=⟨_,rfl⟩
  obtain ⟨vv,hvv⟩:∃ vv:Ver,vv=zvs b o c:=⟨_,rfl⟩
  have okvv:okV vv:=by rw [hvv];exact okc
  have ok1:∀ m∈([(mk,vv)]:Sh),okV m.2:=λ m hm=>by rw [List.mem_singleton.mp hm];exact okvv
  have hv21:vv.2.1=low++[(zyi low o,mk)]:=by rw [hvv,hmk,hlow];rfl
  rw [← hmk,← hvv] at hwt
  have hltg:=Sg _ _ hlt
  have hwtg:=DVs.same Sg _ _ hwt
  refine ⟨.list (([(mk,vv)]:Sh).map prD),.list (([(mk,vv)]:Sh).map prD),⟨lt,wt,rfl,SqL.of hltg,hwtg⟩,⟨lg,_,rfl,SqL.of hg,⟨_,_,rfl,zft (m:=mk) (sg.seqT (SqT.of hf)) (by rw [hmk];exact ((se.trans sf).trans sg).seqT (SqT.of hd)) (by rw [hvv];exact zaf (v:=zvs b o c) ((sf.trans sg).seqT (SqT.of he)) (by rw [← hvv,hv21,hmk];exact DV.same Ug _ _ hmade)),rfl⟩⟩,znb ok1,znb ok1,_,rfl,?_⟩
  rw [zal ok1]
  refine iteF ?_
  dsimp only [zkd,L2.start,List.set,List.map,List.length,List.replicate,List.append,List.cons_append,List.nil_append,Nat.reduceSub,Nat.reduceAdd]
  have hlg:=Sg _ _ hl
  have hwg:=DVs.same Sg _ _ hw
  have hplg:=DV.same (s1.trans Tc |>.trans Ug) _ _ hpl
  refine ⟨_,rfl,l,rfl,⟨_,SqL.of hlg⟩,λ Dk hDk=>znp (λ j=>ws.getD j .non) (λ j=>zzd (ms.getD j default).2 && !pLt low (ms.getD j default).2.2.1) (λ j y H=>True) hDk Pg (n:=ws.length) (sm1 ((by omega))) (zlv (SqL.of hlg)) (λ _ _ _ _ _ _ _=>trivial) ?_ ?_⟩
  ·intro j G2 Tt Tf hj PG SG ht3 hf3
   have him:j<ms.length:=by omega
   obtain ⟨y,hy,hyd⟩:=hwg.get (i:=j) (d:=prD ms[j]) (by rw [List.getElem?_map,List.getElem?_eq_getElem him];rfl)
   rw [getL him] at ht3 hf3
   obtain ⟨t9,q9,vx,ey,hq9,hm9,hvx⟩:=zjp (DV.same SG _ _ hyd)
   have eg:ws.getD j .non = .ref t9:=by rw [List.getD_eq_getElem?_getD,hy,ey];rfl
   rw [eg]
   obtain ⟨tv9,pv9,rfl,hqv9,hpl9⟩:=zae hvx
   refine ⟨t9,_,rfl,hq9,rfl,_,_,rfl,_,_,rfl,rfl,?_⟩
   refine ⟨_,rfl,tv9,_,_,_,rfl,rfl,hqv9,rfl,sz_0,λ te9 hp3=>?_⟩
   generalize hH3:upd G2 te9 (HO.tup _)=G3;obtain ⟨s3,P3,h3⟩:=nwT hH3 hp3 PG
   refine ⟨plc ms[j].2.2.1,plc [],DV.same s3 _ _ hpl9,zqb h3,zga _,zga _,_,rfl,?_⟩
   rw [zec]
   by_cases hr0:ms[j].2.2.1=[]
   ·rw [decide_eq_true hr0]
    exact iteF (iteF (hf3 (by unfold zzd;rw [decide_eq_true hr0];rfl) _ s3 P3))
   rw [decide_eq_false hr0]
   refine iteT ?_
   have ei:zzd ms[j].2=true:=by unfold zzd;rw [decide_eq_false hr0];rfl
   refine ⟨_,rfl,tv9,_,_,_,rfl,rfl,s3.seqT hqv9,rfl,_,rfl,plc ms[j].2.2.1,plc low,_,DV.same s3 _ _ hpl9,DV.same (SG.trans s3) _ _ hplg,zga _,zga _,zwe _ _,_,rfl,?_⟩
   cases hlt3:pLt low ms[j].2.2.1 with
   | true=>exact iteF (hf3 (by rw [ei,hlt3];rfl) _ s3 P3)
   | false=>exact iteT ⟨_,rfl,ht3 (by rw [ei,hlt3];rfl) _ _ trivial s3 P3⟩
  intro yk Hh hyk hDh sh Ph
  have hyn:yk.length=(ms.filter λ m=>zzd m.2 && !pLt low m.2.2.1).length:=by
   have h1:=Paired.length hyk
   have h2:=congrArg List.length (zos ms default (λ m=>zzd m.2 && !pLt low m.2.2.1) id)
   rw [List.length_map,List.length_map] at h2
   rw [hwl] at h1
   omega
  refine ⟨Dk,yk,rfl,.inl (SqL.of hDh),?_⟩
  obtain ⟨f,hf0⟩:∃ f,f=(ms.filter λ m=>zzd m.2 && !pLt low m.2.2.1).length:=⟨_,rfl⟩
  have hfl:f≤ms.length:=by rw [hf0];exact List.length_filter_le _ _
  rw [hyn,← hf0]
  have Sh0:=Sg.trans sh
  dsimp only [zkd,L2.start,List.set,List.map,List.length,List.replicate,List.append,List.cons_append,List.nil_append,Nat.reduceSub,Nat.reduceAdd]
  refine ⟨_,rfl,λ x dx nx ndx nex=>?_⟩
  have sx:Same Hh (upd (upd Hh dx (.own x)) x (.ins A.Sheet dx [])):=λ b o e=>by
   rw [zja (zha e nx),zja (zha e ndx)]
   exact e
  refine ⟨Plain.ins (Ph.upd trivial),x,dx,l,ws,ms,rfl,upd_same,SqL.of (sx _ _ (Sh0 _ _ hl)),DVs.same (Sh0.trans sx) _ _ hw,G.ok,by omega,λ _ Hi ki Shi Pi=>⟨rfl,?_⟩,λ h=>absurd G.nd h⟩
  have si:Same Hh Hi:=λ b o e=>ki b o (zha e nx) (sx b o e)
  obtain ⟨dxi,_,_,_,hxi,_⟩:=id Shi.ex
  refine ⟨x,dxi,_,rfl,hxi,rfl,Pi,x,ms,rfl,Shi,λ Hj lj bs wj nj sj Pj hj pm pw hwj=>?_⟩
  have hwjl:wj.length=bs.length:=by rw [hwj.length,List.length_map]
  have hbl:bs.length≤63:=by rw [pm.length_eq];exact Nat.le_of_lt_succ (zef Shi.nd Shi.ok Shi.few).few
  have Sj:=(Sh0.trans si).trans sj
  dsimp only [zkd,L2.start,List.set,List.map,List.length,List.replicate,List.append,List.cons_append,List.nil_append,Nat.reduceSub,Nat.reduceAdd]
  have hl_j:=Sj _ _ hl
  have hlt_j:=Sj _ _ hlt
  refine ⟨_,rfl,_,rfl,l,lt,_,_,rfl,rfl,hl_j,hlt_j,sm1 ((by have:=hwt.length;rw [List.length_map] at this;have:wt.length=1:=this;omega)),λ lk hpk=>?_⟩
  generalize hHk:upd Hj lk (HO.lst _)=Hk;obtain ⟨sk,Pk,hk⟩:=nwL hHk hpk Pj
  obtain ⟨ns,hns⟩:∃ ns:Sh,ns=ms++[(mk,vv)]:=⟨_,rfl⟩
  have nmk:mk∉mks ms:=λ z=>by
   obtain ⟨m,hm,e⟩:=List.mem_map.mp z
   have:=G.up m hm
   rw [show m.1=mk from e,hmk] at this
   have:(1:Int)≤0:=this
   omega
  have ndn:(mks ns).Nodup:=by
   rw [hns]
   unfold mks
   rw [List.map_append]
   exact List.nodup_append.mpr ⟨G.nd,List.nodup_cons.mpr ⟨List.not_mem_nil,List.nodup_nil⟩,λ a ha b hb e=>nmk (by rw [← (show b=mk from List.mem_singleton.mp hb),← e];exact ha)⟩
  have okn:∀ m∈ns,okV m.2:=λ m hm=>by
   rw [hns] at hm
   rcases List.mem_append.mp hm with y | y
   ·exact G.ok m y
   ·exact ok1 m y
  have nsl:ns.length=ms.length+1:=by rw [hns,List.length_append];rfl
  have hwk:DVs K Hk (ns.map prD) (ws++wt):=by
   rw [hns,List.map_append]
   exact (DVs.same (Sj.trans sk) _ _ hw).append (DVs.same (Sj.trans sk) _ _ hwt)
  intro x2 dx2 nx2 ndx2 nex2
  have sx2:Same Hk (upd (upd Hk dx2 (.own x2)) x2 (.ins A.Sheet dx2 [])):=λ b o e=>by
   rw [zja (zha e nx2),zja (zha e ndx2)]
   exact e
  refine ⟨Plain.ins (Pk.upd trivial),x2,dx2,lk,ws++wt,ns,rfl,upd_same,SqL.of (sx2 _ _ hk),DVs.same sx2 _ _ hwk,okn,by omega,λ _ Hl kl Shl Pl=>⟨rfl,?_⟩,λ h=>absurd ndn h⟩
  have sl:Same Hk Hl:=λ b o e=>kl b o (zha e nx2) (sx2 b o e)
  obtain ⟨dxl,_,_,_,hxl2,_⟩:=id Shl.ex
  refine ⟨x2,dxl,_,rfl,hxl2,rfl,Pl,x2,ns,rfl,Shl,λ Hm lm cs wm nm sm Pm hm2 pmc pwc hwm=>?_⟩
  have Um:=(sk.trans sl).trans sm
  have Sm:=Sj.trans Um
  have eL:=zpn G.nd ndn nmk hv21 hle (λ k=>by rw [hns];exact zfs nmk k) pm pw pmc pwc
  rw [zun G.nd hle pm,← hf0] at eL
  have okL:=zhv ndn okn pmc
  have hjm:=Um _ _ hj
  refine ⟨_,rfl,_,rfl,_,rfl,lj,wj,rfl,SqL.of hjm,λ pn hpn=>?_⟩
  have c12:cutV wj none (some (f:Int))=wj.take f:=by rw [zgf (by omega),Int.toNat_natCast]
  rw [c12]
  generalize hHn:upd Hm pn (HO.lst _)=Hn;obtain ⟨sn,Pn,hn⟩:=nwL hHn hpn Pm
  have htn:=(Sm.trans sn).seqT ht
  refine ⟨_,rfl,t,_,_,_,rfl,rfl,htn,rfl,sz_2,λ to hpo=>?_⟩
  generalize hHo:upd Hn to (HO.tup _)=Ho;obtain ⟨so,Po,ho⟩:=nwT hHo hpo Pn
  refine ⟨_,rfl,t,_,_,_,rfl,rfl,(so.seqT htn),rfl,tv,_,_,_,rfl,rfl,((Sm.trans sn).trans so).seqT hqv,rfl,sz_2,λ tq hpq=>?_⟩
  generalize hHq:upd Ho tq (HO.tup _)=Hq;obtain ⟨sq,Pq,hq_⟩:=nwT hHq hpq Po
  refine ⟨sz_1,λ lr hpr=>?_⟩
  generalize hHr:upd Hq lr (HO.lst _)=Hr;obtain ⟨sr,Pr,hr_⟩:=nwL hHr hpr Pq
  have Ur:=(so.trans sq).trans sr
  refine ⟨pn,lr,_,_,rfl,rfl,Ur _ _ hn,hr_,sm1 ((by rw [List.length_take];show min f wj.length+1≤1000;omega)),λ ps hps=>?_⟩
  generalize hHs:upd Hr ps (HO.lst _)=Hs;obtain ⟨ss,Ps,hs_⟩:=nwL hHs hps Pr
  have Vs:=(sn.trans Ur).trans ss
  refine ⟨_,rfl,_,rfl,_,rfl,lj,wj,rfl,SqL.of (Vs _ _ hjm),λ pt hpt=>?_⟩
  have c18:cutV wj (some (f:Int)) none=wj.drop f:=by rw [zps (by omega),Int.toNat_natCast]
  rw [c18]
  generalize hHt:upd Hs pt (HO.lst _)=Ht;obtain ⟨st,Pt,ht_⟩:=nwL hHt hpt Ps
  refine ⟨ps,pt,_,_,rfl,rfl,st _ _ hs_,ht_,sm1 ((by rw [List.length_append,List.length_take,List.length_drop];show min f wj.length+1+(wj.length - f)≤1000;omega)),λ pu hpu=>?_⟩
  generalize hHu:upd Ht pu (HO.lst _)=Hu;obtain ⟨su,Pu,hu⟩:=nwL hHu hpu Pt
  have Wu:=(Vs.trans st).trans su
  have hcat:DVs K Hu (cs.map (lnD ns)) ((wj.take f++[.ref tq])++wj.drop f):=by
   rw [eL,List.map_take,List.map_drop]
   have hd0:=DVs.same (Um.trans Wu) _ _ hwj
   have r15:=((sr.trans ss).trans st).trans su
   have hone:DVs K Hu [.tuple [markD mk,.str vv.2.2]] [.ref tq]:=by
    refine ⟨_,_,rfl,?_,rfl⟩
    exact ⟨tq,_,rfl,r15.seqT (SqT.of hq_),_,_,rfl,zhj (by rw [hmk];exact (sq.trans r15).seqT (SqT.of ho)),_,_,rfl,(by rw [hvv];rfl),rfl⟩
   exact ((hd0.take f).append hone).append (hd0.drop f)
  refine ⟨.list (cs.map (lnD ns)),.list (cs.map (lnD ns)),⟨lm,wm,rfl,SqL.of (Wu _ _ hm2),DVs.same Wu _ _ hwm⟩,⟨pu,_,rfl,SqL.of hu,hcat⟩,zah okL,zah okL,?_⟩
  rw [zdv okL]
  exact q _ (Sm.trans Wu) Pu
theorem sc_q3:FnScope ["_law_sheet_here", "_law_clash", "_law_choice", "_law_beat", "_law_refusal", "e"] ["_law_sheet_here", "_law_clash", "_law_choice", "_law_beat"] (zia s_q3):=by walk_at "sc"
theorem zn0 (T:Txt K mg A) (G_q19:zpr P w K mg B A):zpz P w K mg B A:=by
 have B_q19:=T.b_q19
 refine T.F_q3.okN sc_q3 (λ vs H Q E h=>?_) (λ _ _ _ _ H vs Q E hr h=>?_)
 ·obtain ⟨_,p,ms,v,c,z,b,rfl,_⟩:=h
  rfl
 ·obtain ⟨hP,p,ms,v,c,z,b,rfl,S,hc,ll,hz,q⟩:=h
  refine ⟨_,(zca (zta (i:=4) sc_q3.nd rfl (Or.inl rfl) zvj)
   (zca (zht (i:=5) sc_q3.nd T.x_DraftError rfl T.g_DraftError ⟨⟨_,_,_,rfl,rfl,rfl⟩⟩ (λ _ _ _ _ hx=>(zfa (zoe (zss G_q19 (hr.mono (by decide)) rfl T.g_q19 T.k_q19 B_q19 .nil hx (zaa (pv 1) (zaa (pv 2) (zaa (pv 0) (zaa (pv 3) zda)))))))) (λ _=>(zfa (zta (i:=4) sc_q3.nd rfl (Or.inl rfl) (pv 5)))))
   (zca (zuc (PW.pt (zsv (zlh (zma ztj rfl T.n_isinstance (by decide +kernel) (zaa (pv 4) (zaa (zoa (zaa (zie (v := .ref A.NoClash) rfl T.g_NoClash rfl) (zaa (zie (v := .ref A.Settled) rfl T.g_Settled rfl) zda))) zda)))) (zto (zro (zlh (zma zjc rfl T.n_isinstance (by decide +kernel) (zaa (pv 4) (zaa (zet (v := .ty "ValueError") rfl T.n_ValueError (by decide +kernel) rfl) zda)))))))) (zfa (zwa zya)) zsa)
   (zca (zuc (zlh (zma zjc rfl T.n_isinstance (by decide +kernel) (zaa (pv 4) (zaa (zie (v := .ref A.NoChoice) rfl T.g_NoChoice rfl) zda)))) (zfa (zwa (zqa zzm zya (zqa zfq zya (zrb zri rfl T.n_int (by decide +kernel) (zaa (zma zjc rfl T.n_isinstance (by decide +kernel) (zaa (pv 4) (zaa (zie (v := .ref A.NoBoth) rfl T.g_NoBoth rfl) zda))) zda)))))) zsa)
   (zfa (zwa (zqa zfq zya (zrb zri rfl T.n_int (by decide +kernel) (zaa (zma zjc rfl T.n_isinstance (by decide +kernel) (zaa (pv 4) (zaa (zie (v := .ref A.NoBoth) rfl T.g_NoBoth rfl) zda))) zda))))))))),?_⟩
  refine ⟨λ C _ H2=>(if isCh z=false then C = .ref A.NoChoice else C = .ref A.NoBoth)∧Same H H2∧Plain H2,⟨rfl,_,rfl,_,rfl,_,rfl,_,rfl,hP,v,c,z,p,ms,b,rfl,hc,S,ll,λ h H' s' P'=>⟨by rw [if_pos h],s',P'⟩,λ h1 h2 H' s' P'=>⟨by rw [if_neg (by rw [h1];decide)],s',P'⟩,λ h1 h2=>?_⟩,λ C y H1 hEX hy=>?_⟩
  ·rcases hz with y | y
   ·rw [h1] at y;cases y
   ·rw [y.2] at h2;cases h2
  obtain ⟨hC,s1,P1⟩:=hEX
  rcases hz with hz | hz
  ·rw [if_pos hz] at hC
   obtain rfl:C=A.NoChoice:=by cases hC;rfl
   refine ⟨T.x_NoChoice,T.m_NoChoice,?_⟩
   refine ⟨_,rfl,?_⟩
   have s2:Same H1 (upd H1 y (excO y A.NoChoice)):=zea hy
   have P2:Plain (upd H1 y (excO y A.NoChoice)):=P1.upd trivial
   have h2:(upd H1 y (excO y A.NoChoice)) y=some (excO y A.NoChoice):=upd_same
   generalize upd H1 y (excO y A.NoChoice)=H2 at s2 P2 h2 ⊢
   refine ⟨_,rfl,sz_2,λ tp htp=>?_⟩
   have st:Same H2 (upd H2 tp (.tup [.ref A.NoClash,.ref A.Settled])):=zea htp
   have Pt:Plain (upd H2 tp (.tup [.ref A.NoClash,.ref A.Settled])):=P2.tup
   have h3:=st _ _ h2
   refine ⟨_,_,_,_,_,_,rfl,h3,T.x_NoChoice,upd_same,rfl,T.j_NoChoice,_,rfl,iteF ?_⟩
   generalize upd H2 tp (.tup [.ref A.NoClash,.ref A.Settled])=H3 at st Pt h3 ⊢
   refine ⟨_,rfl,_,_,_,_,_,rfl,h3,T.x_NoChoice,rfl,T.v_NoChoice,true,rfl,iteF ?_⟩
   refine ⟨_,rfl,y,A.NoChoice,_,_,true,rfl,h3,T.x_NoChoice,rfl,(by show (if (Value.ref _ == Value.ref _)=true then _ else _)=_;rw [if_pos (beq_self_eq_true _)]),_,rfl,iteT ?_⟩
   refine ⟨_,rfl,y,A.NoChoice,_,_,false,rfl,h3,T.x_NoChoice,rfl,T.i_NoChoice_NoBoth,.inr ⟨false,rfl, "both",false,rfl,rfl,by decide +kernel,_,_,rfl,rfl,by decide +kernel,?_⟩⟩
   have:=q H3 ((s1.trans s2).trans st) Pt
   rw [if_pos hz] at this
   rw [show (Str.ofString "choice" ++ (if false=true then Str.ofString "both" else Str.ofString ""))=Str.ofString "choice" by decide +kernel]
   exact this
  ·rw [if_neg (by rw [hz.1];decide)] at hC
   obtain rfl:C=A.NoBoth:=by cases hC;rfl
   refine ⟨T.x_NoBoth,T.m_NoBoth,?_⟩
   refine ⟨_,rfl,?_⟩
   have s2:Same H1 (upd H1 y (excO y A.NoBoth)):=zea hy
   have P2:Plain (upd H1 y (excO y A.NoBoth)):=P1.upd trivial
   have h2:(upd H1 y (excO y A.NoBoth)) y=some (excO y A.NoBoth):=upd_same
   generalize upd H1 y (excO y A.NoBoth)=H2 at s2 P2 h2 ⊢
   refine ⟨_,rfl,sz_2,λ tp htp=>?_⟩
   have st:Same H2 (upd H2 tp (.tup [.ref A.NoClash,.ref A.Settled])):=zea htp
   have Pt:Plain (upd H2 tp (.tup [.ref A.NoClash,.ref A.Settled])):=P2.tup
   have h3:=st _ _ h2
   refine ⟨_,_,_,_,_,_,rfl,h3,T.x_NoBoth,upd_same,rfl,T.j_NoBoth,_,rfl,iteF ?_⟩
   generalize upd H2 tp (.tup [.ref A.NoClash,.ref A.Settled])=H3 at st Pt h3 ⊢
   refine ⟨_,rfl,_,_,_,_,_,rfl,h3,T.x_NoBoth,rfl,T.v_NoBoth,true,rfl,iteF ?_⟩
   refine ⟨_,rfl,y,A.NoBoth,_,_,false,rfl,h3,T.x_NoBoth,rfl,T.i_NoBoth_NoChoice,_,rfl,iteF ?_⟩
   refine ⟨_,rfl,y,A.NoBoth,_,_,true,rfl,h3,T.x_NoBoth,rfl,(by show (if (Value.ref _ == Value.ref _)=true then _ else _)=_;rw [if_pos (beq_self_eq_true _)]),.inr ⟨true,rfl, "both",true,rfl,rfl,by decide +kernel,?_⟩⟩
   have:=q H3 ((s1.trans s2).trans st) Pt
   rw [if_neg (by rw [hz.1];decide)] at this
   exact this
theorem sc_q11:FnScope ["_law_pairs", "_law_sheet_here", "_law_clash", "_law_beat", "_law_odd", "_law_aside_here", "_law_told"] ["_law_pairs", "_law_sheet_here", "_law_clash", "_law_beat", "_law_odd"] (zia zox):=by walk_at "sc"
theorem zww (T:Txt K mg A) (G_q19:zpr P w K mg B A) (G_q14:zwu P w K mg B A) (G_q3:zpz P w K mg B A):zru P w K mg B A:=by
 have B_q19:=T.b_q19
 have B_q14:=T.b_q14
 have B_q3:=T.b_q3
 refine T.F_q11.okN sc_q11 (λ vs H Q E h=>?_) (λ _ _ _ _ H vs Q E hr h=>?_)
 ·obtain ⟨_,l,ws,p,ms,v,c,b,z,rfl,_⟩:=h
  rfl
 ·obtain ⟨hP,l,ws,p,ms,v,c,b,z,rfl,hl,hw,G,S,hc,okc,c10,hz,q⟩:=h
  refine ⟨_,(zca (zta (i:=5) sc_q11.nd rfl (Or.inl rfl) (zib zxa (pv 2) zba (λ _ _=>rfl)))
   (zca (zuc (zla (zmh hr.units) (zra G_q19 (hr.mono (by decide)) rfl T.g_q19 T.k_q19 B_q19 .nil zmc (zaa (pv 2) (zaa zya (zaa (pv 1) (zaa (pv 3) zda))))) (zgc zda) (zua _)) (zfa (zwa zus)) zsa)
   (zca (zuc (zla (zmh hr.units) (zra G_q19 (hr.mono (by decide)) rfl T.g_q19 T.k_q19 B_q19 .nil zmc (zaa (pv 2) (zaa zya (zaa (pv 1) (zaa (pv 3) zda))))) (zgc (zaa (zoa (zaa (zib zxa (pv 2) zba (λ _ _=>rfl)) (zaa (zoa (zaa (pv 3) (zaa (zib zxa (pv 5) zba (λ _ _=>rfl)) (zaa (zib zxa (pv 5) zba (λ _ _=>rfl)) zda)))) zda))) zda)) (zua _)) (zfa (zwa zus)) zsa)
   (zca (zuc (zla zaz (zra G_q3 (hr.mono (by decide)) rfl T.g_q3 T.k_q3 B_q3 .nil zmc (zaa (pv 1) (zaa (pv 2) (zaa (pv 4) (zaa (pv 3) zda))))) zya (zua _)) (zfa (zwa zus)) zsa)
   (zca (zuc (zla (zvl hr.units) (zib zxa (pv 5) zba (λ _ _=>rfl)) (zoa zda) (zua _)) (zfa (zwa (zgg zcl (zra G_q3 (hr.mono (by decide)) rfl T.g_q3 T.k_q3 B_q3 .nil zmc (zaa (pv 1) (zaa (pv 2) (zaa zya (zaa (pv 3) zda))))) zya (zua _)))) zsa)
   (zca (zta (i:=6) sc_q11.nd rfl (Or.inl rfl) (zra G_q19 (hr.mono (by decide)) rfl T.g_q19 T.k_q19 B_q19 .nil zmc (zaa (pv 2) (zaa zya (zaa (pv 1) (zaa (pv 3) zda))))))
   (zca (zuc (zro (zlh (zra G_q14 (hr.mono (by decide)) rfl T.g_q14 T.k_q14 B_q14 .nil zmc (zaa (pv 0) (zaa (pv 2) (zaa (pv 3) (zaa (zrb zbd rfl T.n_list (by decide +kernel) (zaa (pv 6) zda)) zda))))))) (zfa (zwa zus)) zsa)
   (zca (zoe (zdw PySem.F.plainAttrs_list PySem.F.slot_list_clear PySem.F.type_list_clear zwr (pv 6)))
   (zfa (zwa (zgg zcl (zma zka rfl T.n_len (by decide +kernel) (zaa (zra G_q19 (hr.mono (by decide)) rfl T.g_q19 T.k_q19 B_q19 .nil zmc (zaa (pv 2) (zaa zya (zaa (pv 1) (zaa (pv 3) zda))))) zda)) zba (zua _)))))))))))),?_⟩
  have ll:c.2.2.2.1.2.1.length≤100:=by omega
  obtain ⟨t,mv,sv,av,rfl,ht,hm,hs,ha⟩:=zkm hc
  obtain ⟨q0,rfl,hq0⟩:=ztg hm
  obtain ⟨tv,pvv,rfl,hqv,hpl⟩:=zae ha
  refine ⟨_,rfl,t,_,_,_,rfl,rfl,ht,rfl,?_⟩
  have cs:isCh "stay" = true∧isCh "turn" = true∧isCh "both" = true:=by decide +kernel
  have bs0:zfb c "stay" = false:=by unfold zfb;rw [decide_eq_false (by decide +kernel)];rfl
  have bt0:zfb c "turn" = false:=by unfold zfb;rw [decide_eq_false (by decide +kernel)];rfl
  dsimp only [zkd,L2.start,List.set,List.map,List.length,List.replicate,List.append,List.cons_append,List.nil_append,Nat.reduceSub,Nat.reduceAdd]
  refine ⟨_,rfl,_,rfl,_,rfl,hP,.ref t,c, "stay",p,ms,b,rfl,hc,S,ll,(λ h=>by rw [cs.1] at h;cases h),(λ _ h=>by rw [bs0] at h;cases h),λ _ _=>⟨(λ e=>absurd e (by decide +kernel)),(λ e=>absurd e (by decide +kernel)),λ _ _ l1 w1 H1 n1 s1 P1 h1 hw1=>?_⟩⟩
  have hw1:w1=[]:=hw1
  rw [hw1] at h1
  refine ⟨sz_0,λ te hp2=>?_⟩
  generalize hH2:upd H1 te (HO.lst _)=H2;obtain ⟨s2,P2,h2⟩:=nwL hH2 hp2 P1
  refine ⟨.list [],.list [],⟨l1,[],rfl,SqL.of (s2 _ _ h1),rfl⟩,⟨te,[],rfl,SqL.of h2,rfl⟩,rfl,rfl,_,rfl,?_⟩
  rw [show PyData.eqv (.list []) (.list [])=true from rfl]
  refine iteF ?_
  have S2:=s1.trans s2
  refine ⟨_,rfl,_,rfl,_,rfl,P2,.ref t,c, "turn",p,ms,b,rfl,DV.same S2 _ _ hc,S.same S2,ll,(λ h=>by rw [cs.2.1] at h;cases h),(λ _ h=>by rw [bt0] at h;cases h),λ _ _=>⟨λ _ l3 w3 H3 n3 s3 P3 h3 hw3=>?_,(λ e=>absurd e (by decide +kernel)),(λ e=>absurd rfl e)⟩⟩
  have S3:=S2.trans s3
  have ht3:=S3.seqT ht
  have hqv3:=S3.seqT hqv
  refine ⟨_,rfl,t,_,_,_,rfl,rfl,ht3,rfl,_,rfl,_,rfl,tv,_,_,_,rfl,rfl,hqv3,rfl,_,rfl,tv,_,_,_,rfl,rfl,hqv3,rfl,sz_3,λ t4 hp4=>?_⟩
  generalize hH4:upd H3 t4 (HO.tup _)=H4;obtain ⟨s4,P4,h4⟩:=nwT hH4 hp4 P3
  refine ⟨sz_2,λ t5 hp5=>?_⟩
  generalize hH5:upd H4 t5 (HO.tup _)=H5;obtain ⟨s5,P5,h5⟩:=nwT hH5 hp5 P4
  refine ⟨sz_1,λ l6 hp6=>?_⟩
  generalize hH6:upd H5 l6 (HO.lst _)=H6;obtain ⟨s6,P6,h6⟩:=nwL hH6 hp6 P5
  have U6:=(s4.trans s5).trans s6
  obtain ⟨vt,hvt⟩:∃ vt:Ver,vt=(b,c.2.2.2.1.2.1,c.2.2.2.1.2.2):=⟨_,rfl⟩
  rw [← hvt] at hw3
  have ok1:∀ m∈([(c.2.1,vt)]:Sh),okV m.2:=λ m hm=>by rw [List.mem_singleton.mp hm,hvt];exact okc
  refine ⟨.list (([(c.2.1,vt)]:Sh).map prD),.list (([(c.2.1,vt)]:Sh).map prD),⟨l3,w3,rfl,SqL.of (U6 _ _ h3),DVs.same U6 _ _ hw3⟩,⟨l6,_,rfl,SqL.of h6,⟨_,_,rfl,zft (s6.seqT (SqT.of h5)) ((S3.trans U6).seqT hq0) (by rw [hvt];exact zaf (v:=(b,c.2.2.2.1.2.1,c.2.2.2.1.2.2)) ((s5.trans s6).seqT (SqT.of h4)) (DV.same (S3.trans U6) _ _ hpl)),rfl⟩⟩,znb ok1,znb ok1,_,rfl,?_⟩
  rw [zal ok1]
  refine iteF ?_
  have S6:=S3.trans U6
  refine ⟨_,rfl,_,rfl,_,rfl,_,rfl,P6,p,ms,.ref t,c,z,b,rfl,S.same S6,DV.same S6 _ _ hc,ll,.inl hz,λ H7 s7 P7=>?_⟩
  rw [if_pos hz]
  refine ⟨rfl,_,rfl,zw0 (λ h=>absurd rfl h) (λ _=>?_)⟩
  have S7:=S6.trans s7
  dsimp only [zkd,L2.start,List.set,List.map,List.length,List.replicate,List.append,List.cons_append,List.nil_append,Nat.reduceSub,Nat.reduceAdd]
  have hqv7:=S7.seqT hqv
  refine ⟨_,rfl,tv,_,_,_,rfl,rfl,hqv7,rfl,sz_0,λ te8 hp8=>?_⟩
  generalize hH8:upd H7 te8 (HO.tup _)=H8;obtain ⟨s8,P8,h8⟩:=nwT hH8 hp8 P7
  have S8:=S7.trans s8
  refine ⟨plc c.2.2.2.1.2.1,plc [],DV.same S8 _ _ hpl,zqb h8,zga _,zga _,_,rfl,?_⟩
  rw [zec]
  by_cases hr0:c.2.2.2.1.2.1=[]
  ·rw [decide_eq_true hr0]
   refine iteT ?_
   have bo:zfb c "both" = true:=by unfold zfb;rw [decide_eq_true rfl,decide_eq_true hr0];rfl
   refine ⟨_,rfl,_,rfl,_,rfl,P8,p,ms,.ref t,c, "both",b,rfl,S.same S8,DV.same S8 _ _ hc,ll,.inr ⟨cs.2.2,bo⟩,λ H9 s9 P9=>?_⟩
   rw [if_neg (by rw [cs.2.2];decide)]
   refine ⟨rfl,?_⟩
   rw [decide_eq_true rfl]
   exact q _ (S8.trans s9) P9
  rw [decide_eq_false hr0]
  refine iteF ?_
  have bo:zfb c "both" = false:=by unfold zfb;rw [decide_eq_false hr0,Bool.and_false]
  refine ⟨_,rfl,_,rfl,_,rfl,P8,.ref t,c, "both",p,ms,b,rfl,DV.same S8 _ _ hc,S.same S8,ll,(λ h=>by rw [cs.2.2] at h;cases h),(λ _ h=>by rw [bo] at h;cases h),λ _ _=>⟨(λ e=>absurd e (by decide +kernel)),λ _ o hle l9 w9 H9 n9 s9 P9 h9 hw9=>?_,(λ _ e=>absurd rfl e)⟩⟩
  have S9:=S8.trans s9
  dsimp only [zkd,L2.start,List.set,List.map,List.length,List.replicate,List.append,List.cons_append,List.nil_append,Nat.reduceSub,Nat.reduceAdd]
  refine ⟨_,rfl,_,rfl,_,rfl,_,rfl,l9,w9,rfl,.inl (SqL.of h9),λ la hpa=>?_⟩
  generalize hHa:upd H9 la (HO.lst _)=Ha;obtain ⟨sa,Pa,ha_⟩:=nwL hHa hpa P9
  have Sa:=S9.trans sa
  refine ⟨Pa,l,ws,ms,.ref t,c,b,la,w9,o,rfl,Sa _ _ hl,DVs.same Sa _ _ hw,G,DV.same Sa _ _ hc,okc,c10,ha_,hle,DVs.same sa _ _ hw9,λ Hb sb Pb=>?_⟩
  refine ⟨_,rfl,iteF ?_⟩
  have h9b:=(sa.trans sb) _ _ h9
  refine ⟨_,rfl,.inl ⟨rfl,_,SqL.of h9b⟩,l9,w9,rfl,rfl,h9b,?_⟩
  have sc:Same H8 (upd Hb l9 (.lst [])):=λ a o e=>by
   rw [zja (zha e n9)]
   exact ((s9.trans sa).trans sb) a o e
  have Pc:Plain (upd Hb l9 (.lst [])):=Pb.lst
  generalize upd Hb l9 (.lst [])=Hc at sc Pc ⊢
  have Sc:=S8.trans sc
  refine ⟨_,rfl,_,rfl,_,rfl,Pc,.ref t,c, "both",p,ms,b,rfl,DV.same Sc _ _ hc,S.same Sc,ll,(λ h=>by rw [cs.2.2] at h;cases h),(λ _ h=>by rw [bo] at h;cases h),λ _ _=>⟨(λ e=>absurd e (by decide +kernel)),λ _ o2 hle2 ld wd Hd nd sd Pd hd hwd=>?_,(λ _ e=>absurd rfl e)⟩⟩
  have el:wd.length=1:=hwd.length
  refine ⟨ld,wd,rfl,.inl (SqL.of hd),rfl,?_⟩
  rw [el,decide_eq_true (show V.int ((1:Nat):Int)=V.int 1 from rfl)]
  exact q _ (Sc.trans sd) Pd
theorem sc_law:FnScope ["_law_script", "_law_cells", "_law_pairs", "_law_sheet_here", "_law_beat", "_law_odds", "_law_k", "_law_cell", "_law_mark", "_law_number", "_law_state", "_law_clash"] ["_law_script"] (zia zxs):=by walk_at "sc"
theorem zfw (T:Txt K mg A) (G_q1:zax P w K mg B A) (G_q6:zmz P w K mg B A) (G_q5:zzy P w K mg B A) (G_q13:zpt P w K mg B A) (G_q12:zmu P w K mg B A) (G_q11:zru P w K mg B A):zvx P w K mg B A:=by
 have B_q1:=T.b_q1
 have B_q6:=T.b_q6
 have B_q5:=T.b_q5
 have B_q13:=T.b_q13
 have B_q12:=T.b_q12
 have B_q11:=T.b_q11
 refine T.F_law.okN sc_law (λ vs H Q E h=>?_) (λ _ _ _ _ H vs Q E hr h=>?_)
 ·obtain ⟨a,nsc,rfl,_⟩:=h
  rfl
 ·obtain ⟨a,nsc,rfl,hS,hlen,kk,hP⟩:=h
  refine ⟨_,(zca (zta (i:=1) sc_law.nd rfl (Or.inl rfl) (zpb zik (zqa zgp (zrb zbd rfl T.n_list (by decide +kernel) (zaa (pv 0) zda)) (zgc (zaa zba (zaa zba (zaa zba zda))))) (zxb zba) (zxb zba)))
   (zca (zta (i:=2) sc_law.nd rfl (Or.inl rfl) (zra G_q13 (hr.mono (by decide)) rfl T.g_q13 T.k_q13 B_q13 .nil zmc (zaa (pv 1) zda)))
   (zca (zta (i:=3) sc_law.nd rfl (Or.inl rfl) (zen T.mk_Sheet G_q1 (hr.mono (by decide)) rfl T.g_Sheet B_q1 .nil zmc (zaa (pv 2) zda)))
   (zca (zta (i:=4) sc_law.nd rfl (Or.inl rfl) (zqa zyb zba (zqa zhb (zra G_q5 (hr.mono (by decide)) rfl T.g_q5 T.k_q5 B_q5 .nil zmc (zaa (pv 0) (zaa zba zda))) (zqa zko zba zba))))
   (zca (zta (i:=5) sc_law.nd rfl (Or.inl rfl) (zgc (zaa zya (zaa zya (zaa zya (zaa zya (zaa zya (zaa zya zda))))))))
   (zca (zbp PassesOwn.never rfl (zup rfl T.n_enumerate (by decide +kernel) (zaa (pv 1) zda)) (znf rfl (zpa (zab (i:=6) sc_law.nd rfl (Or.inl rfl)) (zpa (zab (i:=7) sc_law.nd rfl (Or.inl rfl)) zkc))) (zca (zta (i:=8) sc_law.nd rfl (Or.inl rfl) (zib zxa (zib zme (pv 2) (zqa zhb (zqa zyb (zqa zeb (pv 7) zba) (pv 6)) (zma zka rfl T.n_len (by decide +kernel) (zaa (pv 2) zda))) (λ _ _=>rfl)) zba (λ _ _=>rfl)))
   (zca (zta (i:=9) sc_law.nd rfl (Or.inl rfl) (zqa zyb zba (zqa zhb (zqa zyb (zqa zyb (zqa zeb (pv 7) zba) (pv 6)) (zra G_q5 (hr.mono (by decide)) rfl T.g_q5 T.k_q5 B_q5 .nil zmc (zaa (pv 0) (zaa zba zda)))) (zib zme (zgc (zaa zba (zaa (zqa zko zba zba) zda))) (zqa zhb (zqa zeb (pv 7) zba) zba) (λ _ _=>rfl)))))
   (zca (zta (i:=10) sc_law.nd rfl (Or.inl rfl) (zib zme (zgc (zaa zya (zaa zya (zaa zya (zaa zya zda))))) (zqa zhb (zqa zeb (pv 7) zba) zba) (λ _ _=>rfl)))
   (zca (zta (i:=11) sc_law.nd rfl (Or.inl rfl) (zoa (zaa (pv 9) (zaa (pv 8) (zaa (zoa (zaa zba (zaa (zoa zda) (zaa zya zda)))) (zaa (zra G_q12 (hr.mono (by decide)) rfl T.g_q12 T.k_q12 B_q12 .nil zmc (zaa (pv 2) (zaa (zqa zyb (zqa zeb (pv 7) zba) (pv 6)) zda))) (zaa (pv 6) (zaa (pv 10) zda))))))))
   (zfa (zuc (zro (zlh (zra G_q11 (hr.mono (by decide)) rfl T.g_q11 T.k_q11 B_q11 .nil zmc (zaa (pv 2) (zaa (pv 3) (zaa (pv 11) (zaa (pv 4) (zaa (zib zme (pv 5) (zqa zhb (zqa zeb (pv 7) zba) zba) (λ _ _=>rfl)) zda)))))))) (zfa (zwa zus)) zsa)))))))
   (zfa (zwa (zgg (zvl hr.units) (zoh (pv 3) T.cl_Sheet T.m_q6 G_q6 (hr.mono (by decide)) B_q6 .nil zmc) (zma (zvd hr.u100) rfl T.n_sorted (by decide +kernel) (zaa (pv 2) zda)) (zua _)))))))))),?_⟩
  refine ⟨_,rfl,a,_,rfl,.inl hS,λ l1 hp1=>?_⟩
  generalize hH1:upd H l1 (HO.lst _)=H1;obtain ⟨s1,P1,h1⟩:=nwL hH1 hp1 hP
  refine ⟨sz_3,λ l2 hp2=>?_⟩
  generalize hH2:upd H1 l2 (HO.lst _)=H2;obtain ⟨s2,P2,h2⟩:=nwL hH2 hp2 P1
  refine ⟨l1,l2,_,_,rfl,rfl,s2 _ _ h1,h2,sm1 ((by rw [List.length_map];show nsc.length+3≤1000;omega)),λ l3 hp3=>?_⟩
  generalize hH3:upd H2 l3 (HO.lst _)=H3;obtain ⟨s3,P3,h3⟩:=nwL hH3 hp3 P2
  refine ⟨2,rfl,60,rfl,l3,_,rfl,SqL.of h3,λ pc hp4=>?_⟩
  generalize hH4:upd H3 pc (HO.lst _)=H4;obtain ⟨s4,P4,h4⟩:=nwL hH4 hp4 P3
  obtain ⟨hci,hc1,hc58⟩:=zmr nsc
  generalize cutV (nsc.map V.int++[V.int 7,V.int 9,V.int 11]) (some 2) (some 60)=cells at h4 hci hc1 hc58
  have S4:=((s1.trans s2).trans s3).trans s4
  refine ⟨_,rfl,P4,pc,cells,rfl,h4,hci,by omega,λ pl ws ms H5 s5 P5 hpl hw G hml=>?_⟩
  have S5:=S4.trans s5
  have hwl:ws.length=ms.length:=by rw [hw.length,List.length_map]
  have mne:ms≠[]:=List.ne_nil_of_length_pos (by omega)
  refine ⟨_,rfl,λ x dx nx ndx nex=>?_⟩
  have sx:Same H5 (upd (upd H5 dx (.own x)) x (.ins A.Sheet dx [])):=λ b o e=>by
   rw [zja (zha e nx),zja (zha e ndx)]
   exact e
  refine ⟨Plain.ins (P5.upd trivial),x,dx,pl,ws,ms,rfl,upd_same,SqL.of (sx _ _ hpl),DVs.same sx _ _ hw,G.ok,by omega,λ _ H6 k6 Sh6 P6=>⟨rfl,?_⟩,λ h=>absurd G.nd h⟩
  have s6:Same H5 H6:=λ b o e=>k6 b o (zha e nx) (sx b o e)
  have S6:=S5.trans s6
  refine ⟨_,rfl,a,nsc,0,rfl,S6.seq hS,λ n0=>?_⟩
  refine ⟨_,_,rfl,rfl,⟨by decide,by decide,by decide⟩,_,_,rfl,rfl,(by show (0:Int)<10 ^ Int.toNat 20;decide +kernel),_,_,rfl,rfl,?_⟩
  dsimp only
  generalize 100+n0 % 10 ^ Int.toNat 20=be
  refine ⟨sz_6,λ lo hp7=>?_⟩
  generalize hH7:upd H6 lo (HO.lst _)=H7;obtain ⟨s7,P7,h7⟩:=nwL hH7 hp7 P6
  have Sh7:=Sh6.same s7
  have S7:=S6.trans s7
  have hpl7:=(s6.trans s7) _ _ hpl
  have hw7:=DVs.same (s6.trans s7) _ _ hw
  have h47:=((s5.trans s6).trans s7) _ _ h4
  refine ⟨_,rfl,pc,rfl,⟨_,SqL.of h47⟩,?_⟩
  refine zkl (K:=K) (a:=pc) (xs:=cells) (λ i σ H8=>∃ (o6 o7 o8 o9 oa ob:Option V),σ=[some (.ref a),some (.ref pc),some (.ref pl),some (.ref x),some (.int be),some (.ref lo),o6,o7,o8,o9,oa,ob]∧Plain H8∧Same H7 H8)
   ⟨_,_,_,_,_,_,rfl,P7,Same.refl _⟩ (λ i σ H8 _ ⟨_,_,_,_,_,_,_,_,s⟩=>SqL.of (s _ _ h47)) ?_ ?_
  ·rintro i y T' σ H8 hy ⟨o6,o7,o8,o9,oa,ob,rfl,P8,S78⟩ hT
   obtain ⟨cell,rfl⟩:=hci y (List.mem_of_getElem? hy)
   refine ⟨T',_,rfl,SqT.of upd_same,rfl,_,_,rfl,_,_,rfl,rfl,?_⟩
   have sT:Same H8 (upd H8 T' (.tup [.int i,.int cell])):=zea hT
   have PT:Plain (upd H8 T' (.tup [.int i,.int cell])):=P8.tup
   generalize upd H8 T' (.tup [.int i,.int cell])=H9 at sT PT ⊢
   have U9:=S78.trans sT
   have S9:=S7.trans U9
   have hpl9:=U9 _ _ hpl7
   have hw9:=DVs.same U9 _ _ hw7
   have k0:=Int.emod_nonneg (cell / 3+i) (show (ws.length:Int)≠0 by omega)
   have k1:=Int.emod_lt_of_pos (cell / 3+i) (show (0:Int)<ws.length by omega)
   obtain ⟨j,hj⟩:∃ j:Nat,(cell / 3+i) % (ws.length:Int)=j:=⟨_,(Int.toNat_of_nonneg k0).symm⟩
   refine ⟨_,rfl,_,rfl,_,_,rfl,rfl,⟨by decide,by decide⟩,_,rfl,_,_,rfl,rfl,_,rfl,pl,ws,rfl,.inl (SqL.of hpl9),_,_,rfl,rfl,by omega,?_⟩
   dsimp only
   rw [hj] at k1 ⊢
   have him:j<ms.length:=by omega
   obtain ⟨y,hy2,hyd⟩:=hw9.get (i:=j) (d:=prD ms[j]) (by rw [List.getElem?_map,List.getElem?_eq_getElem him];rfl)
   obtain ⟨t,q0,vx,rfl,hq,hq0,hvx⟩:=zjp hyd
   refine ⟨pl,ws,_,_,rfl,rfl,SqL.of hpl9,zoi hy2,t,_,_,_,rfl,rfl,hq,rfl,?_⟩
   dsimp only [zkd,L2.start,List.set,List.map,List.length,List.replicate,List.append,List.cons_append,List.nil_append,Nat.reduceSub,Nat.reduceAdd]
   refine ⟨_,rfl,_,_,rfl,rfl,⟨by decide,by decide⟩,_,rfl,_,_,rfl,rfl,_,rfl,a,nsc,1,rfl,S9.seq hS,λ n1=>?_⟩
   refine ⟨_,_,rfl,rfl,_,_,rfl,rfl,⟨by decide,by decide,by decide⟩,sz_2,λ la hpa=>?_⟩
   generalize hHa:upd H9 la (HO.lst _)=Ha;obtain ⟨sa,Pa,ha⟩:=nwL hHa hpa PT
   have a0:=Int.emod_nonneg (cell / 70) (show (2:Int)≠0 by decide)
   have a1:=Int.emod_lt_of_pos (cell / 70) (show (0:Int)<2 by decide)
   obtain ⟨dv,hdv,dv0⟩:∃ dv:Int,atI [V.int 50,V.int (10 ^ Int.toNat 20)] (cell / 70 % 2)=some (.int dv)∧0<dv:=by
    rcases (show cell / 70 % 2=0 ∨ cell / 70 % 2=1 by omega) with e | e
    ·rw [e];exact ⟨50,rfl,by decide⟩
    ·rw [e];exact ⟨10 ^ Int.toNat 20,rfl,by decide +kernel⟩
   refine ⟨_,rfl,_,_,rfl,rfl,⟨by decide,by decide⟩,_,_,rfl,rfl,ip_2,la,_,_,_,rfl,rfl,SqL.of ha,hdv,_,_,rfl,rfl,dv0,_,_,rfl,rfl,?_⟩
   dsimp only
   generalize 1+(cell / 7+i+n1) % dv=nu
   refine ⟨sz_4,λ lb hpb=>?_⟩
   generalize hHb:upd Ha lb (HO.lst _)=Hb;obtain ⟨sb,Pb,hb⟩:=nwL hHb hpb Pa
   have b0:=Int.emod_nonneg (cell / 2) (show (4:Int)≠0 by decide)
   have b1:=Int.emod_lt_of_pos (cell / 2) (show (0:Int)<4 by decide)
   obtain ⟨st,hst⟩:∃ st:Str,atI [V.str "",V.str "turn",V.str "both",V.str "stay"] (cell / 2 % 4)=some (.str st):=by
    rcases (show cell / 2 % 4=0 ∨ cell / 2 % 4=1 ∨ cell / 2 % 4=2 ∨ cell / 2 % 4=3 by omega) with e | e | e | e <;> (rw [e];exact ⟨_,rfl⟩)
   refine ⟨_,rfl,_,_,rfl,rfl,⟨by decide,by decide⟩,_,_,rfl,rfl,ip_4,lb,_,_,_,rfl,rfl,SqL.of hb,hst,?_⟩
   dsimp only [zkd,L2.start,List.set,List.map,List.length,List.replicate,List.append,List.cons_append,List.nil_append,Nat.reduceSub,Nat.reduceAdd]
   refine ⟨_,rfl,_,rfl,sz_0,λ tc hpc=>?_⟩
   generalize hHc:upd Hb tc (HO.tup _)=Hc;obtain ⟨sc,Pc,hc⟩:=nwT hHc hpc Pb
   refine ⟨sz_3,λ td hpd=>?_⟩
   generalize hHd:upd Hc td (HO.tup _)=Hd;obtain ⟨sd,Pd,hd⟩:=nwT hHd hpd Pc
   have Ud:=((sa.trans sb).trans sc).trans sd
   refine ⟨_,rfl,_,rfl,_,_,rfl,rfl,⟨by decide,by decide⟩,_,rfl,_,_,rfl,rfl,Pd,pl,ws,ms,_,rfl,Ud _ _ hpl9,DVs.same Ud _ _ hw9,G,mne,λ va tva He okva va10 se Pe hva=>?_⟩
   refine ⟨_,rfl,_,rfl,sz_6,λ tf hpf=>?_⟩
   generalize hHf:upd He tf (HO.tup _)=Hf;obtain ⟨sf,Pf,hf⟩:=nwT hHf hpf Pe
   have Uf:=(Ud.trans se).trans sf
   have Vf:=U9.trans Uf
   obtain ⟨cl,hcl⟩:∃ cl:Cla,cl=((nu,ms[j].1,((90,[], ""):Ver),va,(i:Int),st):Cla):=⟨_,rfl⟩
   have hclD:DV K Hf (claD cl) (.ref tf):=by
    rw [hcl]
    exact zcw (c:=(nu,ms[j].1,(90,[], ""),va,(i:Int),st)) (SqT.of hf) (zhj (Uf.seqT hq0)) (zaf (v:=(90,[], "")) ((se.trans sf).seqT (SqT.of hd)) (DV.same ((sd.trans se).trans sf) _ _ (zqb hc))) (DV.same sf _ _ hva)
   have f0:=Int.emod_nonneg (cell / 5) (show (6:Int)≠0 by decide)
   have f1:=Int.emod_lt_of_pos (cell / 5) (show (0:Int)<6 by decide)
   obtain ⟨zz,hzz,zz0⟩:∃ zz:Str,atI [V.str "",V.str "Both",V.str "stay ",V.str "tur",V.str "both\n",V.str "open"] (cell / 5 % 6)=some (.str zz)∧isCh zz=false:=by
    rcases (show cell / 5 % 6=0 ∨ cell / 5 % 6=1 ∨ cell / 5 % 6=2 ∨ cell / 5 % 6=3 ∨ cell / 5 % 6=4 ∨ cell / 5 % 6=5 by omega) with e | e | e | e | e | e <;> (rw [e];exact ⟨_,rfl,by decide +kernel⟩)
   dsimp only [zkd,L2.start,List.set,List.map,List.length,List.replicate,List.append,List.cons_append,List.nil_append,Nat.reduceSub,Nat.reduceAdd]
   refine ⟨_,rfl,_,rfl,_,rfl,_,rfl,_,rfl,_,rfl,_,_,rfl,rfl,⟨by decide,by decide⟩,_,_,rfl,rfl,ip_6,lo,_,_,_,rfl,rfl,SqL.of (Vf _ _ h7),hzz,Pf,pl,ws,x,ms,.ref tf,cl,be,zz,rfl,Vf _ _ hpl7,DVs.same Vf _ _ hw7,G,Sh7.same Vf,hclD,(by rw [hcl];exact okva),(by rw [hcl];exact va10),zz0,λ Hg sg Pg=>?_⟩
   refine ⟨_,rfl,iteF ?_⟩
   exact ⟨_,_,_,_,_,_,rfl,Pg,Vf.trans sg⟩
  ·rintro σ H8 ⟨o6,o7,o8,o9,oa,ob,rfl,P8,S78⟩
   have Sh8:=Sh7.same S78
   obtain ⟨dx8,_,_,_,hx8,_⟩:=id Sh8.ex
   refine ⟨_,rfl,x,dx8,_,rfl,hx8,rfl,P8,x,ms,rfl,Sh8,λ H9 l6 bs6 w6 n6 s9 P9 hl6 pm6 pw6 hw6=>?_⟩
   have U9:=S78.trans s9
   refine ⟨_,rfl,zj1 G.nd (by omega) G.ok (U9 _ _ hpl7) (DVs.same U9 _ _ hw7) λ ss l2 ws2 hl2 pm2 pw2 hw2'=>?_⟩
   obtain rfl:bs6=ss:=zr0 (pm6.trans pm2.symm) pw6 pw2
   have s7':Same H9 (upd H9 l2 (.lst ws2)):=zea hl2
   have ok6:∀ m∈bs6,okV m.2:=λ m h=>G.ok m (pm6.mem_iff.mp h)
   refine ⟨.list (bs6.map prD),.list (bs6.map prD),⟨l6,w6,rfl,SqL.of (s7' _ _ hl6),DVs.same s7' _ _ hw6⟩,⟨l2,ws2,rfl,SqL.of upd_same,DVs.same s7' _ _ hw2'⟩,znb ok6,znb ok6,?_⟩
   rw [zal ok6]
   exact kk _
end
theorem ln_1 {us:List Value} (h:us.length=1):∃ a0,us=[a0]:=match us,h with | [a0],_=>⟨a0,rfl⟩
theorem ln_2 {us:List Value} (h:us.length=2):∃ a0 a1,us=[a0,a1]:=match us,h with | [a0,a1],_=>⟨a0,a1,rfl⟩
theorem ln_3 {us:List Value} (h:us.length=3):∃ a0 a1 a2,us=[a0,a1,a2]:=match us,h with | [a0,a1,a2],_=>⟨a0,a1,a2,rfl⟩
theorem ln_4 {us:List Value} (h:us.length=4):∃ a0 a1 a2 a3,us=[a0,a1,a2,a3]:=match us,h with | [a0,a1,a2,a3],_=>⟨a0,a1,a2,a3,rfl⟩
theorem ln_5 {us:List Value} (h:us.length=5):∃ a0 a1 a2 a3 a4,us=[a0,a1,a2,a3,a4]:=match us,h with | [a0,a1,a2,a3,a4],_=>⟨a0,a1,a2,a3,a4,rfl⟩
set_option maxHeartbeats 0 in
theorem all_mk {l:W.OpenLaw} {w:World} {K:W.Frag} {h:Heap} {mg:Str→Option Value} {fa:Addr} (X:K.In h) (G:h.Ns mainGlobals mg) (hfa:mg "law" = some (.ref fa))
  {f_q15:Addr} {d_q15:FuncData}
  {f_q17:Addr} {d_q17:FuncData}
  {f_q18:Addr} {d_q18:FuncData}
  {f_q20:Addr} {d_q20:FuncData}
  {f_q7:Addr} {d_q7:FuncData}
  {f_q10:Addr} {d_q10:FuncData}
  {f_q1:Addr} {d_q1:FuncData}
  {f_q6:Addr} {d_q6:FuncData}
  {f_q2:Addr} {d_q2:FuncData}
  {f_q0:Addr} {d_q0:FuncData}
  {f_q16:Addr} {d_q16:FuncData}
  {f_q19:Addr} {d_q19:FuncData}
  {f_q5:Addr} {d_q5:FuncData}
  {f_q9:Addr} {d_q9:FuncData}
  {f_q4:Addr} {d_q4:FuncData}
  {f_q13:Addr} {d_q13:FuncData}
  {f_q12:Addr} {d_q12:FuncData}
  {f_q8:Addr} {d_q8:FuncData}
  {f_q14:Addr} {d_q14:FuncData}
  {f_q3:Addr} {d_q3:FuncData}
  {f_q11:Addr} {d_q11:FuncData}
  {f_law:Addr} {d_law:FuncData}
  {C_DraftError:Addr}
  {C_NoBoth:Addr}
  {C_NoChoice:Addr}
  {C_NoClash:Addr}
  {C_NoPiece:Addr}
  {C_NoRoom:Addr}
  {C_NoSheet:Addr}
  {C_Settled:Addr}
  {C_Sheet:Addr}
  {C_CHOICES:Addr} {od_CHOICES:Option Addr} {sl_CHOICES:Array (Option Value)} {n_CHOICES:Nat} {t0_CHOICES t1_CHOICES t2_CHOICES:Tok}
  (a_q15:W.nsIn K mainGlobals "free_rank" = some (some (.ref f_q15))) (F_q15:Fun K "free_rank" "free_rank" zfy f_q15 d_q15)
  (a_q17:W.nsIn K mainGlobals "between" = some (some (.ref f_q17))) (F_q17:Fun K "between" "between" zhx f_q17 d_q17)
  (a_q18:W.nsIn K mainGlobals "at_beat" = some (some (.ref f_q18))) (F_q18:Fun K "at_beat" "at_beat" zlx f_q18 d_q18)
  (a_q20:W.nsIn K mainGlobals "is_in" = some (some (.ref f_q20))) (F_q20:Fun K "is_in" "is_in" zwv f_q20 d_q20)
  (a_q7:W.nsIn K mainGlobals "check_choice" = some (some (.ref f_q7))) (F_q7:Fun K "check_choice" "check_choice" s_q7 f_q7 d_q7)
  (a_q10:W.nsIn K mainGlobals "check_both" = some (some (.ref f_q10))) (F_q10:Fun K "check_both" "check_both" zkw f_q10 d_q10)
  (a_q1:W.findIn K (.ref C_Sheet) "__init__" = some (some (.ref f_q1))) (i_q1:W.isFn K (.ref f_q1)=true) (F_q1:Fun K "__init__" "Sheet.__init__" s_q1 f_q1 d_q1)
  (a_q6:W.findIn K (.ref C_Sheet) "pairs" = some (some (.ref f_q6))) (i_q6:W.isFn K (.ref f_q6)=true) (F_q6:Fun K "pairs" "Sheet.pairs" s_q6 f_q6 d_q6)
  (a_q2:W.findIn K (.ref C_Sheet) "lines" = some (some (.ref f_q2))) (i_q2:W.isFn K (.ref f_q2)=true) (F_q2:Fun K "lines" "Sheet.lines" s_q2 f_q2 d_q2)
  (a_q0:W.findIn K (.ref C_Sheet) "next_place" = some (some (.ref f_q0))) (i_q0:W.isFn K (.ref f_q0)=true) (F_q0:Fun K "next_place" "Sheet.next_place" s_q0 f_q0 d_q0)
  (a_q16:W.nsIn K mainGlobals "both_pair" = some (some (.ref f_q16))) (F_q16:Fun K "both_pair" "both_pair" zuv f_q16 d_q16)
  (a_q19:W.nsIn K mainGlobals "chosen" = some (some (.ref f_q19))) (F_q19:Fun K "chosen" "chosen" zwy f_q19 d_q19)
  (a_q5:W.nsIn K mainGlobals "_law_cell_at" = some (some (.ref f_q5))) (F_q5:Fun K "_law_cell_at" "_law_cell_at" s_q5 f_q5 d_q5)
  (a_q9:W.nsIn K mainGlobals "_law_place" = some (some (.ref f_q9))) (F_q9:Fun K "_law_place" "_law_place" s_q9 f_q9 d_q9)
  (a_q4:W.nsIn K mainGlobals "_law_version" = some (some (.ref f_q4))) (F_q4:Fun K "_law_version" "_law_version" s_q4 f_q4 d_q4)
  (a_q13:W.nsIn K mainGlobals "_law_sheet" = some (some (.ref f_q13))) (F_q13:Fun K "_law_sheet" "_law_sheet" zfx f_q13 d_q13)
  (a_q12:W.nsIn K mainGlobals "_law_aside" = some (some (.ref f_q12))) (F_q12:Fun K "_law_aside" "_law_aside" ziw f_q12 d_q12)
  (a_q8:W.nsIn K mainGlobals "_law_least" = some (some (.ref f_q8))) (F_q8:Fun K "_law_least" "_law_least" s_q8 f_q8 d_q8)
  (a_q14:W.nsIn K mainGlobals "_law_both" = some (some (.ref f_q14))) (F_q14:Fun K "_law_both" "_law_both" zex f_q14 d_q14)
  (a_q3:W.nsIn K mainGlobals "_law_refused" = some (some (.ref f_q3))) (F_q3:Fun K "_law_refused" "_law_refused" s_q3 f_q3 d_q3)
  (a_q11:W.nsIn K mainGlobals "_law_right" = some (some (.ref f_q11))) (F_q11:Fun K "_law_right" "_law_right" zox f_q11 d_q11)
  (a_law:W.nsIn K mainGlobals "law" = some (some (.ref f_law))) (F_law:Fun K "law" "law" zxs f_law d_law)
  (q_DraftError:W.nsIn K mainGlobals "DraftError" = some (some (.ref C_DraftError)))
  (x_DraftError:XCls K C_DraftError)
  (q_NoBoth:W.nsIn K mainGlobals "NoBoth" = some (some (.ref C_NoBoth)))
  (x_NoBoth:XCls K C_NoBoth)
  (q_NoChoice:W.nsIn K mainGlobals "NoChoice" = some (some (.ref C_NoChoice)))
  (x_NoChoice:XCls K C_NoChoice)
  (q_NoClash:W.nsIn K mainGlobals "NoClash" = some (some (.ref C_NoClash)))
  (x_NoClash:XCls K C_NoClash)
  (q_NoPiece:W.nsIn K mainGlobals "NoPiece" = some (some (.ref C_NoPiece)))
  (x_NoPiece:XCls K C_NoPiece)
  (q_NoRoom:W.nsIn K mainGlobals "NoRoom" = some (some (.ref C_NoRoom)))
  (x_NoRoom:XCls K C_NoRoom)
  (q_NoSheet:W.nsIn K mainGlobals "NoSheet" = some (some (.ref C_NoSheet)))
  (x_NoSheet:XCls K C_NoSheet)
  (q_Settled:W.nsIn K mainGlobals "Settled" = some (some (.ref C_Settled)))
  (x_Settled:XCls K C_Settled)
  (q_Sheet:W.nsIn K mainGlobals "Sheet" = some (some (.ref C_Sheet)))
  (pg_Sheet:W.plainGet K C_Sheet Str.empty=true) (hd_Sheet:W.hasDictIn K C_Sheet=true) (po_Sheet:W.plainOver K C_Sheet=true) (sa_Sheet:W.findIn K (.ref C_Sheet) "__setattr__" = some (some (.builtin "object.__setattr__"))) (mk_Sheet:W.makesIn K C_Sheet=true) (kc_Sheet:W.keepIn K (.ref C_Sheet)=true)
  (na_Sheet_versions:W.findIn K (.ref C_Sheet) "versions" = some none)
  (g_CHOICES:W.nsIn K mainGlobals "CHOICES" = some (some (.ref C_CHOICES))) (t_CHOICES:K.lookup C_CHOICES=some ⟨.type "tuple",od_CHOICES,.seq #[.str "stay" t0_CHOICES,.str "turn" t1_CHOICES,.str "both" t2_CHOICES] n_CHOICES,sl_CHOICES⟩)
  (m_NoChoice:W.mroIn K C_NoChoice (.ref C_DraftError)=some true)
  (m_NoBoth:W.mroIn K C_NoBoth (.ref C_DraftError)=some true)
  (v_NoChoice:W.kitOne K (.ref C_NoChoice) (.type "ValueError")=some true)
  (v_NoBoth:W.kitOne K (.ref C_NoBoth) (.type "ValueError")=some true)
  (i_NoChoice_NoBoth:W.kitOne K (.ref C_NoChoice) (.ref C_NoBoth)=some false)
  (i_NoBoth_NoChoice:W.kitOne K (.ref C_NoBoth) (.ref C_NoChoice)=some false)
  (j_NoChoice:W.kitAny K (.ref C_NoChoice) [.ref C_NoClash,.ref C_Settled]=some false)
  (j_NoBoth:W.kitAny K (.ref C_NoBoth) [.ref C_NoClash,.ref C_Settled]=some false)
  (n_ValueError:W.nsIn K mainGlobals "ValueError" = some none)
  (n_dict:W.nsIn K mainGlobals "dict" = some none)
  (n_enumerate:W.nsIn K mainGlobals "enumerate" = some none)
  (n_int:W.nsIn K mainGlobals "int" = some none)
  (n_isinstance:W.nsIn K mainGlobals "isinstance" = some none)
  (n_len:W.nsIn K mainGlobals "len" = some none)
  (n_list:W.nsIn K mainGlobals "list" = some none)
  (n_min:W.nsIn K mainGlobals "min" = some none)
  (n_range:W.nsIn K mainGlobals "range" = some none)
  (n_set:W.nsIn K mainGlobals "set" = some none)
  (n_sorted:W.nsIn K mainGlobals "sorted" = some none)
  (n_tuple:W.nsIn K mainGlobals "tuple" = some none)
  : ∃ fd:FuncData,(∀ (s:Shared) (v:Value),BindsTo s fd ⟨[v],[]⟩ [("_law_script",v)])∧∀ B:Heap,K.In B→B.Ns mainGlobals mg→FnOk l.prog w K mg B (CX1 l.prog w B) 7 fa fd ["_law_script"] (sp_law K):=by
 have e:=hfa.symm.trans (W.mg_of X G a_law)
 cases e
 obtain ⟨oc_law,od_law,kV_law,dc_law,pm_law,an_law,cd_law,ct_law,sl_law,rfl,l_law,c_law⟩:=id F_law.ex
 have T:Txt K mg ⟨f_q15,d_q15,f_q17,d_q17,f_q18,d_q18,f_q20,d_q20,f_q7,d_q7,f_q10,d_q10,f_q1,d_q1,f_q6,d_q6,f_q2,d_q2,f_q0,d_q0,f_q16,d_q16,f_q19,d_q19,f_q5,d_q5,f_q9,d_q9,f_q4,d_q4,f_q13,d_q13,f_q12,d_q12,f_q8,d_q8,f_q14,d_q14,f_q3,d_q3,f_q11,d_q11,fa,_,C_DraftError,C_NoBoth,C_NoChoice,C_NoClash,C_NoPiece,C_NoRoom,C_NoSheet,C_Settled,C_Sheet,C_CHOICES⟩:=⟨F_q15,(W.mg_of X G a_q15),F_q15.kp,(F_q15.binds λ _ _ _ _ _ _ us hl=>by obtain ⟨a0,a1,rfl⟩:=ln_2 hl;rfl),F_q17,(W.mg_of X G a_q17),F_q17.kp,(F_q17.binds λ _ _ _ _ _ _ us hl=>by obtain ⟨a0,a1,a2,a3,rfl⟩:=ln_4 hl;rfl),F_q18,(W.mg_of X G a_q18),F_q18.kp,(F_q18.binds λ _ _ _ _ _ _ us hl=>by obtain ⟨a0,a1,rfl⟩:=ln_2 hl;rfl),F_q20,(W.mg_of X G a_q20),F_q20.kp,(F_q20.binds λ _ _ _ _ _ _ us hl=>by obtain ⟨a0,rfl⟩:=ln_1 hl;rfl),F_q7,(W.mg_of X G a_q7),F_q7.kp,(F_q7.binds λ _ _ _ _ _ _ us hl=>by obtain ⟨a0,rfl⟩:=ln_1 hl;rfl),F_q10,(W.mg_of X G a_q10),F_q10.kp,(F_q10.binds λ _ _ _ _ _ _ us hl=>by obtain ⟨a0,a1,rfl⟩:=ln_2 hl;rfl),F_q1,(F_q1.binds λ _ _ _ _ _ _ us hl=>by obtain ⟨a0,a1,rfl⟩:=ln_2 hl;rfl),⟨mk_Sheet,a_q1,i_q1,kc_Sheet⟩,F_q6,(F_q6.binds λ _ _ _ _ _ _ us hl=>by obtain ⟨a0,rfl⟩:=ln_1 hl;rfl),⟨a_q6,i_q6,F_q6.kp⟩,F_q2,(F_q2.binds λ _ _ _ _ _ _ us hl=>by obtain ⟨a0,rfl⟩:=ln_1 hl;rfl),⟨a_q2,i_q2,F_q2.kp⟩,F_q0,(F_q0.binds λ _ _ _ _ _ _ us hl=>by obtain ⟨a0,a1,a2,rfl⟩:=ln_3 hl;rfl),⟨a_q0,i_q0,F_q0.kp⟩,F_q16,(W.mg_of X G a_q16),F_q16.kp,(F_q16.binds λ _ _ _ _ _ _ us hl=>by obtain ⟨a0,a1,a2,rfl⟩:=ln_3 hl;rfl),F_q19,(W.mg_of X G a_q19),F_q19.kp,(F_q19.binds λ _ _ _ _ _ _ us hl=>by obtain ⟨a0,a1,a2,a3,rfl⟩:=ln_4 hl;rfl),F_q5,(W.mg_of X G a_q5),F_q5.kp,(F_q5.binds λ _ _ _ _ _ _ us hl=>by obtain ⟨a0,a1,rfl⟩:=ln_2 hl;rfl),F_q9,(W.mg_of X G a_q9),F_q9.kp,(F_q9.binds λ _ _ _ _ _ _ us hl=>by obtain ⟨a0,rfl⟩:=ln_1 hl;rfl),F_q4,(W.mg_of X G a_q4),F_q4.kp,(F_q4.binds λ _ _ _ _ _ _ us hl=>by obtain ⟨a0,a1,rfl⟩:=ln_2 hl;rfl),F_q13,(W.mg_of X G a_q13),F_q13.kp,(F_q13.binds λ _ _ _ _ _ _ us hl=>by obtain ⟨a0,rfl⟩:=ln_1 hl;rfl),F_q12,(W.mg_of X G a_q12),F_q12.kp,(F_q12.binds λ _ _ _ _ _ _ us hl=>by obtain ⟨a0,a1,rfl⟩:=ln_2 hl;rfl),F_q8,(W.mg_of X G a_q8),F_q8.kp,(F_q8.binds λ _ _ _ _ _ _ us hl=>by obtain ⟨a0,a1,rfl⟩:=ln_2 hl;rfl),F_q14,(W.mg_of X G a_q14),F_q14.kp,(F_q14.binds λ _ _ _ _ _ _ us hl=>by obtain ⟨a0,a1,a2,a3,rfl⟩:=ln_4 hl;rfl),F_q3,(W.mg_of X G a_q3),F_q3.kp,(F_q3.binds λ _ _ _ _ _ _ us hl=>by obtain ⟨a0,a1,a2,a3,rfl⟩:=ln_4 hl;rfl),F_q11,(W.mg_of X G a_q11),F_q11.kp,(F_q11.binds λ _ _ _ _ _ _ us hl=>by obtain ⟨a0,a1,a2,a3,a4,rfl⟩:=ln_5 hl;rfl),F_law,(W.mg_of X G a_law),F_law.kp,(F_law.binds λ _ _ _ _ _ _ us hl=>match us,hl with | [_],_=>rfl),(W.mg_of X G q_DraftError),x_DraftError,(W.mg_of X G q_NoBoth),x_NoBoth,(W.mg_of X G q_NoChoice),x_NoChoice,(W.mg_of X G q_NoClash),x_NoClash,(W.mg_of X G q_NoPiece),x_NoPiece,(W.mg_of X G q_NoRoom),x_NoRoom,(W.mg_of X G q_NoSheet),x_NoSheet,(W.mg_of X G q_Settled),x_Settled,(W.mg_of X G q_Sheet),⟨pg_Sheet,hd_Sheet,po_Sheet,sa_Sheet⟩,na_Sheet_versions,(W.mg_of X G g_CHOICES),(λ H=>.inr ⟨_,_,_,t_CHOICES,rfl,rfl,sz_3,(.cons ⟨_,rfl⟩ (.cons ⟨_,rfl⟩ (.cons ⟨_,rfl⟩ .nil)))⟩),m_NoChoice,m_NoBoth,v_NoChoice,v_NoBoth,i_NoChoice_NoBoth,i_NoBoth_NoChoice,j_NoChoice,j_NoBoth,(W.mg_none_of X G n_ValueError),(W.mg_none_of X G n_dict),(W.mg_none_of X G n_enumerate),(W.mg_none_of X G n_int),(W.mg_none_of X G n_isinstance),(W.mg_none_of X G n_len),(W.mg_none_of X G n_list),(W.mg_none_of X G n_min),(W.mg_none_of X G n_range),(W.mg_none_of X G n_set),(W.mg_none_of X G n_sorted),(W.mg_none_of X G n_tuple)⟩
 refine ⟨W.fnOf "law" "law" (zcg zxs) (zhd zxs) (zia zxs) .none kV_law dc_law pm_law an_law cd_law ct_law,λ s v=>.of_eq rfl,λ B _ _=>?_⟩
 have G_q15:=zgx (P:=l.prog) (w:=w) (B:=B) T
 have G_q17:=zdy (P:=l.prog) (w:=w) (B:=B) T G_q15
 have G_q18:=zcx (P:=l.prog) (w:=w) (B:=B) T
 have G_q20:=zvv (P:=l.prog) (w:=w) (B:=B) T
 have G_q7:=zr1 (P:=l.prog) (w:=w) (B:=B) T
 have G_q10:=zbx (P:=l.prog) (w:=w) (B:=B) T G_q20
 have G_q1:=zq1 (P:=l.prog) (w:=w) (B:=B) T
 have G_q6:=zs1 (P:=l.prog) (w:=w) (B:=B) T
 have G_q2:=zo0 (P:=l.prog) (w:=w) (B:=B) T G_q20
 have G_q0:=za0 (P:=l.prog) (w:=w) (B:=B) T
 have G_q16:=zhy (P:=l.prog) (w:=w) (B:=B) T G_q17 G_q0
 have G_q19:=zzv (P:=l.prog) (w:=w) (B:=B) T G_q18 G_q7 G_q10 G_q16
 have G_q5:=zh0 (P:=l.prog) (w:=w) (B:=B) T
 have G_q9:=zn1 (P:=l.prog) (w:=w) (B:=B) T
 have G_q4:=zj0 (P:=l.prog) (w:=w) (B:=B) T G_q9
 have G_q13:=zhw (P:=l.prog) (w:=w) (B:=B) T G_q4
 have G_q12:=zzx (P:=l.prog) (w:=w) (B:=B) T G_q9
 have G_q8:=zc0 (P:=l.prog) (w:=w) (B:=B) T
 have G_q14:=zny (P:=l.prog) (w:=w) (B:=B) T G_q1 G_q2 G_q8
 have G_q3:=zn0 (P:=l.prog) (w:=w) (B:=B) T G_q19
 have G_q11:=zww (P:=l.prog) (w:=w) (B:=B) T G_q19 G_q14 G_q3
 have G_law:=zfw (P:=l.prog) (w:=w) (B:=B) T G_q1 G_q6 G_q5 G_q13 G_q12 G_q11
 exact G_law
theorem walk {l:W.OpenLaw} {q:Program} {loose:List Str} {XP:(Str→Option Value)→Heap→Prop} {YP:World→Heap→Prop} {d:DefRec} {K:Params→W.Frag} (hn:l.most=some 63) (hdf:d.params.defaults=[])
  (hY:∀ (w:World) (h:Heap),YP w h→(K w.params).In h)
  (F:∀ (w:World) (mg:Str→Option Value) (fa:Addr) (h:Heap),(K w.params).In h→h.Ns mainGlobals mg→mg d.name=some (.ref fa) →
   ∃ fd:FuncData,(∀ (s:Shared) (u:Value),BindsTo s fd ⟨[u],[]⟩ [("_law_script",u)])∧∀ B:Heap,(K w.params).In B→B.Ns mainGlobals mg→FnOk l.prog w (K w.params) mg B (CX1 l.prog w B) 7 fa fd ["_law_script"] (sp_law (K w.params))) :
  W.WalkO q loose XP YP l.row.toRowW d [] (λ f vs=>PySem.call f vs) :=
 zfr (n:=63) (k:=7) (x := "_law_script") (sp:=λ w=>sp_law (K w.params)) hn (by decide) hdf ⟨rfl,by decide,by decide⟩ hY F (λ _ _ a ns hl hO hS=>⟨a,ns,rfl,hS,hl,λ _=>rfl,hO.plain⟩)
end My
open PySem PySem.W PyProof.Rows
open Lean in
local macro_rules
 | `(tactic| o_head $H)=>do
  let (hl,hw,hc):=(mkIdent `hl,mkIdent `hw,mkIdent `hc)
  `(tactic| refine PySem.W.holds_open (q:=My.viewQ) (loose:=[]) (Xt:=λ s=>xlAt My.viewQ [] s && recOk (RowW.records PySem.Challenge.rw_twotabs_k31_chosen.row.toRowW) s) (XP:=XL My.viewQ []) (Yf:=Hook.obs $H) (Ya:=Hook.val $H) (YP:=Hook.says $H) (N:=5818) ?$hl (Hook.of $H) (Hook.keeps $H) (λ s e=>xl_of s (Bool.and_eq_true_iff.mp e).1) XL.keeps (by rfl) (by rfl) (by rfl) (λ s e=>recFacts_of (Bool.and_eq_true_iff.mp e).2) (by rfl) (by assumption) (by decide +kernel) ⟨rfl,rfl,rfl,rfl,rfl,by decide +kernel⟩ ?$hw ?$hc)
local macro_rules | `(tactic| walk_at "fn") => `(tactic| (refine' L2.fun_mk ?l ?c ?k; (case l=>k_is); (case c=>k_is); (case k=>k_is)))
set_option maxRecDepth 100000 in
set_option maxHeartbeats 0 in
theorem PySem.Challenge.cw_twotabs_k31_chosen_holds : PySem.Challenge.rw_twotabs_k31_chosen.Holds := by
 w_on;o_law;k_head; (case hw=>w_witness2); (case hl=>exact My.hlQ)
 k_fill
 refine My.walk (l:=PySem.Challenge.rw_twotabs_k31_chosen) rfl rfl (λ w h Y=>PySem.W.kIn_of Y) ?F
 case F =>
  intro w mg fa h KX G hmg
  refine' My.all_mk KX G hmg ?a_q15 ?F_q15 ?a_q17 ?F_q17 ?a_q18 ?F_q18 ?a_q20 ?F_q20 ?a_q7 ?F_q7 ?a_q10 ?F_q10 ?a_q1 ?i_q1 ?F_q1 ?a_q6 ?i_q6 ?F_q6 ?a_q2 ?i_q2 ?F_q2 ?a_q0 ?i_q0 ?F_q0 ?a_q16 ?F_q16 ?a_q19 ?F_q19 ?a_q5 ?F_q5 ?a_q9 ?F_q9 ?a_q4 ?F_q4 ?a_q13 ?F_q13 ?a_q12 ?F_q12 ?a_q8 ?F_q8 ?a_q14 ?F_q14 ?a_q3 ?F_q3 ?a_q11 ?F_q11 ?a_law ?F_law ?q_DraftError ?x_DraftError ?q_NoBoth ?x_NoBoth ?q_NoChoice ?x_NoChoice ?q_NoClash ?x_NoClash ?q_NoPiece ?x_NoPiece ?q_NoRoom ?x_NoRoom ?q_NoSheet ?x_NoSheet ?q_Settled ?x_Settled ?q_Sheet ?pg_Sheet ?hd_Sheet ?po_Sheet ?sa_Sheet ?mk_Sheet ?kc_Sheet ?na_Sheet_versions ?g_CHOICES ?t_CHOICES ?m_NoChoice ?m_NoBoth ?v_NoChoice ?v_NoBoth ?i_NoChoice_NoBoth ?i_NoBoth_NoChoice ?j_NoChoice ?j_NoBoth ?n_ValueError ?n_dict ?n_enumerate ?n_int ?n_isinstance ?n_len ?n_list ?n_min ?n_range ?n_set ?n_sorted ?n_tuple
  (case q_Sheet=>k_is)
  (case a_q15=>k_is)
  (case F_q15=>walk_at "fn")
  (case a_q17=>k_is)
  (case F_q17=>walk_at "fn")
  (case a_q18=>k_is)
  (case F_q18=>walk_at "fn")
  (case a_q20=>k_is)
  (case F_q20=>walk_at "fn")
  (case a_q7=>k_is)
  (case F_q7=>walk_at "fn")
  (case a_q10=>k_is)
  (case F_q10=>walk_at "fn")
  (case a_q1=>k_is)
  (case i_q1=>k_is)
  (case F_q1=>walk_at "fn")
  (case a_q6=>k_is)
  (case i_q6=>k_is)
  (case F_q6=>walk_at "fn")
  (case a_q2=>k_is)
  (case i_q2=>k_is)
  (case F_q2=>walk_at "fn")
  (case a_q0=>k_is)
  (case i_q0=>k_is)
  (case F_q0=>walk_at "fn")
  (case a_q16=>k_is)
  (case F_q16=>walk_at "fn")
  (case a_q19=>k_is)
  (case F_q19=>walk_at "fn")
  (case a_q5=>k_is)
  (case F_q5=>walk_at "fn")
  (case a_q9=>k_is)
  (case F_q9=>walk_at "fn")
  (case a_q4=>k_is)
  (case F_q4=>walk_at "fn")
  (case a_q13=>k_is)
  (case F_q13=>walk_at "fn")
  (case a_q12=>k_is)
  (case F_q12=>walk_at "fn")
  (case a_q8=>k_is)
  (case F_q8=>walk_at "fn")
  (case a_q14=>k_is)
  (case F_q14=>walk_at "fn")
  (case a_q3=>k_is)
  (case F_q3=>walk_at "fn")
  (case a_q11=>k_is)
  (case F_q11=>walk_at "fn")
  (case a_law=>k_is)
  (case F_law=>walk_at "fn")
  (case q_DraftError=>k_is)
  (case x_DraftError=>refine' L2.XCls.mk ?_ ?_ ?_ ?_ ?_ ?_ ?_ ?_ ?_;all_goals (first | k_is | k_exc))
  (case q_NoBoth=>k_is)
  (case x_NoBoth=>refine' L2.XCls.mk ?_ ?_ ?_ ?_ ?_ ?_ ?_ ?_ ?_;all_goals (first | k_is | k_exc))
  (case q_NoChoice=>k_is)
  (case x_NoChoice=>refine' L2.XCls.mk ?_ ?_ ?_ ?_ ?_ ?_ ?_ ?_ ?_;all_goals (first | k_is | k_exc))
  (case q_NoClash=>k_is)
  (case x_NoClash=>refine' L2.XCls.mk ?_ ?_ ?_ ?_ ?_ ?_ ?_ ?_ ?_;all_goals (first | k_is | k_exc))
  (case q_NoPiece=>k_is)
  (case x_NoPiece=>refine' L2.XCls.mk ?_ ?_ ?_ ?_ ?_ ?_ ?_ ?_ ?_;all_goals (first | k_is | k_exc))
  (case q_NoRoom=>k_is)
  (case x_NoRoom=>refine' L2.XCls.mk ?_ ?_ ?_ ?_ ?_ ?_ ?_ ?_ ?_;all_goals (first | k_is | k_exc))
  (case q_NoSheet=>k_is)
  (case x_NoSheet=>refine' L2.XCls.mk ?_ ?_ ?_ ?_ ?_ ?_ ?_ ?_ ?_;all_goals (first | k_is | k_exc))
  (case q_Settled=>k_is)
  (case x_Settled=>refine' L2.XCls.mk ?_ ?_ ?_ ?_ ?_ ?_ ?_ ?_ ?_;all_goals (first | k_is | k_exc))
  (case pg_Sheet=>k_is)
  (case hd_Sheet=>k_is)
  (case po_Sheet=>k_is)
  (case sa_Sheet=>k_is)
  (case mk_Sheet=>k_is)
  (case kc_Sheet=>k_is)
  (case na_Sheet_versions=>k_is)
  (case g_CHOICES=>k_is)
  (case t_CHOICES=>k_is)
  (case m_NoChoice=>first | k_is | kit_is)
  (case m_NoBoth=>first | k_is | kit_is)
  (case v_NoChoice=>first | k_is | kit_is)
  (case v_NoBoth=>first | k_is | kit_is)
  (case i_NoChoice_NoBoth=>first | k_is | kit_is)
  (case i_NoBoth_NoChoice=>first | k_is | kit_is)
  (case j_NoChoice=>first | k_is | kit_is)
  (case j_NoBoth=>first | k_is | kit_is)
  (case n_ValueError=>k_is)
  (case n_dict=>k_is)
  (case n_enumerate=>k_is)
  (case n_int=>k_is)
  (case n_isinstance=>k_is)
  (case n_len=>k_is)
  (case n_list=>k_is)
  (case n_min=>k_is)
  (case n_range=>k_is)
  (case n_set=>k_is)
  (case n_sorted=>k_is)
  (case n_tuple=>k_is)
