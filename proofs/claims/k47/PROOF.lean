import PyProof.Rows.All
import Wide.All
import OpenK.AllK
import Wide.FinOn
import Lean
import PyProof.EqAt
import PyProof.EqKinds
import PyProof.TupleCall
import PySem.Challenge.RW_twotabs_k47_slip_rows
set_option Elab.async false
set_option linter.all false
set_option genSizeOfSpec false
set_option genSizeOf false
set_option maxRecDepth 100000
namespace My
open PySem PySem.W PyProof.Rows
noncomputable def zpb (tb:String→Option Builtin) (p:Program) (w:World) (n0:Nat) (ann:Option Value):Nat→SharedT→Thread→Option SharedT
 | 0,_,_=>none
 | n+1,s,t=>match through t with
  | true=>some s
  | false=>match stepOk n0 ann t with
   | false=>none
   | true=>match stepT (denote tb) p w s t with
    | some (s',t')=>zpb tb p w n0 ann n s' t'
    | none=>none
theorem zzg {tb:String→Option Builtin} {p:Program} {w:World} {n0:Nat} {ann:Option Value}:∀ {n:Nat} {s s':SharedT} {t:Thread},zpb tb p w n0 ann n s t=some s'→topRun tb p w n0 ann n s.abs t=some s'.abs
 | 0,_,_,_,h=>by cases h
 | n+1,s,s',t,h=>by
  unfold zpb at h
  unfold topRun
  cases he:through t with
  | true=>rw [he] at h;cases h;rfl
  | false =>
   rw [he] at h
   cases hk:stepOk n0 ann t with
   | false=>rw [hk] at h;cases h
   | true =>
    rw [hk] at h
    cases hs:stepT (denote tb) p w s t with
    | none=>rw [hs] at h;cases h
    | some r=>obtain ⟨s2,t2⟩:=r;rw [hs] at h;rw [stepT_spec hs];exact zzg h
noncomputable def treeOf (l:List Obj):BT:=(l.foldl (λ x o=>(x.1.ins x.2 o,x.2+1)) (BT.nil,0)).1
theorem zgl {p q:Program} {loose:List Str} {Xt:Shared→Bool} {α:Type} {Yf:Shared→α} {Ya:World→α} {N:Nat} {g0:Bool} {m0:Nat} {T0:Params→BT} {L0:Params→Life}
  (e:opening p=plainProg p.main.scope.names) (hN:Nat.ble 600 N=true) (f:∀ s,fenceModules? p s=some s)
  (hT:∀ P:Params,absHeap (T0 P) m0 (L0 P)=boot_heap P)
  (size:∀ P:Params,((boot_heap P).isNs mainGlobals,(boot_heap P).objs.size)=(true,m0))
  (all:∀ w:World,(λ os=>(zpb treeTable p w m0 ((boot_heap w.params).nsMap mainGlobals "__annotations__") N ⟨T0 w.params,m0,L0 w.params,Array.mk [],boot_drawn,boot_toks,os⟩ (topStub p)).map λ s=>(λ r:Shared=>((staticsOk (importedModules p.main.body) (boot_heap w.params) r.heap && namesBound p r.heap && gensDone r && laidKept (boot_heap w.params) r.heap),openSeen q loose (importedModules p.main.body) Xt g0 r,Yf r)) s.abs)=λ _=>some (true,openGood q loose,Ya w)) :
  LeftO p q loose Xt Yf Ya N g0:=λ w=>by
 obtain ⟨⟨h,gs,d,k,os⟩,e1,e2⟩:=Option.map_eq_some_iff.mp (boot_open e hN f w)
 obtain ⟨rfl,rfl,rfl,rfl⟩:h=boot_heap w.params∧gs=Array.mk []∧d=boot_drawn∧k=boot_toks:=by simpa using e2
 obtain ⟨z1,z2⟩:_∧_:=by simpa only [Prod.mk.injEq] using size w.params
 obtain ⟨s,h1,h2⟩:=Option.map_eq_some_iff.mp (congrFun (all w) os)
 obtain ⟨l1,l2,l3⟩:_∧_∧_:=by simpa only [Prod.mk.injEq] using h2
 have r:=zzg h1
 have r:topRun treeTable p w m0 ((boot_heap w.params).nsMap mainGlobals "__annotations__") N ⟨boot_heap w.params,Array.mk [],boot_drawn,boot_toks,os⟩ (topStub p)=some s.abs:=by
  have e3:(⟨T0 w.params,m0,L0 w.params,Array.mk [],boot_drawn,boot_toks,os⟩:SharedT).abs=⟨boot_heap w.params,Array.mk [],boot_drawn,boot_toks,os⟩:=by
   show (⟨absHeap (T0 w.params) m0 (L0 w.params),_,_,_,_⟩:Shared)=_
   rw [hT]
  rw [← e3]
  exact r
 have t:topFrom treeTable p w N ⟨boot_heap w.params,Array.mk [],boot_drawn,boot_toks,os⟩=some s.abs:=by
  unfold topFrom
  dsimp only
  rw [z1,z2,r]
  show (match staticsOk (importedModules p.main.body) (boot_heap w.params) s.abs.heap && namesBound p s.abs.heap && gensDone s.abs && laidKept (boot_heap w.params) s.abs.heap with | true=>_ | false=>_)=_
  rw [l1]
 unfold openEnds
 rw [e1]
 show (topFrom treeTable p w N _).map _=_
 rw [t]
 exact congrArg some (Prod.ext l2 l3)
end My
namespace My
open PySem PySem.W PyProof.Rows
abbrev allAt (p q:Program) (loose:List Str) (Xt:Shared→Bool) {α:Type} (Yf:Shared→α) (Ya:World→α) (N:Nat) (g0:Bool) (m0:Nat) (T0:Params→BT) (L0:Params→Life) (w:World):Prop :=
 (λ os=>(zpb treeTable p w m0 ((boot_heap w.params).nsMap mainGlobals "__annotations__") N ⟨T0 w.params,m0,L0 w.params,Array.mk [],boot_drawn,boot_toks,os⟩ (topStub p)).map λ s=>(λ r:Shared=>((staticsOk (importedModules p.main.body) (boot_heap w.params) r.heap && namesBound p r.heap && gensDone r && laidKept (boot_heap w.params) r.heap),openSeen q loose (importedModules p.main.body) Xt g0 r,Yf r)) s.abs)=λ _=>some (true,openGood q loose,Ya w)
theorem left_treeS {p q:Program} {loose:List Str} {Xt:Shared→Bool} {α:Type} {Yf:Shared→α} {Ya:World→α} {N:Nat} {g0:Bool} {m0:Nat} {T0:Params→BT} {L0:Params→Life} (row:String)
  (e:opening p=plainProg p.main.scope.names) (hN:Nat.ble 600 N=true) (f:∀ s,fenceModules? p s=some s)
  (hT:∀ P:Params,absHeap (T0 P) m0 (L0 P)=boot_heap P)
  (size:∀ P:Params,((boot_heap P).isNs mainGlobals,(boot_heap P).objs.size)=(true,m0))
  (hf:∀ w:World,allAt p q loose Xt Yf Ya N g0 m0 T0 L0 (w.withFollow row false)) (ht:∀ w:World,allAt p q loose Xt Yf Ya N g0 m0 T0 L0 (w.withFollow row true)):LeftO p q loose Xt Yf Ya N g0:=by
 refine zgl e hN f hT size λ w=>?_
 have h:allAt p q loose Xt Yf Ya N g0 m0 T0 L0 w:=by
  rw [← World.withFollow_self w row]
  cases w.params.followText row with
  | false=>exact hf w
  | true=>exact ht w
 exact h
end My
namespace My
open PySem PySem.W PyProof.Rows
abbrev atB (p q:Program) (loose:List Str) (Xt:Shared→Bool) (N:Nat) (g0:Bool) (m0:Nat) (T0:Params→BT) (L0:Params→Life) (w:World):Prop :=
 (λ os=>(zpb treeTable p w m0 ((boot_heap w.params).nsMap mainGlobals "__annotations__") N ⟨T0 w.params,m0,L0 w.params,Array.mk [],boot_drawn,boot_toks,os⟩ (topStub p)).map λ s=>(λ r:Shared=>((staticsOk (importedModules p.main.body) (boot_heap w.params) r.heap && namesBound p r.heap && gensDone r && laidKept (boot_heap w.params) r.heap),(openSeen q loose (importedModules p.main.body) Xt g0 r).1)) s.abs)=λ _=>some (true,expectedOf q)
abbrev atD (p q:Program) (loose:List Str) (Xt:Shared→Bool) (N:Nat) (g0:Bool) (m0:Nat) (T0:Params→BT) (L0:Params→Life) (w:World):Prop :=
 (λ os=>(zpb treeTable p w m0 ((boot_heap w.params).nsMap mainGlobals "__annotations__") N ⟨T0 w.params,m0,L0 w.params,Array.mk [],boot_drawn,boot_toks,os⟩ (topStub p)).map λ s=>(λ r:Shared=>((openSeen q loose (importedModules p.main.body) Xt g0 r).2.1,(openSeen q loose (importedModules p.main.body) Xt g0 r).2.2.1)) s.abs)=λ _=>some (bltViewBooted,true)
abbrev atF (p q:Program) (loose:List Str) (Xt:Shared→Bool) (N:Nat) (g0:Bool) (m0:Nat) (T0:Params→BT) (L0:Params→Life) (w:World):Prop :=
 (λ os=>(zpb treeTable p w m0 ((boot_heap w.params).nsMap mainGlobals "__annotations__") N ⟨T0 w.params,m0,L0 w.params,Array.mk [],boot_drawn,boot_toks,os⟩ (topStub p)).map λ s=>(λ r:Shared=>(openSeen q loose (importedModules p.main.body) Xt g0 r).2.2.2.1) s.abs)=λ _=>some true
abbrev atE (p q:Program) (loose:List Str) (Xt:Shared→Bool) (N:Nat) (g0:Bool) (m0:Nat) (T0:Params→BT) (L0:Params→Life) (w:World):Prop :=
 (λ os=>(zpb treeTable p w m0 ((boot_heap w.params).nsMap mainGlobals "__annotations__") N ⟨T0 w.params,m0,L0 w.params,Array.mk [],boot_drawn,boot_toks,os⟩ (topStub p)).map λ s=>(λ r:Shared=>((openSeen q loose (importedModules p.main.body) Xt g0 r).2.2.2.2.1,(openSeen q loose (importedModules p.main.body) Xt g0 r).2.2.2.2.2.1,(openSeen q loose (importedModules p.main.body) Xt g0 r).2.2.2.2.2.2.1,(openSeen q loose (importedModules p.main.body) Xt g0 r).2.2.2.2.2.2.2.1,(openSeen q loose (importedModules p.main.body) Xt g0 r).2.2.2.2.2.2.2.2)) s.abs)=λ _=>some (pinGoodD (drecsOf q),plainGoodE q (looseW q loose),plainGoodD q loose,wideGood q,clsGoodW q loose)
abbrev atC (p:Program) {α:Type} (Yf:Shared→α) (Ya:World→α) (N:Nat) (m0:Nat) (T0:Params→BT) (L0:Params→Life) (w:World):Prop :=
 (λ os=>(zpb treeTable p w m0 ((boot_heap w.params).nsMap mainGlobals "__annotations__") N ⟨T0 w.params,m0,L0 w.params,Array.mk [],boot_drawn,boot_toks,os⟩ (topStub p)).map λ s=>(λ r:Shared=>Yf r) s.abs)=λ _=>some (Ya w)
theorem all_of {p q:Program} {loose:List Str} {Xt:Shared→Bool} {α:Type} {Yf:Shared→α} {Ya:World→α} {N:Nat} {g0:Bool} {m0:Nat} {T0:Params→BT} {L0:Params→Life} {w:World} (h2:atB p q loose Xt N g0 m0 T0 L0 w) (h4:atD p q loose Xt N g0 m0 T0 L0 w) (h6:atF p q loose Xt N g0 m0 T0 L0 w) (h5:atE p q loose Xt N g0 m0 T0 L0 w) (h3:atC p Yf Ya N m0 T0 L0 w):allAt p q loose Xt Yf Ya N g0 m0 T0 L0 w:=by
 unfold allAt
 funext os
 have b:=congrFun h2 os
 have c:=congrFun h3 os
 have d:=congrFun h4 os
 have e:=congrFun h5 os
 have f:=congrFun h6 os
 dsimp only at b c d e f ⊢
 cases hX:zpb treeTable p w m0 ((boot_heap w.params).nsMap mainGlobals "__annotations__") N ⟨T0 w.params,m0,L0 w.params,Array.mk [],boot_drawn,boot_toks,os⟩ (topStub p) with
 | none=>rw [hX] at b;cases b
 | some s =>
  rw [hX] at b c d e f
  rw [Option.map_some] at b c d e f ⊢
  have d:=Option.some.inj d
  have b:=Option.some.inj b
  have e:=Option.some.inj e
  have e1:=Prod.ext_iff.mp e
  have e2:=Prod.ext_iff.mp e1.2
  have e3:=Prod.ext_iff.mp e2.2
  have e4:=Prod.ext_iff.mp e3.2
  have d1:=Prod.ext_iff.mp d
  have f:=Option.some.inj f
  have hS:openSeen q loose (importedModules p.main.body) Xt g0 s.abs=openGood q loose:=Prod.ext (Prod.ext_iff.mp b).2 (Prod.ext d1.1 (Prod.ext d1.2 (Prod.ext f (Prod.ext e1.1 (Prod.ext e2.1 (Prod.ext e3.1 (Prod.ext e4.1 e4.2)))))))
  have b1:=(Prod.ext_iff.mp b).1
  dsimp only at b1
  rw [b1,hS,Option.some.inj c]
end My
section
open PySem PySem.W PyProof.Rows
noncomputable def My.viewQ:Program:={ PySem.Challenge.pw_twotabs_k47_slip_rows with main:={ PySem.Challenge.pw_twotabs_k47_slip_rows.main with body:=[1,2,3,4,5,6,7,8,9,10,12,13,14,15,16,17,18,19,20,21,22,23,24,26,27,28,29,30,32,33,34,35,36,37,39,40,41,42,43,44,45,46,47,48,49,50,51,52,53,55,56,57,58,59,60,61,62,63,64,65,66,68,69,70,71,72,73,74,75,76,77,78,79,80].filterMap (PySem.Challenge.pw_twotabs_k47_slip_rows.main.body[·]?) } }
open Lean in
local macro_rules
 | `(tactic| o_head $H)=>do
  let (hl,hw,hc):=(mkIdent `hl,mkIdent `hw,mkIdent `hc)
  `(tactic| refine W.holds_open (q:=My.viewQ) (loose:=["TOO_GREAT", "DEEDS", "SHAPES", "LEAST"]) (Xt:=λ s=>xlAt My.viewQ [] s && recOk (RowW.records PySem.Challenge.rw_twotabs_k47_slip_rows.row.toRowW) s) (XP:=XL My.viewQ []) (Yf:=Hook.obs $H) (Ya:=Hook.val $H) (YP:=Hook.says $H) (N:=8966) ?$hl (Hook.of $H) (Hook.keeps $H) (λ s e=>xl_of s (Bool.and_eq_true_iff.mp e).1) XL.keeps (by rfl) (by rfl) (by rfl) (λ s e=>recFacts_of (Bool.and_eq_true_iff.mp e).2) (by rfl) (by assumption) (by decide +kernel) ⟨rfl,rfl,rfl,rfl,rfl,by decide +kernel⟩ ?$hw ?$hc)
local macro_rules | `(tactic| walk_at "fn") => `(tactic| (refine' L2.fun_mk ?l ?c ?k; (case l=>k_is); (case c=>k_is); (case k=>k_is)))
set_option maxRecDepth 100000 in
set_option maxHeartbeats 0 in
theorem My.dummy (hF:False):PySem.Challenge.rw_twotabs_k47_slip_rows.Holds:=by
 w_on;o_law;k_head
 all_goals exact hF.elim
set_option maxRecDepth 100000 in
set_option maxHeartbeats 0 in
theorem My.hlb_false (w:World):My.atB PySem.Challenge.rw_twotabs_k47_slip_rows.row.prog My.viewQ ["TOO_GREAT", "DEEDS", "SHAPES", "LEAST"] (λ s=>xlAt My.viewQ [] s && recOk (RowW.records PySem.Challenge.rw_twotabs_k47_slip_rows.row.toRowW) s) 8966 true 11 (λ P=>My.treeOf (boot_heap P).objs.toList) (λ P=>(boot_heap P).life) (w.withFollow "special-get-raises" false):=by
 kernel_rfl
set_option maxRecDepth 100000 in
set_option maxHeartbeats 0 in
theorem My.hld_false (w:World):My.atD PySem.Challenge.rw_twotabs_k47_slip_rows.row.prog My.viewQ ["TOO_GREAT", "DEEDS", "SHAPES", "LEAST"] (λ s=>xlAt My.viewQ [] s && recOk (RowW.records PySem.Challenge.rw_twotabs_k47_slip_rows.row.toRowW) s) 8966 true 11 (λ P=>My.treeOf (boot_heap P).objs.toList) (λ P=>(boot_heap P).life) (w.withFollow "special-get-raises" false):=by
 kernel_rfl
set_option maxRecDepth 100000 in
set_option maxHeartbeats 0 in
theorem My.hlf_false (w:World):My.atF PySem.Challenge.rw_twotabs_k47_slip_rows.row.prog My.viewQ ["TOO_GREAT", "DEEDS", "SHAPES", "LEAST"] (λ s=>xlAt My.viewQ [] s && recOk (RowW.records PySem.Challenge.rw_twotabs_k47_slip_rows.row.toRowW) s) 8966 true 11 (λ P=>My.treeOf (boot_heap P).objs.toList) (λ P=>(boot_heap P).life) (w.withFollow "special-get-raises" false):=by
 kernel_rfl
set_option maxRecDepth 100000 in
set_option maxHeartbeats 0 in
theorem My.hle_false (w:World):My.atE PySem.Challenge.rw_twotabs_k47_slip_rows.row.prog My.viewQ ["TOO_GREAT", "DEEDS", "SHAPES", "LEAST"] (λ s=>xlAt My.viewQ [] s && recOk (RowW.records PySem.Challenge.rw_twotabs_k47_slip_rows.row.toRowW) s) 8966 true 11 (λ P=>My.treeOf (boot_heap P).objs.toList) (λ P=>(boot_heap P).life) (w.withFollow "special-get-raises" false):=by
 kernel_rfl
set_option maxRecDepth 100000 in
set_option maxHeartbeats 0 in
theorem My.hlc_false (w:World):My.atC PySem.Challenge.rw_twotabs_k47_slip_rows.row.prog (kHook My.dummy.heap_39 [2,3,15,22,23,24,25,28,35,36,37,40,47,48,49,52,59,60,61,64,71,72,73,76,83,84,85,88,95,96,97,100,107,108,109,112,119,120,121,124,131,132,133,136,138,139,141,142,143,146,147,148,150,151,153,154,155,157,158,160,161,162,164,165,167,168,169,171,172,174,175,176,178,179,181,182,183,186,187,188,191,192,193,195,196,198,199,200,202,203,205,206,207,209,210,212,213,214,217,218,219,222,223,224,226,227,229,230,231,233,234,236,237,238,240,241,243,244,245,247,248,250,251,252,254,255,257,258,259,260,262,263,265,266,267,269,270,272,273,274,276,277,279,280,281,283,284,286,287,288,290,291,293,294,295,297,298,300,301,302,304,305,307,308,309,311,312,314,315,316,318,319,321,322,323,325,326,328,329,330,332,333,335,336,337,339,340,342,343,344,346,347,349,350,351,354,355,356,357,358,359,360,361,362,363,364,365,366,367,368,369,370,371,372,373,374,375,376,378,379,381,382,383,386,387,388,390,391,393,394,395,397,398,400,401,402,405,406,407,409,410,412,413,414,416,417,419,420,421,423,424,426,427,428,430,431,433,434,435,437,438,440,441,442,444,445,447,448,449,451,452,454,455,456,458,459,461,462,463,465,466,468,469,470,472,473,475,476,477,479,480,482,483,484,487,488,489,491,492,494,495,496,498,499,501,502,503,505,506,508,509,510,512,513,515,516] (λ _=>rfl)).obs (kHook My.dummy.heap_39 [2,3,15,22,23,24,25,28,35,36,37,40,47,48,49,52,59,60,61,64,71,72,73,76,83,84,85,88,95,96,97,100,107,108,109,112,119,120,121,124,131,132,133,136,138,139,141,142,143,146,147,148,150,151,153,154,155,157,158,160,161,162,164,165,167,168,169,171,172,174,175,176,178,179,181,182,183,186,187,188,191,192,193,195,196,198,199,200,202,203,205,206,207,209,210,212,213,214,217,218,219,222,223,224,226,227,229,230,231,233,234,236,237,238,240,241,243,244,245,247,248,250,251,252,254,255,257,258,259,260,262,263,265,266,267,269,270,272,273,274,276,277,279,280,281,283,284,286,287,288,290,291,293,294,295,297,298,300,301,302,304,305,307,308,309,311,312,314,315,316,318,319,321,322,323,325,326,328,329,330,332,333,335,336,337,339,340,342,343,344,346,347,349,350,351,354,355,356,357,358,359,360,361,362,363,364,365,366,367,368,369,370,371,372,373,374,375,376,378,379,381,382,383,386,387,388,390,391,393,394,395,397,398,400,401,402,405,406,407,409,410,412,413,414,416,417,419,420,421,423,424,426,427,428,430,431,433,434,435,437,438,440,441,442,444,445,447,448,449,451,452,454,455,456,458,459,461,462,463,465,466,468,469,470,472,473,475,476,477,479,480,482,483,484,487,488,489,491,492,494,495,496,498,499,501,502,503,505,506,508,509,510,512,513,515,516] (λ _=>rfl)).val 8966 11 (λ P=>My.treeOf (boot_heap P).objs.toList) (λ P=>(boot_heap P).life) (w.withFollow "special-get-raises" false):=by
 kernel_rfl
theorem My.hl_false (w:World):My.allAt PySem.Challenge.rw_twotabs_k47_slip_rows.row.prog My.viewQ ["TOO_GREAT", "DEEDS", "SHAPES", "LEAST"] (λ s=>xlAt My.viewQ [] s && recOk (RowW.records PySem.Challenge.rw_twotabs_k47_slip_rows.row.toRowW) s) (kHook My.dummy.heap_39 [2,3,15,22,23,24,25,28,35,36,37,40,47,48,49,52,59,60,61,64,71,72,73,76,83,84,85,88,95,96,97,100,107,108,109,112,119,120,121,124,131,132,133,136,138,139,141,142,143,146,147,148,150,151,153,154,155,157,158,160,161,162,164,165,167,168,169,171,172,174,175,176,178,179,181,182,183,186,187,188,191,192,193,195,196,198,199,200,202,203,205,206,207,209,210,212,213,214,217,218,219,222,223,224,226,227,229,230,231,233,234,236,237,238,240,241,243,244,245,247,248,250,251,252,254,255,257,258,259,260,262,263,265,266,267,269,270,272,273,274,276,277,279,280,281,283,284,286,287,288,290,291,293,294,295,297,298,300,301,302,304,305,307,308,309,311,312,314,315,316,318,319,321,322,323,325,326,328,329,330,332,333,335,336,337,339,340,342,343,344,346,347,349,350,351,354,355,356,357,358,359,360,361,362,363,364,365,366,367,368,369,370,371,372,373,374,375,376,378,379,381,382,383,386,387,388,390,391,393,394,395,397,398,400,401,402,405,406,407,409,410,412,413,414,416,417,419,420,421,423,424,426,427,428,430,431,433,434,435,437,438,440,441,442,444,445,447,448,449,451,452,454,455,456,458,459,461,462,463,465,466,468,469,470,472,473,475,476,477,479,480,482,483,484,487,488,489,491,492,494,495,496,498,499,501,502,503,505,506,508,509,510,512,513,515,516] (λ _=>rfl)).obs (kHook My.dummy.heap_39 [2,3,15,22,23,24,25,28,35,36,37,40,47,48,49,52,59,60,61,64,71,72,73,76,83,84,85,88,95,96,97,100,107,108,109,112,119,120,121,124,131,132,133,136,138,139,141,142,143,146,147,148,150,151,153,154,155,157,158,160,161,162,164,165,167,168,169,171,172,174,175,176,178,179,181,182,183,186,187,188,191,192,193,195,196,198,199,200,202,203,205,206,207,209,210,212,213,214,217,218,219,222,223,224,226,227,229,230,231,233,234,236,237,238,240,241,243,244,245,247,248,250,251,252,254,255,257,258,259,260,262,263,265,266,267,269,270,272,273,274,276,277,279,280,281,283,284,286,287,288,290,291,293,294,295,297,298,300,301,302,304,305,307,308,309,311,312,314,315,316,318,319,321,322,323,325,326,328,329,330,332,333,335,336,337,339,340,342,343,344,346,347,349,350,351,354,355,356,357,358,359,360,361,362,363,364,365,366,367,368,369,370,371,372,373,374,375,376,378,379,381,382,383,386,387,388,390,391,393,394,395,397,398,400,401,402,405,406,407,409,410,412,413,414,416,417,419,420,421,423,424,426,427,428,430,431,433,434,435,437,438,440,441,442,444,445,447,448,449,451,452,454,455,456,458,459,461,462,463,465,466,468,469,470,472,473,475,476,477,479,480,482,483,484,487,488,489,491,492,494,495,496,498,499,501,502,503,505,506,508,509,510,512,513,515,516] (λ _=>rfl)).val 8966 true 11 (λ P=>My.treeOf (boot_heap P).objs.toList) (λ P=>(boot_heap P).life) (w.withFollow "special-get-raises" false):=My.all_of (My.hlb_false w) (My.hld_false w) (My.hlf_false w) (My.hle_false w) (My.hlc_false w)
set_option maxRecDepth 100000 in
set_option maxHeartbeats 0 in
theorem My.hlb_true (w:World):My.atB PySem.Challenge.rw_twotabs_k47_slip_rows.row.prog My.viewQ ["TOO_GREAT", "DEEDS", "SHAPES", "LEAST"] (λ s=>xlAt My.viewQ [] s && recOk (RowW.records PySem.Challenge.rw_twotabs_k47_slip_rows.row.toRowW) s) 8966 true 11 (λ P=>My.treeOf (boot_heap P).objs.toList) (λ P=>(boot_heap P).life) (w.withFollow "special-get-raises" true):=by
 kernel_rfl
set_option maxRecDepth 100000 in
set_option maxHeartbeats 0 in
theorem My.hld_true (w:World):My.atD PySem.Challenge.rw_twotabs_k47_slip_rows.row.prog My.viewQ ["TOO_GREAT", "DEEDS", "SHAPES", "LEAST"] (λ s=>xlAt My.viewQ [] s && recOk (RowW.records PySem.Challenge.rw_twotabs_k47_slip_rows.row.toRowW) s) 8966 true 11 (λ P=>My.treeOf (boot_heap P).objs.toList) (λ P=>(boot_heap P).life) (w.withFollow "special-get-raises" true):=by
 kernel_rfl
set_option maxRecDepth 100000 in
set_option maxHeartbeats 0 in
theorem My.hlf_true (w:World):My.atF PySem.Challenge.rw_twotabs_k47_slip_rows.row.prog My.viewQ ["TOO_GREAT", "DEEDS", "SHAPES", "LEAST"] (λ s=>xlAt My.viewQ [] s && recOk (RowW.records PySem.Challenge.rw_twotabs_k47_slip_rows.row.toRowW) s) 8966 true 11 (λ P=>My.treeOf (boot_heap P).objs.toList) (λ P=>(boot_heap P).life) (w.withFollow "special-get-raises" true):=by
 kernel_rfl
set_option maxRecDepth 100000 in
set_option maxHeartbeats 0 in
theorem My.hle_true (w:World):My.atE PySem.Challenge.rw_twotabs_k47_slip_rows.row.prog My.viewQ ["TOO_GREAT", "DEEDS", "SHAPES", "LEAST"] (λ s=>xlAt My.viewQ [] s && recOk (RowW.records PySem.Challenge.rw_twotabs_k47_slip_rows.row.toRowW) s) 8966 true 11 (λ P=>My.treeOf (boot_heap P).objs.toList) (λ P=>(boot_heap P).life) (w.withFollow "special-get-raises" true):=by
 kernel_rfl
set_option maxRecDepth 100000 in
set_option maxHeartbeats 0 in
theorem My.hlc_true (w:World):My.atC PySem.Challenge.rw_twotabs_k47_slip_rows.row.prog (kHook My.dummy.heap_39 [2,3,15,22,23,24,25,28,35,36,37,40,47,48,49,52,59,60,61,64,71,72,73,76,83,84,85,88,95,96,97,100,107,108,109,112,119,120,121,124,131,132,133,136,138,139,141,142,143,146,147,148,150,151,153,154,155,157,158,160,161,162,164,165,167,168,169,171,172,174,175,176,178,179,181,182,183,186,187,188,191,192,193,195,196,198,199,200,202,203,205,206,207,209,210,212,213,214,217,218,219,222,223,224,226,227,229,230,231,233,234,236,237,238,240,241,243,244,245,247,248,250,251,252,254,255,257,258,259,260,262,263,265,266,267,269,270,272,273,274,276,277,279,280,281,283,284,286,287,288,290,291,293,294,295,297,298,300,301,302,304,305,307,308,309,311,312,314,315,316,318,319,321,322,323,325,326,328,329,330,332,333,335,336,337,339,340,342,343,344,346,347,349,350,351,354,355,356,357,358,359,360,361,362,363,364,365,366,367,368,369,370,371,372,373,374,375,376,378,379,381,382,383,386,387,388,390,391,393,394,395,397,398,400,401,402,405,406,407,409,410,412,413,414,416,417,419,420,421,423,424,426,427,428,430,431,433,434,435,437,438,440,441,442,444,445,447,448,449,451,452,454,455,456,458,459,461,462,463,465,466,468,469,470,472,473,475,476,477,479,480,482,483,484,487,488,489,491,492,494,495,496,498,499,501,502,503,505,506,508,509,510,512,513,515,516] (λ _=>rfl)).obs (kHook My.dummy.heap_39 [2,3,15,22,23,24,25,28,35,36,37,40,47,48,49,52,59,60,61,64,71,72,73,76,83,84,85,88,95,96,97,100,107,108,109,112,119,120,121,124,131,132,133,136,138,139,141,142,143,146,147,148,150,151,153,154,155,157,158,160,161,162,164,165,167,168,169,171,172,174,175,176,178,179,181,182,183,186,187,188,191,192,193,195,196,198,199,200,202,203,205,206,207,209,210,212,213,214,217,218,219,222,223,224,226,227,229,230,231,233,234,236,237,238,240,241,243,244,245,247,248,250,251,252,254,255,257,258,259,260,262,263,265,266,267,269,270,272,273,274,276,277,279,280,281,283,284,286,287,288,290,291,293,294,295,297,298,300,301,302,304,305,307,308,309,311,312,314,315,316,318,319,321,322,323,325,326,328,329,330,332,333,335,336,337,339,340,342,343,344,346,347,349,350,351,354,355,356,357,358,359,360,361,362,363,364,365,366,367,368,369,370,371,372,373,374,375,376,378,379,381,382,383,386,387,388,390,391,393,394,395,397,398,400,401,402,405,406,407,409,410,412,413,414,416,417,419,420,421,423,424,426,427,428,430,431,433,434,435,437,438,440,441,442,444,445,447,448,449,451,452,454,455,456,458,459,461,462,463,465,466,468,469,470,472,473,475,476,477,479,480,482,483,484,487,488,489,491,492,494,495,496,498,499,501,502,503,505,506,508,509,510,512,513,515,516] (λ _=>rfl)).val 8966 11 (λ P=>My.treeOf (boot_heap P).objs.toList) (λ P=>(boot_heap P).life) (w.withFollow "special-get-raises" true):=by
 kernel_rfl
theorem My.hl_true (w:World):My.allAt PySem.Challenge.rw_twotabs_k47_slip_rows.row.prog My.viewQ ["TOO_GREAT", "DEEDS", "SHAPES", "LEAST"] (λ s=>xlAt My.viewQ [] s && recOk (RowW.records PySem.Challenge.rw_twotabs_k47_slip_rows.row.toRowW) s) (kHook My.dummy.heap_39 [2,3,15,22,23,24,25,28,35,36,37,40,47,48,49,52,59,60,61,64,71,72,73,76,83,84,85,88,95,96,97,100,107,108,109,112,119,120,121,124,131,132,133,136,138,139,141,142,143,146,147,148,150,151,153,154,155,157,158,160,161,162,164,165,167,168,169,171,172,174,175,176,178,179,181,182,183,186,187,188,191,192,193,195,196,198,199,200,202,203,205,206,207,209,210,212,213,214,217,218,219,222,223,224,226,227,229,230,231,233,234,236,237,238,240,241,243,244,245,247,248,250,251,252,254,255,257,258,259,260,262,263,265,266,267,269,270,272,273,274,276,277,279,280,281,283,284,286,287,288,290,291,293,294,295,297,298,300,301,302,304,305,307,308,309,311,312,314,315,316,318,319,321,322,323,325,326,328,329,330,332,333,335,336,337,339,340,342,343,344,346,347,349,350,351,354,355,356,357,358,359,360,361,362,363,364,365,366,367,368,369,370,371,372,373,374,375,376,378,379,381,382,383,386,387,388,390,391,393,394,395,397,398,400,401,402,405,406,407,409,410,412,413,414,416,417,419,420,421,423,424,426,427,428,430,431,433,434,435,437,438,440,441,442,444,445,447,448,449,451,452,454,455,456,458,459,461,462,463,465,466,468,469,470,472,473,475,476,477,479,480,482,483,484,487,488,489,491,492,494,495,496,498,499,501,502,503,505,506,508,509,510,512,513,515,516] (λ _=>rfl)).obs (kHook My.dummy.heap_39 [2,3,15,22,23,24,25,28,35,36,37,40,47,48,49,52,59,60,61,64,71,72,73,76,83,84,85,88,95,96,97,100,107,108,109,112,119,120,121,124,131,132,133,136,138,139,141,142,143,146,147,148,150,151,153,154,155,157,158,160,161,162,164,165,167,168,169,171,172,174,175,176,178,179,181,182,183,186,187,188,191,192,193,195,196,198,199,200,202,203,205,206,207,209,210,212,213,214,217,218,219,222,223,224,226,227,229,230,231,233,234,236,237,238,240,241,243,244,245,247,248,250,251,252,254,255,257,258,259,260,262,263,265,266,267,269,270,272,273,274,276,277,279,280,281,283,284,286,287,288,290,291,293,294,295,297,298,300,301,302,304,305,307,308,309,311,312,314,315,316,318,319,321,322,323,325,326,328,329,330,332,333,335,336,337,339,340,342,343,344,346,347,349,350,351,354,355,356,357,358,359,360,361,362,363,364,365,366,367,368,369,370,371,372,373,374,375,376,378,379,381,382,383,386,387,388,390,391,393,394,395,397,398,400,401,402,405,406,407,409,410,412,413,414,416,417,419,420,421,423,424,426,427,428,430,431,433,434,435,437,438,440,441,442,444,445,447,448,449,451,452,454,455,456,458,459,461,462,463,465,466,468,469,470,472,473,475,476,477,479,480,482,483,484,487,488,489,491,492,494,495,496,498,499,501,502,503,505,506,508,509,510,512,513,515,516] (λ _=>rfl)).val 8966 true 11 (λ P=>My.treeOf (boot_heap P).objs.toList) (λ P=>(boot_heap P).life) (w.withFollow "special-get-raises" true):=My.all_of (My.hlb_true w) (My.hld_true w) (My.hlf_true w) (My.hle_true w) (My.hlc_true w)
set_option maxRecDepth 100000 in
set_option maxHeartbeats 0 in
theorem My.hlQ:LeftO PySem.Challenge.rw_twotabs_k47_slip_rows.row.prog My.viewQ ["TOO_GREAT", "DEEDS", "SHAPES", "LEAST"] (λ s=>xlAt My.viewQ [] s && recOk (RowW.records PySem.Challenge.rw_twotabs_k47_slip_rows.row.toRowW) s) (kHook My.dummy.heap_39 [2,3,15,22,23,24,25,28,35,36,37,40,47,48,49,52,59,60,61,64,71,72,73,76,83,84,85,88,95,96,97,100,107,108,109,112,119,120,121,124,131,132,133,136,138,139,141,142,143,146,147,148,150,151,153,154,155,157,158,160,161,162,164,165,167,168,169,171,172,174,175,176,178,179,181,182,183,186,187,188,191,192,193,195,196,198,199,200,202,203,205,206,207,209,210,212,213,214,217,218,219,222,223,224,226,227,229,230,231,233,234,236,237,238,240,241,243,244,245,247,248,250,251,252,254,255,257,258,259,260,262,263,265,266,267,269,270,272,273,274,276,277,279,280,281,283,284,286,287,288,290,291,293,294,295,297,298,300,301,302,304,305,307,308,309,311,312,314,315,316,318,319,321,322,323,325,326,328,329,330,332,333,335,336,337,339,340,342,343,344,346,347,349,350,351,354,355,356,357,358,359,360,361,362,363,364,365,366,367,368,369,370,371,372,373,374,375,376,378,379,381,382,383,386,387,388,390,391,393,394,395,397,398,400,401,402,405,406,407,409,410,412,413,414,416,417,419,420,421,423,424,426,427,428,430,431,433,434,435,437,438,440,441,442,444,445,447,448,449,451,452,454,455,456,458,459,461,462,463,465,466,468,469,470,472,473,475,476,477,479,480,482,483,484,487,488,489,491,492,494,495,496,498,499,501,502,503,505,506,508,509,510,512,513,515,516] (λ _=>rfl)).obs (kHook My.dummy.heap_39 [2,3,15,22,23,24,25,28,35,36,37,40,47,48,49,52,59,60,61,64,71,72,73,76,83,84,85,88,95,96,97,100,107,108,109,112,119,120,121,124,131,132,133,136,138,139,141,142,143,146,147,148,150,151,153,154,155,157,158,160,161,162,164,165,167,168,169,171,172,174,175,176,178,179,181,182,183,186,187,188,191,192,193,195,196,198,199,200,202,203,205,206,207,209,210,212,213,214,217,218,219,222,223,224,226,227,229,230,231,233,234,236,237,238,240,241,243,244,245,247,248,250,251,252,254,255,257,258,259,260,262,263,265,266,267,269,270,272,273,274,276,277,279,280,281,283,284,286,287,288,290,291,293,294,295,297,298,300,301,302,304,305,307,308,309,311,312,314,315,316,318,319,321,322,323,325,326,328,329,330,332,333,335,336,337,339,340,342,343,344,346,347,349,350,351,354,355,356,357,358,359,360,361,362,363,364,365,366,367,368,369,370,371,372,373,374,375,376,378,379,381,382,383,386,387,388,390,391,393,394,395,397,398,400,401,402,405,406,407,409,410,412,413,414,416,417,419,420,421,423,424,426,427,428,430,431,433,434,435,437,438,440,441,442,444,445,447,448,449,451,452,454,455,456,458,459,461,462,463,465,466,468,469,470,472,473,475,476,477,479,480,482,483,484,487,488,489,491,492,494,495,496,498,499,501,502,503,505,506,508,509,510,512,513,515,516] (λ _=>rfl)).val 8966:=by
 exact My.left_treeS "special-get-raises" (m0:=11) (T0:=λ P=>My.treeOf (boot_heap P).objs.toList) (L0:=λ P=>(boot_heap P).life) (by kernel_rfl) (by kernel_rfl) (λ s=>by kernel_rfl) (λ P=>by kernel_rfl) (λ P=>by kernel_rfl) My.hl_false My.hl_true
end
namespace L2
open PySem PySem.Spec PyProof.Rows
noncomputable abbrev Key:=Sum Int Str
noncomputable def ztw:Key→Value→Bool
 | .inl k,v=>Value.isInt k v
 | .inr x,v=>Value.isStrOf x v
noncomputable def keyH (w:World):Key→Int
 | .inl k=>hashInt k
 | .inr x=>hashStr w x
theorem zwa:∀ {k:Key} {v:Value},ztw k v=true→(∃ i t,k=Sum.inl i∧v=Value.int i t) ∨ (∃ x t,k=Sum.inr x∧v=Value.str x t)
 | .inl i,v,h=>by
  obtain ⟨t,e⟩:=Value.isInt_shape (k:=i) (v:=v) h
  exact .inl ⟨i,t,rfl,e⟩
 | .inr x,v,h=>by
  obtain ⟨t,e⟩:=Value.isStrOf_shape (x:=x) (v:=v) h
  exact .inr ⟨x,t,rfl,e⟩
theorem zxu (a b:Int):decide ((Sum.inl a:Key)=Sum.inl b)=(a == b):=by
 by_cases e:a=b
 ·subst e;simp
 ·have h:¬ (Sum.inl a:Key)=Sum.inl b:=λ q=>e (Sum.inl.inj q)
  rw [decide_eq_false h]
  exact (beq_eq_false_iff_ne.mpr e).symm
theorem zct (a b:Str):decide ((Sum.inr a:Key)=Sum.inr b)=decide (a=b):=by
 by_cases e:a=b
 ·subst e;simp
 ·have h:¬ (Sum.inr a:Key)=Sum.inr b:=λ q=>e (Sum.inr.inj q)
  rw [decide_eq_false h,decide_eq_false e]
theorem zgt (a:Int) (b:Str):decide ((Sum.inl a:Key)=Sum.inr b)=false:=decide_eq_false (λ q=>nomatch q)
theorem ziv (a:Str) (b:Int):decide ((Sum.inr a:Key)=Sum.inl b)=false:=decide_eq_false (λ q=>nomatch q)
noncomputable def zam (prog:Program) (w:World):PySem.KeyKind prog w Key where
 is:=ztw
 hash:=keyH w
 inj:=λ v a b ha hb=>by
  rcases zwa ha with ⟨i,t,rfl,rfl⟩ | ⟨x,t,rfl,rfl⟩
  ·rcases zwa hb with ⟨j,u,rfl,e⟩ | ⟨y,u,rfl,e⟩
   ·injection e with e1 _;rw [e1]
   ·exact nomatch e
  ·rcases zwa hb with ⟨j,u,rfl,e⟩ | ⟨y,u,rfl,e⟩
   ·exact nomatch e
   ·injection e with e1 _;rw [e1]
 byValue:=λ k v h=>by
  rcases zwa h with ⟨i,t,rfl,rfl⟩ | ⟨x,t,rfl,rfl⟩ <;> rfl
 pyHash:=λ hv h=>by
  rcases zwa hv with ⟨i,t,rfl,rfl⟩ | ⟨x,t,rfl,rfl⟩
  ·exact wpAny_pyHash_int h
  ·exact wpAny_pyHash_str h
 eqBool:=λ hu hv h=>by
  rcases zwa hu with ⟨i,t,rfl,rfl⟩ | ⟨x,t,rfl,rfl⟩
  ·rcases zwa hv with ⟨j,u,rfl,rfl⟩ | ⟨y,u,rfl,rfl⟩
   ·rw [zxu] at h;exact wpAny_eqBool_int h
   ·rw [zgt] at h;exact SeqAt.EqAt.int_str i t y u _ _ _ _ h
  ·rcases zwa hv with ⟨j,u,rfl,rfl⟩ | ⟨y,u,rfl,rfl⟩
   ·rw [ziv] at h;exact SeqAt.EqAt.str_int x t j u _ _ _ _ h
   ·rw [zct] at h;exact wpAny_eqBool_str h
 «strs» := λ k x t v h=>by
  rcases zwa h with ⟨i,u,rfl,e⟩ | ⟨y,u,rfl,e⟩
  ·exact nomatch e
  ·injection e with e1 _
   subst e1
   cases v <;> rfl
end L2
namespace L2
open PySem PySem.Spec PyProof.Rows
inductive V where
 | non | bl (b:Bool) | int (i:Int) | str (x:Str) | byt (b:Array UInt8) | flt (b:UInt64) | ref (a:Addr) | ty (n:String)
 deriving DecidableEq
noncomputable def RelV:V→Value→Prop
 | .non,u=>u=Value.none
 | .bl b,u=>u=Value.bool b
 | .int i,u=>∃ t,u=Value.int i t
 | .str x,u=>∃ t,u=Value.str x t
 | .byt b,u=>∃ t,u=Value.bytes b t
 | .flt b,u=>∃ t,u=Value.float b t
 | .ref a,u=>u=Value.ref a
 | .ty n,u=>u=Value.type n
noncomputable abbrev Vals:List V→List Value→Prop:=Paired RelV
theorem Vals.length {xs:List V} {us:List Value} (r:Vals xs us):xs.length=us.length:=Paired.length r
theorem Vals.get:∀ {xs:List V} {us:List Value} {i:Nat} {x:V},Vals xs us→xs[i]? = some x→∃ u,us[i]? = some u∧RelV x u
 | _,_,_,_,.nil,e=>by simp at e
 | _,_,0,_,.cons r _,e=>by simp at e;subst e;exact ⟨_,rfl,r⟩
 | _,_,i+1,x,.cons _ t,e=>by
  obtain ⟨u,h1,h2⟩:=Vals.get (i:=i) (x:=x) t (by simpa using e)
  exact ⟨u,by simpa using h1,h2⟩
theorem Vals.append:∀ {xs ys:List V} {us ws:List Value},Vals xs us→Vals ys ws→Vals (xs++ys) (us++ws)
 | _,_,_,_,.nil,s=>s
 | _,_,_,_,.cons r t,s=>.cons r (Vals.append t s)
theorem Vals.take:∀ {xs:List V} {us:List Value} (n:Nat),Vals xs us→Vals (xs.take n) (us.take n)
 | _,_,0,_=>.nil
 | _,_,_+1,.nil=>.nil
 | _,_,n+1,.cons r t=>.cons r (Vals.take n t)
theorem Vals.drop:∀ {xs:List V} {us:List Value} (n:Nat),Vals xs us→Vals (xs.drop n) (us.drop n)
 | _,_,0,r=>r
 | _,_,_+1,.nil=>.nil
 | _,_,n+1,.cons _ t=>Vals.drop n t
noncomputable def RelO:Option V→Option Value→Prop
 | some v,some u=>RelV v u
 | none,none=>True
 | _,_=>False
noncomputable def KV {κ:Type}:List (κ×V)→List (κ×Value)→Prop:=Paired λ (p:κ×V) (q:κ×Value)=>p.1=q.1∧RelV p.2 q.2
noncomputable def kV:Key→V
 | .inl i=>.int i
 | .inr x=>.str x
inductive HO where
 | lst (xs:List V)
 | tup (xs:List V)
 | dK (kvs:List (Key×V)) | dT (kvs:List (List Key×V))
 | set (S:Int→Bool) (n:Nat)
 | ins (C dx:Addr) (fs:List (Str×V))
 | own (x:Addr)
 | xd (fs:List (Str×V))
 | met (f x:Addr)
 | rng (lo hi:Int)
 | frz (o:Obj) (u:HO)
 | tbl (ps:Array Value)
 | ext (φ:Heap→Prop)
noncomputable abbrev Hp:=Addr→Option HO
noncomputable def upd (H:Hp) (a:Addr) (o:HO):Hp:=λ b=>if b=a then some o else H b
theorem upd_same {H:Hp} {a:Addr} {o:HO}:upd H a o a=some o:=by unfold upd;rw [if_pos rfl]
theorem zva {H:Hp} {a b:Addr} {o:HO} (h:b≠a):upd H a o b=H b:=by unfold upd;rw [if_neg h]
theorem zpq {H:Hp} {a:Addr} {o u:HO}:upd (upd H a o) a u=upd H a u:=by
 funext b;unfold upd;split <;> rfl
theorem znw {H:Hp} {a b:Addr} {o u:HO} (h:H a=some o) (h':H b=some u) (d:o≠u):a≠b:=by
 intro e;subst e;rw [h] at h';exact d (Option.some.inj h')
theorem zab {H:Hp} {a b:Addr} {o:HO} (h:H a=some o) (h':H b=none):a≠b:=by
 intro e;subst e;rw [h] at h';cases h'
section
variable (P:Program) (w:World)
noncomputable def ObjOk (H:Hp) (h:Heap) (a:Addr):HO→Prop
 | .lst xs=>xs.length≤sizeLine∧∃ (its:List Value) (n:Nat),Vals xs its∧h.get? a=some { cls := .type "list",data := .seq its.toArray n }
 | .tup xs=>xs.length≤sizeLine∧∃ its:List Value,Vals xs its∧IsTup h a its.toArray
 | .dK kvs=>kvs.length≤sizeLine∧(a == sysModules)=false∧∃ vs,KV kvs vs∧h.DictOf (zam P w) a vs
 | .dT kvs=>kvs.length≤sizeLine∧(a == sysModules)=false∧∃ xs:List (List Key×Addr×Value),
   Paired (λ (p:List Key×V) (q:List Key×Addr×Value)=>p.1=q.1∧H q.2.1=some (.tup (p.1.map kV))∧RelV p.2 q.2.2) kvs xs ∧
   ∃ o es ep,h.get? a=some o∧o.ExactDict∧o.data = .dict es ep∧es.toList=xs.map (entryOfKey (tupleKind (zam P w)))∧(xs.map (·.1)).Nodup
 | .set S n=>h.SetOf (intKind P w) a S n
 | .ins C dx fs=>H dx=some (.own a)∧fs.length≤1000∧dx≠a∧h.get? a=some (W.instObj C dx) ∧
   ∃ mA,h.Ns1 dx mA∧(∀ f,RelO (fs.lookup f) (mA f))∧PySem.Within mA (fs.map (·.1))
 | .own _=>∃ o,h.get? a=some o
 | .xd fs=>∃ mA,h.Ns1 a mA∧∀ f,RelO (fs.lookup f) (mA f)
 | .rng lo hi=>∃ t u v,h.get? a=some { cls := .type "range",data := .fields #[.int lo t,.int hi u,.int 1 v] }
 | .frz o u=>h.get? a=some o∧ObjOk H h a u
 | .tbl ps=>h.get? a=some { cls := .none,data := .fields ps }
 | .met f x=>h.get? a=some (W.methodObj (.ref f) (.ref x))
 | .ext φ=>φ h∧(∃ o,h.get? a=some o)∧∀ h1 h2:Heap,φ h1→(∀ o,h1.get? a=some o→h2.get? a=some o)→φ h2
noncomputable def HOk (H:Hp) (h:Heap):Prop:=∀ a o,H a=some o→ObjOk P w H h a o
end
section
variable {P:Program} {w:World} {H H':Hp} {h h':Heap} {a:Addr} {o:HO}
theorem ObjOk.lt (x:ObjOk P w H h a o):a<h.objs.size:=by
 cases o with
 | lst xs=>obtain ⟨_,_,_,_,e⟩:=x;exact Heap.lt_size e
 | tup xs=>obtain ⟨_,_,_,p⟩:=x;exact p.lt
 | dK kvs=>obtain ⟨_,_,_,_,o,_,_,e,_⟩:=x;exact Heap.lt_size e
 | dT kvs=>obtain ⟨_,_,_,_,o,_,_,e,_⟩:=x;exact Heap.lt_size e
 | set S n=>obtain ⟨o,_,_,_,e,_⟩:=x;exact Heap.lt_size e
 | ins C dx fs=>obtain ⟨_,_,_,e,_⟩:=x;exact Heap.lt_size e
 | own y=>obtain ⟨_,e⟩:=x;exact Heap.lt_size e
 | xd fs=>obtain ⟨_,⟨_,_,_,e,_⟩,_⟩:=x;exact Heap.lt_size e
 | rng lo hi=>obtain ⟨_,_,_,e⟩:=x;exact Heap.lt_size e
 | frz ob u=>obtain ⟨e,_⟩:=x;exact Heap.lt_size e
 | tbl ps=>exact Heap.lt_size (show h.get? a=some _ from x)
 | met f y=>exact Heap.lt_size (show h.get? a=some _ from x)
 | ext φ=>obtain ⟨_,⟨_,e⟩,_⟩:=x;exact Heap.lt_size e
theorem Paired.mapP {α β:Type} {F G:α→β→Prop}:∀ {l₁:List α} {l₂:List β},Paired F l₁ l₂→(∀ a b,F a b→G a b)→Paired G l₁ l₂
 | _,_,.nil,_=>.nil
 | _,_,.cons r t,f=>.cons (f _ _ r) (Paired.mapP t f)
theorem ObjOk.stay (x:ObjOk P w H h a o) (k:∀ b u,(b=a ∨ H b=some (.own a))→h.get? b=some u→h'.get? b=some u)
  (ho:∀ b,H b=some (.own a)→H' b=some (.own a)) (ht:∀ b xs,H b=some (.tup xs)→H' b=some (.tup xs)):ObjOk P w H' h' a o:=by
 induction o with
 | lst xs=>obtain ⟨z,its,n,r,e⟩:=x;exact ⟨z,its,n,r,k _ _ (.inl rfl) e⟩
 | tup xs=>obtain ⟨z,its,r,ob,e,c⟩:=x;exact ⟨z,its,r,ob,k _ _ (.inl rfl) e,c⟩
 | dK kvs=>obtain ⟨z,y,vs,r,ob,es,ep,e,c⟩:=x;exact ⟨z,y,vs,r,ob,es,ep,k _ _ (.inl rfl) e,c⟩
 | dT kvs =>
  obtain ⟨z,y,xs,r,ob,es,ep,e,c⟩:=x
  exact ⟨z,y,xs,Paired.mapP r λ p q z=>⟨z.1,ht _ _ z.2.1,z.2.2⟩,ob,es,ep,k _ _ (.inl rfl) e,c⟩
 | set S n=>obtain ⟨ob,es,ep,t,e,c⟩:=x;exact ⟨ob,es,ep,t,k _ _ (.inl rfl) e,c⟩
 | ins C dx fs =>
  obtain ⟨d,z,ne,e,mA,⟨od,es,ep,e2,c⟩,r⟩:=x
  exact ⟨ho _ d,z,ne,k _ _ (.inl rfl) e,mA,⟨od,es,ep,k _ _ (.inr d) e2,c⟩,r⟩
 | own y=>obtain ⟨ob,e⟩:=x;exact ⟨ob,k _ _ (.inl rfl) e⟩
 | xd fs=>obtain ⟨mA,⟨od,es,ep,e,c⟩,r⟩:=x;exact ⟨mA,⟨od,es,ep,k _ _ (.inl rfl) e,c⟩,r⟩
 | rng lo hi=>obtain ⟨t,u,v,e⟩:=x;exact ⟨t,u,v,k _ _ (.inl rfl) e⟩
 | frz ob u ih=>obtain ⟨e,q⟩:=x;exact ⟨k _ _ (.inl rfl) e,ih q⟩
 | tbl ps =>
  have e:h.get? a=some { cls := .none,data := .fields ps }:=x
  show h'.get? a=some { cls := .none,data := .fields ps }
  exact k a _ (.inl rfl) e
 | met f y =>
  have e:h.get? a=some (W.methodObj (.ref f) (.ref y)):=x
  show h'.get? a=some (W.methodObj (.ref f) (.ref y))
  exact k a _ (.inl rfl) e
 | ext φ=>obtain ⟨p,⟨o,e⟩,st⟩:=x;exact ⟨st _ _ p λ o q=>k _ _ (.inl rfl) q,⟨o,k _ _ (.inl rfl) e⟩,st⟩
theorem HOk.lt (x:HOk P w H h) (e:H a=some o):a<h.objs.size:=(x a o e).lt
theorem HOk.fresh (x:HOk P w H h) (e:h.objs.size≤a):H a=none:=by
 cases q:H a with
 | none=>rfl
 | some u=>exact absurd (Nat.lt_of_lt_of_le (x.lt q) e) (Nat.lt_irrefl _)
theorem HOk.kept (x:HOk P w H h) (k:∀ b u,h.get? b=some u→h'.get? b=some u):HOk P w H h':=λ a o e =>
 (x a o e).stay (λ b u _ q=>k b u q) (λ _ q=>q) λ _ _ q=>q
theorem HOk.laid (x:HOk P w H h) (k:∀ b u,h.get? b=some u→h'.get? b=some u) (hp:h.objs.size≤a) (new:ObjOk P w (upd H a o) h' a o):HOk P w (upd H a o) h':=λ b u e=>by
 have hn:=x.fresh hp
 by_cases hb:b=a
 ·subst hb;rw [upd_same] at e;cases e;exact new
 ·rw [zva hb] at e
  exact (x b u e).stay (λ c v _ q=>k c v q) (λ c q=>by rw [zva (zab q hn)];exact q) λ c xs q=>by rw [zva (zab q hn)];exact q
end
noncomputable def Rd (H:Hp) (a:Addr) (u:HO):Prop:=H a=some u ∨ ∃ o,H a=some (.frz o u)
theorem Rd.ok {P:Program} {w:World} {H:Hp} {h:Heap} {a:Addr} {u:HO} (r:Rd H a u) (x:HOk P w H h):ObjOk P w H h a u:=by
 rcases r with r | ⟨o,r⟩
 ·exact x a u r
 ·obtain ⟨_,q⟩:=x a _ r
  exact q
noncomputable def Mut:Option HO→Prop
 | some (.lst _)=>True
 | some (.dK _)=>True
 | some (.dT _)=>True
 | some (.set _ _)=>True
 | some (.ins _ _ _)=>True
 | some (.ext _)=>True
 | _=>False
section
variable {P:Program} {w:World} {H:Hp} {h h':Heap} {x e:Addr} {o':HO}
theorem HOk.write (ok:HOk P w H h) (mu:Mut (H x)) (he:e=x ∨ H e=some (.own x)) (k:∀ b u,b≠e→h.get? b=some u→h'.get? b=some u) (heo:∃ u,h'.get? e=some u)
  (new:ObjOk P w (upd H x o') h' x o'):HOk P w (upd H x o') h':=λ b u q=>by
 have nown:∀ c y,H c=some (.own y)→c≠x:=λ c y r z=>by subst z;rw [r] at mu;exact mu
 have ntup:∀ c xs,H c=some (.tup xs)→c≠x:=λ c xs r z=>by subst z;rw [r] at mu;exact mu
 by_cases hb:b=x
 ·subst hb;rw [upd_same] at q;cases q;exact new
 ·rw [zva hb] at q
  by_cases hbe:b=e
  ·have q':H b=some (.own x):=by
    rcases he with z | z
    ·exact absurd (hbe.trans z) hb
    ·rw [hbe];exact z
   rw [q] at q';cases q'
   obtain ⟨v,hv⟩:=heo
   exact ⟨v,by rw [hbe];exact hv⟩
  ·refine (ok b u q).stay (λ c v hc r=>k c v ?_ r) (λ c r=>by rw [zva (nown c b r)];exact r) λ c xs r=>by rw [zva (ntup c xs r)];exact r
   rcases hc with rfl | hc
   ·exact hbe
   ·rintro rfl
    rcases he with z | z
    ·exact nown c b hc z
    ·rw [hc] at z;cases z;exact hb rfl
end
structure Un (fs ex:List Addr) (H H':Hp) (h h':Heap):Prop where
 keep:∀ b o,h.get? b=some o→H b=none→b∉fs→b∉ex→h'.get? b=some o
 slot:∀ b o,h.get? b=some o→H b=none→b∈fs→b∉ex→∃ sl,h'.get? b=some { o with slots:=sl }
 free:∀ b o,h.get? b=some o→H b=none→b∉ex→H' b=none
 there:∀ b o,h.get? b=some o→b∉ex→∃ o',h'.get? b=some o'
 tups:∀ b xs,H b=some (.tup xs)→H' b=some (.tup xs)
 frzs:∀ b o u,H b=some (.frz o u)→H' b=some (.frz o u)
 tbls:∀ b ps,H b=some (.tbl ps)→∃ more,H' b=some (.tbl (ps++more))
section
variable {fs fs' ex ex':List Addr} {H H1 H2:Hp} {h h1 h2 h':Heap} {a x e:Addr} {o:HO}
theorem Un.any (u:Un fs ex H H1 h h1) {b:Addr} {ob:Obj} (q:h.get? b=some ob) (n:H b=none) (hx:b∉ex):∃ sl,h1.get? b=some { ob with slots:=sl }:=by
 by_cases hb:b∈fs
 ·exact u.slot b ob q n hb hx
 ·exact ⟨ob.slots,u.keep b ob q n hb hx⟩
theorem Un.kept (k:∀ b u,h.get? b=some u→h'.get? b=some u):Un fs ex H H h h' :=
 ⟨λ b ob q _ _ _=>k b ob q,λ b ob q _ _ _=>⟨ob.slots,k b ob q⟩,λ _ _ _ n _=>n,λ b ob q _=>⟨ob,k b ob q⟩,λ _ _ q=>q,λ _ _ _ q=>q,λ _ ps q=>⟨#[],by rw [q];simp⟩⟩
theorem Un.refl:Un fs ex H H h h:=Un.kept λ _ _ q=>q
theorem Un.laid (k:∀ b u,h.get? b=some u→h'.get? b=some u) (hp:h.objs.size≤a) (hn:H a=none):Un fs ex H (upd H a o) h h' where
 keep:=λ b u q _ _ _=>k b u q
 slot:=λ b u q _ _ _=>⟨u.slots,k b u q⟩
 free:=λ b u q n _=>by rw [zva (Nat.ne_of_lt (Nat.lt_of_lt_of_le (Heap.lt_size q) hp))];exact n
 there:=λ b u q _=>⟨u,k b u q⟩
 tups:=λ b xs q=>by rw [zva (zab q hn)];exact q
 frzs:=λ b u xs q=>by rw [zva (zab q hn)];exact q
 tbls:=λ b ps q=>⟨#[],by rw [zva (zab q hn),q];simp⟩
theorem Un.write (mu:Mut (H x)) (he:e=x ∨ H e=some (.own x)) (k:∀ b u,b≠e→h.get? b=some u→h'.get? b=some u) (heo:∃ u,h'.get? e=some u):Un fs ex H (upd H x o) h h':=by
 have hx:∀ b,H b=none→b≠x:=λ b n z=>by subst z;rw [n] at mu;exact mu
 have hb:∀ b,H b=none→b≠e:=λ b n z=>by
  subst z
  rcases he with r | r
  ·exact hx b n r
  ·rw [n] at r;cases r
 have hm:∀ b u,H b=some u→¬ Mut (some u)→b≠x:=λ b u q nm z=>by subst z;rw [q] at mu;exact nm mu
 refine ⟨λ b u q n _ _=>k b u (hb b n) q,λ b u q n _ _=>⟨u.slots,k b u (hb b n) q⟩,λ b u q n _=>by rw [zva (hx b n)];exact n,λ b u q _=>?_,
  λ b xs q=>by rw [zva (hm b _ q λ z=>z)];exact q,λ b u xs q=>by rw [zva (hm b _ q λ z=>z)];exact q,λ b ps q=>⟨#[],by rw [zva (hm b _ q λ z=>z),q];simp⟩⟩
 by_cases hbe:b=e
 ·subst hbe;exact heo
 ·exact ⟨u,k b u hbe q⟩
end
noncomputable def trk (h:Heap) (H:Hp):List Addr:=(List.range h.objs.size).filter λ a=>(H a).isSome
noncomputable def hidT (h:Heap) (H:Hp):Heap:=W.hideAll h (trk h H)
theorem zkk (h:Heap) (H:Hp):(hidT h H).objs.size=h.objs.size:=W.hideAll_size _ _
theorem zjn {h:Heap} {H:Hp} {b:Addr} {o:Obj} (e:h.get? b=some o) (n:H b=none):(hidT h H).get? b=some o :=
 W.hideAll_get _ e λ hm=>by
  have q:(H b).isSome=true:=(List.mem_filter.mp hm).2
  rw [n] at q;simp at q
theorem zvp {h:Heap} {H:Hp} {b:Addr} {o:Obj} (e:(hidT h H).get? b=some o):h.get? b=some o∧H b=none:=by
 have e':h.get? b=some o:=W.of_hideAll (trk h H) e
 refine ⟨e',?_⟩
 cases q:H b with
 | none=>rfl
 | some x =>
  have hm:b∈trk h H:=List.mem_filter.mpr ⟨List.mem_range.mpr (Heap.lt_size e'),by simp [q]⟩
  have z:(hidT h H).get? b=none:=W.hideAll_none (trk h H) hm
  rw [z] at e;cases e
end L2
namespace L2
open PySem PySem.Spec PyProof.Rows
structure Mod (K:W.Frag) (mg:Str→Option Value) (base:Heap):Prop where
 kin:K.In base
 glob:base.Ns mainGlobals mg
 blt:∃ mb,base.Ns builtinsNs mb∧∀ x:Str,x ≠ "__name__" → mb x=bootBuiltins x
 nolimit:base.NoLimit
structure Cx where
 prog:Program
 w:World
 K:W.Frag
 mg:Str→Option Value
 base:Heap
 A:Around
 N:List Str
 s₀:Shared
 H₀:Hp
 env:Env
 outer:List Env
 stack:List Env
 ex:List Addr
 fn:Str→Bool
 calm:Bool
 pn:List (Addr×Obj)
 xe:Value→Shared→Prop
noncomputable def frs (l:List Env):List Addr:=l.filterMap (·.frame)
noncomputable abbrev Cx.fs (X:Cx):List Addr:=frs X.outer
noncomputable def Vis (sc:Scope) (x:Str):Prop:=sc.names.lookup x=some .local ∨ sc.names.lookup x=some .cell ∨ sc.names.lookup x=some .free
noncomputable def Loc (sc:Scope) (x:Str):Prop:=sc.names.lookup x=some .local ∨ sc.names.lookup x=some .cell
noncomputable def Look (env:Env) (h:Heap) (m:Str→Option Value) (x:Str) (u:Value):Prop :=
 (env.kindOf x=some .local∧m x=some u) ∨ ((env.kindOf x=some .cell ∨ env.kindOf x=some .free)∧∃ c,env.cells.lookup x=some c∧h.IsCell c (some u))
structure Cx.Ok (X:Cx):Prop where
 mod:Mod X.K X.mg X.base
 kind:X.env.scope.kind = .function
 glob:X.env.globals=mainGlobals
 blt:X.env.builtins=builtinsNs
 above:X.s₀.heap.objs.size≤X.env.locals
 inj:∀ x y c,X.env.cells.lookup x=some c→X.env.cells.lookup y=some c→x=y
 has:∀ x,(X.env.kindOf x=some .cell ∨ X.env.kindOf x=some .free)→∃ c,X.env.cells.lookup x=some c
 cab:∀ x c,X.fn x=true→X.env.cells.lookup x=some c→X.s₀.heap.objs.size≤c
 hd:X.calm=true→X.A.handled=none
 frames:X.A.frames=some X.stack
 stk:X.stack=X.outer ∨ (X.stack=X.env::X.outer∧X.env.frame=some X.env.locals)
 exf:∀ b∈X.ex,b≠X.env.locals∧∀ x c,X.env.cells.lookup x=some c→c≠b
 bs:∀ b o,X.base.get? b=some o→X.s₀.heap.get? b=some o∧X.H₀ b=none
 bsz:X.base.objs.size≤X.s₀.heap.objs.size
 noex:∀ b o,X.base.get? b=some o→b∉X.ex
 exfs:∀ b∈X.ex,b∉X.fs
 funs:X.s₀.heap.FunFrames X.base X.outer
 frf:∀ b∈X.fs,X.H₀ b=none
structure Inv (X:Cx) (pins:List (Addr×Obj)) (σ:List (Option V)) (H:Hp) (s:Shared):Prop where
 ok:X.Ok
 os:s.os=X.s₀.os
 bare:AllBare s.gens
 base:Un X.fs X.ex X.H₀ H X.s₀.heap s.heap
 loc:∃ m,s.heap.Ns X.env.locals m∧∀ (i:Nat) (x:Str) (v:V),X.N[i]? = some x→σ[i]? = some (some v)→Vis X.env.scope x→∃ u,RelV v u∧Look X.env s.heap m x u
 cell:∀ x c,X.env.cells.lookup x=some c→∃ v,s.heap.IsCell c v
 free:H X.env.locals=none
 freeC:∀ x c,X.env.cells.lookup x=some c→H c=none
 pin:∀ p∈X.pn++pins,s.heap.get? p.1=some p.2∧H p.1=none∧p.1≠X.env.locals∧p.1∉X.fs∧∀ v,p.2.data ≠ .cell v
 hok:HOk X.prog X.w H s.heap
 len:σ.length=X.N.length
section
variable {X:Cx} {pins:List (Addr×Obj)} {σ:List (Option V)} {H H':Hp} {s:Shared} {h':Heap}
theorem Cx.Ok.nofr (ok:X.Ok) {b:Addr} {o:Obj} (e:X.base.get? b=some o):b∉X.fs:=λ hb=>by
 have:=(ok.funs.mem hb).1
 rw [e] at this;cases this
theorem Inv.bs (I:Inv X pins σ H s):∀ b o,X.base.get? b=some o→s.heap.get? b=some o∧H b=none:=λ b o e =>
 ⟨I.base.keep b o (I.ok.bs b o e).1 (I.ok.bs b o e).2 (I.ok.nofr e) (I.ok.noex b o e),I.base.free b o (I.ok.bs b o e).1 (I.ok.bs b o e).2 (I.ok.noex b o e)⟩
theorem Inv.bk (I:Inv X pins σ H s):∀ b o,X.base.get? b=some o→s.heap.get? b=some o:=λ b o e=>(I.bs b o e).1
theorem Inv.mod (I:Inv X pins σ H s):Mod X.K X.mg X.base:=I.ok.mod
theorem Inv.kIn (I:Inv X pins σ H s):X.K.In s.heap:=I.ok.mod.kin.keeps I.bk
theorem Inv.lt (I:Inv X pins σ H s):X.env.locals<s.heap.objs.size:=let ⟨_,hn,_⟩:=I.loc;hn.lt
theorem Inv.sz (I:Inv X pins σ H s):X.s₀.heap.objs.size≤s.heap.objs.size:=Nat.le_trans I.ok.above (Nat.le_of_lt I.lt)
theorem Inv.nofs (I:Inv X pins σ H s) {a:Addr} (h:s.heap.objs.size≤a):a∉X.fs:=λ hb=>by
 obtain ⟨_,o,ho,_⟩:=I.ok.funs.mem hb
 exact absurd (Nat.lt_of_lt_of_le (Heap.lt_size ho) (Nat.le_trans I.sz h)) (Nat.lt_irrefl _)
theorem Inv.cne (I:Inv X pins σ H s):∀ x c,X.env.cells.lookup x=some c→c≠X.env.locals:=λ x c e z=>by
 obtain ⟨v,o,ho,hd⟩:=I.cell x c e
 obtain ⟨m,⟨o',es,ep,ho',hd',_⟩,_⟩:=I.loc
 rw [z,ho'] at ho;cases ho;rw [hd'] at hd;cases hd
theorem Inv.funs (I:Inv X pins σ H s):s.heap.FunFrames X.base X.outer:=by
 have all:∀ (l:List Env),(∀ b∈frs l,b∈X.fs)→X.s₀.heap.FunFrames X.base l→s.heap.FunFrames X.base l:=by
  intro l
  induction l with
  | nil=>intro _ _;trivial
  | cons env r ih =>
   intro hs hl
   obtain ⟨hk,⟨L,o,hf,hn,ho,hd⟩,hr⟩:=hl
   have hL:L∈X.fs:=hs L (by unfold frs;rw [List.filterMap_cons,hf];exact List.mem_cons_self)
   obtain ⟨sl,e⟩:=I.base.slot L o ho (I.ok.frf L hL) hL λ z=>I.ok.exfs L z hL
   exact ⟨hk,⟨L,_,hf,hn,e,hd⟩,ih (λ b hb=>hs b (by unfold frs;rw [List.filterMap_cons,hf];exact List.mem_cons_of_mem _ hb)) hr⟩
 exact all X.outer (λ _ hb=>hb) I.ok.funs
theorem Inv.stack (I:Inv X pins σ H s):s.heap.FunFrames X.base X.stack:=by
 rcases I.ok.stk with e | ⟨e,hf⟩
 ·rw [e];exact I.funs
 ·rw [e]
  obtain ⟨m,hn,_⟩:=I.loc
  refine .cons (by rw [I.ok.kind];decide) hf hn ?_ I.funs
  exact Heap.get?_none_of_le (Nat.le_trans I.ok.bsz I.ok.above)
theorem Inv.stkSub (I:Inv X pins σ H s):∀ b∈frs X.stack,b∈X.env.locals::X.fs:=λ b hb=>by
 rcases I.ok.stk with e | ⟨e,hf⟩
 ·rw [e] at hb;exact List.mem_cons_of_mem _ hb
 ·rw [e] at hb
  unfold frs at hb
  rw [List.filterMap_cons,hf] at hb
  exact hb
theorem Inv.stkFree (I:Inv X pins σ H s):∀ b∈frs X.stack,H b=none:=λ b hb=>by
 rcases List.mem_cons.mp (I.stkSub b hb) with e | hb
 ·rw [e];exact I.free
 ·obtain ⟨_,o,ho,_⟩:=I.ok.funs.mem hb
  exact I.base.free b o ho (I.ok.frf b hb) λ z=>I.ok.exfs b z hb
theorem Inv.step {g':Array GenState} {t':Nat} {d':Drawn} {ch:List Addr} (I:Inv X pins σ H s)
  (hch:∀ b∈ch,(b∈X.ex ∨ X.s₀.heap.objs.size≤b)∧b≠X.env.locals∧(∀ x c,X.env.cells.lookup x=some c→c≠b)∧∀ p∈X.pn++pins,p.1≠b)
  (keep:∀ b o,b≠X.env.locals→b∉X.fs→b∉ch→s.heap.get? b=some o→H b=none→h'.get? b=some o)
  (slot:∀ b o,b≠X.env.locals→b∈X.fs→b∉ch→s.heap.get? b=some o→H b=none→∃ sl,h'.get? b=some { o with slots:=sl }) (free:∀ b o,b∉ch→s.heap.get? b=some o→H b=none→H' b=none)
  (there:∀ b o,b∉ch→s.heap.get? b=some o→∃ o',h'.get? b=some o')
  (tups:∀ b xs,H b=some (.tup xs)→H' b=some (.tup xs)) (frzs:∀ b o u,H b=some (.frz o u)→H' b=some (.frz o u)) (tbls:∀ b ps,H b=some (.tbl ps)→∃ more,H' b=some (.tbl (ps++more)))
  (ns:∀ m,s.heap.Ns X.env.locals m→h'.Ns X.env.locals m) (hok:HOk X.prog X.w H' h') (hg:AllBare g') :
  Inv X pins σ H' { s with heap:=h',gens:=g',drawn:=d',toks:=t' }:=by
 have neL:∀ b o,X.s₀.heap.get? b=some o→b≠X.env.locals:=λ b o e=>Nat.ne_of_lt (Nat.lt_of_lt_of_le (Heap.lt_size e) I.ok.above)
 have neC:∀ b o,X.s₀.heap.get? b=some o→b∉X.ex→b∉ch:=λ b o e hx hb=>by
  rcases (hch b hb).1 with z | z
  ·exact hx z
  ·exact absurd (Nat.lt_of_lt_of_le (Heap.lt_size e) z) (Nat.lt_irrefl _)
 have cellK:∀ x c,X.env.cells.lookup x=some c→∀ v,s.heap.IsCell c v→h'.IsCell c v:=λ x c e v ⟨o,ho,hd⟩=>by
  have nch:c∉ch:=λ z=>(hch c z).2.2.1 x c e rfl
  by_cases hc:c∈X.fs
  ·obtain ⟨sl,q⟩:=slot c o (I.cne x c e) hc nch ho (I.freeC x c e)
   exact ⟨_,q,hd⟩
  ·exact ⟨o,keep c o (I.cne x c e) hc nch ho (I.freeC x c e),hd⟩
 refine ⟨I.ok,I.os,hg,⟨λ b o e n hb hx=>?_,λ b o e n hb hx=>?_,λ b o e n hx=>?_,λ b o e hx=>?_,λ b xs e=>tups b xs (I.base.tups b xs e),λ b o xs e=>frzs b o xs (I.base.frzs b o xs e),λ b ps e=>?_⟩,?_,λ x c e=>?_,?_,λ x c e=>?_,λ p hp=>?_,hok,I.len⟩
 ·exact keep b o (neL b o e) hb (neC b o e hx) (I.base.keep b o e n hb hx) (I.base.free b o e n hx)
 ·obtain ⟨sl,e1⟩:=I.base.slot b o e n hb hx
  obtain ⟨sl',e2⟩:=slot b _ (neL b o e) hb (neC b o e hx) e1 (I.base.free b o e n hx)
  exact ⟨sl',e2⟩
 ·obtain ⟨o',e1⟩:=I.base.there b o e hx
  exact free b o' (neC b o e hx) e1 (I.base.free b o e n hx)
 ·obtain ⟨o',e1⟩:=I.base.there b o e hx
  exact there b o' (neC b o e hx) e1
 ·obtain ⟨m1,e1⟩:=I.base.tbls b ps e
  obtain ⟨m2,e2⟩:=tbls b _ e1
  exact ⟨m1++m2,by rw [e2,Array.append_assoc]⟩
 ·obtain ⟨m,hn,hl⟩:=I.loc
  refine ⟨m,ns m hn,λ i x v e1 e2 e3=>?_⟩
  obtain ⟨u,r,l⟩:=hl i x v e1 e2 e3
  refine ⟨u,r,?_⟩
  rcases l with l | ⟨k,c,e,z⟩
  ·exact .inl l
  ·exact .inr ⟨k,c,e,cellK x c e _ z⟩
 ·obtain ⟨v,z⟩:=I.cell x c e
  exact ⟨v,cellK x c e v z⟩
 ·obtain ⟨m,⟨o,_,_,ho,_⟩,_⟩:=I.loc
  exact free _ o (λ z=>(hch _ z).2.1 rfl) ho I.free
 ·obtain ⟨v,o,ho,hd⟩:=I.cell x c e
  exact free c o (λ z=>(hch c z).2.2.1 x c e rfl) ho (I.freeC x c e)
 ·obtain ⟨e,n,ne,nf,d⟩:=I.pin p hp
  have nch:p.1∉ch:=λ z=>(hch p.1 z).2.2.2 p hp rfl
  exact ⟨keep p.1 p.2 ne nf nch e n,free p.1 p.2 nch e n,ne,nf,d⟩
theorem Inv.un {t':Nat} (I:Inv X pins σ H s) (u:Un X.fs [] H H' s.heap h') (hok:HOk X.prog X.w H' h'):Inv X pins σ H' { s with heap:=h',toks:=t' }:=by
 obtain ⟨m,⟨o,es,ep,ho,r⟩,_⟩:=id I.loc
 obtain ⟨sl,hL⟩:=u.any ho I.free (by simp)
 exact I.step (g':=s.gens) (d':=s.drawn) (ch:=[]) (λ _ z=>nomatch z) (λ b o _ hb _ e n=>u.keep b o e n hb (by simp)) (λ b o _ hb _ e n=>u.slot b o e n hb (by simp)) (λ b o _ e n=>u.free b o e n (by simp)) (λ b o _ e=>u.there b o e (by simp)) u.tups u.frzs u.tbls (λ m' hm=>by
  obtain ⟨o',es',ep',ho',r'⟩:=hm
  rw [ho] at ho';cases ho'
  exact ⟨_,es',ep',hL,r'⟩) hok I.bare
theorem Inv.call {g':Array GenState} {t':Nat} {d':Drawn} {ch:List Addr} (I:Inv X pins σ H s) (u:Un (frs X.stack) ch H H' s.heap h') (hok:HOk X.prog X.w H' h') (hg:AllBare g')
  (hch:∀ b∈ch,(b∈X.ex ∨ X.s₀.heap.objs.size≤b)∧b≠X.env.locals∧(∀ x c,X.env.cells.lookup x=some c→c≠b)∧∀ p∈X.pn++pins,p.1≠b) :
  Inv X pins σ H' { s with heap:=h',gens:=g',drawn:=d',toks:=t' }:=by
 obtain ⟨m,⟨o,es,ep,ho,r⟩,_⟩:=id I.loc
 obtain ⟨sl,hL⟩:=u.any ho I.free λ z=>(hch _ z).2.1 rfl
 exact I.step (ch:=ch) hch (λ b o hL hb hc e n=>u.keep b o e n (λ z=>(List.mem_cons.mp (I.stkSub b z)).elim hL hb) hc) (λ b o _ _ hc e n=>u.any e n hc) (λ b o hc e n=>u.free b o e n hc) (λ b o hc e=>u.there b o e hc) u.tups u.frzs u.tbls (λ m' hm=>by
  obtain ⟨o',es',ep',ho',r'⟩:=hm
  rw [ho] at ho';cases ho'
  exact ⟨_,es',ep',hL,r'⟩) hok hg
theorem Inv.turned {t':Nat} {it:Addr} (I:Inv X pins σ H s) (k:∀ b o,b≠it→s.heap.get? b=some o→h'.get? b=some o) (hn:H it=none) (hL:it≠X.env.locals)
  (h1:it∈X.ex ∨ X.s₀.heap.objs.size≤it) (h2:∀ x c,X.env.cells.lookup x=some c→c≠it) (h3:∀ p∈X.pn++pins,p.1≠it):Inv X pins σ H { s with heap:=h',toks:=t' }:=by
 have nit:∀ b u,H b=some u→b≠it:=λ b u e z=>by rw [z,hn] at e;cases e
 refine I.step (g':=s.gens) (d':=s.drawn) (ch:=[it]) (λ b hb=>?_) (λ b o _ _ hc e _=>k b o (λ z=>hc (by simp [z])) e) (λ b o _ _ hc e _=>⟨o.slots,k b o (λ z=>hc (by simp [z])) e⟩) (λ _ _ _ _ n=>n)
  (λ b o hc e=>⟨o,k b o (λ z=>hc (by simp [z])) e⟩) (λ _ _ e=>e) (λ _ _ _ e=>e) (λ b ps e=>⟨#[],by rw [e];simp⟩) (λ m hm=>?_) (λ b u e=>?_) I.bare
 ·have e:b=it:=by simpa using hb
  subst e
  exact ⟨h1,hL,h2,h3⟩
 ·obtain ⟨o,es,ep,ho,r⟩:=hm
  exact ⟨o,es,ep,k _ o (Ne.symm hL) ho,r⟩
 ·refine (I.hok b u e).stay (λ c v hc q=>k c v ?_ q) (λ _ q=>q) λ _ _ q=>q
  rcases hc with z | z
  ·rw [z];exact nit b u e
  ·exact nit c _ z
theorem Inv.tok (I:Inv X pins σ H s) (t:Nat):Inv X pins σ H { s with toks:=t }:=I.un (h':=s.heap) (t':=t) Un.refl I.hok
theorem Inv.kept {t':Nat} (I:Inv X pins σ H s) (k:∀ b u,s.heap.get? b=some u→h'.get? b=some u):Inv X pins σ H { s with heap:=h',toks:=t' }:=I.un (Un.kept k) (I.hok.kept k)
theorem Inv.laid {a:Addr} {o:HO} {t':Nat} (I:Inv X pins σ H s) (k:∀ b u,s.heap.get? b=some u→h'.get? b=some u) (hp:s.heap.objs.size≤a) (new:ObjOk X.prog X.w (upd H a o) h' a o) :
  Inv X pins σ (upd H a o) { s with heap:=h',toks:=t' }:=I.un (Un.laid k hp (I.hok.fresh hp)) (I.hok.laid k hp new)
theorem Inv.write {x e:Addr} {o:HO} {t':Nat} (I:Inv X pins σ H s) (mu:Mut (H x)) (he:e=x ∨ H e=some (.own x)) (k:∀ b u,b≠e→s.heap.get? b=some u→h'.get? b=some u) (heo:∃ u,h'.get? e=some u)
  (new:ObjOk X.prog X.w (upd H x o) h' x o):Inv X pins σ (upd H x o) { s with heap:=h',toks:=t' }:=I.un (Un.write mu he k heo) (I.hok.write mu he k heo new)
theorem Inv.weak {σ':List (Option V)} (I:Inv X pins σ H s) (hl:σ'.length=σ.length) (w:∀ (i:Nat) v,σ'[i]? = some (some v)→σ[i]? = some (some v)):Inv X pins σ' H s :=
 ⟨I.ok,I.os,I.bare,I.base,let ⟨m,hn,hl'⟩:=I.loc; ⟨m,hn,λ i x v e1 e2 e3=>hl' i x v e1 (w i v e2) e3⟩,I.cell,I.free,I.freeC,I.pin,I.hok,hl.trans I.len⟩
theorem Inv.pins_of {pins':List (Addr×Obj)} (I:Inv X pins σ H s) (h:∀ p∈pins',s.heap.get? p.1=some p.2∧H p.1=none∧p.1≠X.env.locals∧p.1∉X.fs∧∀ v,p.2.data ≠ .cell v):Inv X pins' σ H s :=
 ⟨I.ok,I.os,I.bare,I.base,I.loc,I.cell,I.free,I.freeC,λ p hp=>(List.mem_append.mp hp).elim (λ z=>I.pin p (List.mem_append_left _ z)) (h p),I.hok,I.len⟩
theorem zxf {N:List Str} (hN:N.Nodup) {i j:Nat} {x:Str} (a:N[i]? = some x) (b:N[j]? = some x):i=j:=by
 obtain ⟨h1,e1⟩:=List.getElem?_eq_some_iff.mp a
 obtain ⟨h2,e2⟩:=List.getElem?_eq_some_iff.mp b
 exact (List.getElem_inj hN).mp (e1.trans e2.symm)
theorem zyj {M:Model} {A:Around} {E:Value→Shared→Prop} {i:Nat} {x:Str} {v:V} {u:Value} {Q:Unit→Shared→Prop} (I:Inv X pins σ H s) (hN:X.N.Nodup) (hi:X.N[i]? = some x) (hx:Loc X.env.scope x) (r:RelV v u)
  (h:∀ s',Inv X pins (σ.set i (some v)) H s'→(∃ a,Heap.SameBut a s.heap s'.heap∧(a=X.env.locals ∨ X.env.cells.lookup x=some a))→Q () s') (hf:X.fn x=true ∨ X.env.scope.names.lookup x=some .local:=by first | exact .inl rfl | exact .inr rfl | assumption):wpAny M A (storeName X.env x u) Q E s:=by
 obtain ⟨m,hn,hl⟩:=id I.loc
 have hcls:(X.env.scope.kind == .class || (X.env.scope.kind == .module && X.env.locals != X.env.globals))=false:=by rw [I.ok.kind];rfl
 have hiσ:i<σ.length:=by rw [I.len];exact (List.getElem?_eq_some_iff.mp hi).1
 have cne:=I.cne
 have tracked:∀ {a:Addr} {h':Heap},(∃ o,s.heap.get? a=some o∧H a=none)→Heap.SameBut a s.heap h'→HOk X.prog X.w H h':=fun {a h'} ha hs b ob e=>by
  obtain ⟨_,_,hfree⟩:=ha
  refine (I.hok b ob e).stay (λ c w' hc q=>(hs.2 c ?_).trans q) (λ _ q=>q) λ _ _ q=>q
  rintro rfl
  rcases hc with rfl | hc
  ·rw [hfree] at e;cases e
  ·rw [hfree] at hc;cases hc
 rcases hx with hk | hk
 ·refine wpAny_storeName_local hk hn (λ h' hn' hs=>?_) hcls
  obtain ⟨oL,_,_,hoL,_⟩:=id hn
  refine h _ ⟨I.ok,I.os,I.bare,⟨λ b o e n hb hx=>?_,λ b o e n hb hx=>?_,I.base.free,λ b o e hx=>?_,I.base.tups,I.base.frzs,I.base.tbls⟩,⟨_,hn',λ j y v' e1 e2 e3=>?_⟩,λ y c e=>?_,I.free,I.freeC,λ p hp=>?_,tracked ⟨oL,hoL,I.free⟩ hs,by simpa using I.len⟩ ⟨_,hs,.inl rfl⟩
  ·exact (hs.2 b (Nat.ne_of_lt (Nat.lt_of_lt_of_le (Heap.lt_size e) I.ok.above))).trans (I.base.keep b o e n hb hx)
  ·obtain ⟨sl,e1⟩:=I.base.slot b o e n hb hx
   exact ⟨sl,(hs.2 b (Nat.ne_of_lt (Nat.lt_of_lt_of_le (Heap.lt_size e) I.ok.above))).trans e1⟩
  ·obtain ⟨o',e1⟩:=I.base.there b o e hx
   exact ⟨o',(hs.2 b (Nat.ne_of_lt (Nat.lt_of_lt_of_le (Heap.lt_size e) I.ok.above))).trans e1⟩
  ·by_cases hj:j=i
   ·subst hj
    rw [hi] at e1;cases e1
    rw [List.getElem?_set_self hiσ] at e2
    cases e2
    exact ⟨u,r,.inl ⟨hk,by simp⟩⟩
   ·rw [List.getElem?_set_ne (Ne.symm hj)] at e2
    obtain ⟨u',r',q⟩:=hl j y v' e1 e2 e3
    refine ⟨u',r',?_⟩
    rcases q with ⟨k,e⟩ | ⟨k,c,e,z⟩
    ·refine .inl ⟨k,?_⟩
     have:y≠x:=λ e=>hj (zxf hN e1 (e ▸ hi))
     simp [this,e]
    ·exact .inr ⟨k,c,e,z.sameBut hs (cne y c e)⟩
  ·obtain ⟨w',z⟩:=I.cell y c e
   exact ⟨w',z.sameBut hs (cne y c e)⟩
  ·obtain ⟨e,n,ne,nf,d⟩:=I.pin p hp
   exact ⟨(hs.2 p.1 ne).trans e,n,ne,nf,d⟩
 ·have hfn:X.fn x=true:=by
   rcases hf with z | z
   ·exact z
   ·rw [z] at hk;cases hk
  obtain ⟨c,hc⟩:=I.ok.has x (.inl hk)
  obtain ⟨w',z⟩:=I.cell x c hc
  refine wpAny_storeName_cell I.ok.kind hk hc z (λ h' hc' hs=>?_)
  obtain ⟨oc,hoc,hocd⟩:=id z
  refine h { s with heap:=h' } ⟨I.ok,I.os,I.bare,⟨λ b o e n hb hx=>?_,λ b o e n hb hx=>?_,I.base.free,λ b o e hx=>?_,I.base.tups,I.base.frzs,I.base.tbls⟩,⟨m,hn.sameBut hs (Ne.symm (cne x c hc)),λ j y v' e1 e2 e3=>?_⟩,λ y c' e=>?_,I.free,I.freeC,λ p hp=>?_,tracked ⟨oc,hoc,I.freeC x c hc⟩ hs,by simpa using I.len⟩ ⟨c,hs,.inr hc⟩
  ·exact (hs.2 b (Nat.ne_of_lt (Nat.lt_of_lt_of_le (Heap.lt_size e) (I.ok.cab x c hfn hc)))).trans (I.base.keep b o e n hb hx)
  ·obtain ⟨sl,e1⟩:=I.base.slot b o e n hb hx
   exact ⟨sl,(hs.2 b (Nat.ne_of_lt (Nat.lt_of_lt_of_le (Heap.lt_size e) (I.ok.cab x c hfn hc)))).trans e1⟩
  ·obtain ⟨o',e1⟩:=I.base.there b o e hx
   exact ⟨o',(hs.2 b (Nat.ne_of_lt (Nat.lt_of_lt_of_le (Heap.lt_size e) (I.ok.cab x c hfn hc)))).trans e1⟩
  ·by_cases hj:j=i
   ·subst hj
    rw [hi] at e1;cases e1
    rw [List.getElem?_set_self hiσ] at e2
    cases e2
    exact ⟨u,r,.inr ⟨.inl hk,c,hc,hc'⟩⟩
   ·rw [List.getElem?_set_ne (Ne.symm hj)] at e2
    obtain ⟨u',r',q⟩:=hl j y v' e1 e2 e3
    refine ⟨u',r',?_⟩
    rcases q with q | ⟨k,c',e,z'⟩
    ·exact .inl q
    ·refine .inr ⟨k,c',e,z'.sameBut hs ?_⟩
     rintro rfl
     exact hj (zxf hN e1 (I.ok.inj _ _ _ e hc ▸ hi))
  ·by_cases hcc:c'=c
   ·subst hcc;exact ⟨_,hc'⟩
   ·obtain ⟨w2,z2⟩:=I.cell y c' e
    exact ⟨w2,z2.sameBut hs hcc⟩
  ·obtain ⟨e,n,ne,nf,d⟩:=I.pin p hp
   refine ⟨(hs.2 p.1 ?_).trans e,n,ne,nf,d⟩
   intro q
   rw [q,hoc] at e
   have q':oc=p.2:=Option.some.inj e
   exact d w' (by rw [← q'];exact hocd)
theorem zqf {M:Model} {A:Around} {E:Value→Shared→Prop} {i:Nat} {x:Str} {v:V} {u:Value} {Q:Unit→Shared→Prop} (I:Inv X pins σ H s) (hN:X.N.Nodup) (hi:X.N[i]? = some x) (hx:Loc X.env.scope x) (r:RelV v u)
  (h:∀ s',Inv X pins (σ.set i (some v)) H s'→Q () s') (hf:X.fn x=true ∨ X.env.scope.names.lookup x=some .local:=by first | exact .inl rfl | exact .inr rfl | assumption):wpAny M A (storeName X.env x u) Q E s :=
 zyj I hN hi hx r (λ s' I' _=>h s' I') hf
theorem Inv.call' {s':Shared} {ch:List Addr} (I:Inv X pins σ H s) (ho:s'.os=s.os) (u:Un (frs X.stack) ch H H' s.heap s'.heap) (hok:HOk X.prog X.w H' s'.heap) (hg:AllBare s'.gens)
  (hch:∀ b∈ch,(b∈X.ex ∨ X.s₀.heap.objs.size≤b)∧b≠X.env.locals∧(∀ x c,X.env.cells.lookup x=some c→c≠b)∧∀ p∈X.pn++pins,p.1≠b):Inv X pins σ H' s':=by
 obtain ⟨h',g',d',t',o'⟩:=s'
 have e:o'=s.os:=ho
 subst e
 exact I.call (g':=g') (t':=t') (d':=d') u hok hg hch
end
noncomputable abbrev XK:=Value→Option Addr→Hp→Prop
noncomputable abbrev St:=List (Option V)
noncomputable abbrev VK:=V→Hp→Prop
noncomputable abbrev TE:=St→Hp→VK→Prop
noncomputable abbrev TT:=St→Hp→(Bool→Hp→Prop)→Prop
noncomputable abbrev TA:=St→Hp→(List V→Hp→Prop)→Prop
structure Ends where
 nx:St→Hp→Prop
 rt:VK
 bk:St→Hp→Prop:=λ _ _=>False
 ct:St→Hp→Prop:=λ _ _=>False
noncomputable abbrev TS:=Ends→St→Hp→Prop
noncomputable def EP (X:Cx) (pins:List (Addr×Obj)) (σ:St) (Q:VK) (u:Value) (s':Shared):Prop:=∃ v H',Inv X pins σ H' s'∧RelV v u∧Q v H'
noncomputable def TP (X:Cx) (pins:List (Addr×Obj)) (σ:St) (Q:Bool→Hp→Prop) (b:Bool) (s':Shared):Prop:=∃ H',Inv X pins σ H' s'∧Q b H'
noncomputable def AP (X:Cx) (pins:List (Addr×Obj)) (σ:St) (Q:List V→Hp→Prop) (us:List Value) (s':Shared):Prop:=∃ vs H',Inv X pins σ H' s'∧Vals vs us∧Q vs H'
noncomputable def SP (X:Cx) (pins:List (Addr×Obj)) (D:Ends) (f:Flow) (s':Shared):Prop :=
 match f with
 | .next=>∃ σ' H',Inv X pins σ' H' s'∧D.nx σ' H'
 | .brk=>∃ σ' H',Inv X pins σ' H' s'∧D.bk σ' H'
 | .cont=>∃ σ' H',Inv X pins σ' H' s'∧D.ct σ' H'
 | .ret u=>∃ v σ' H',Inv X pins σ' H' s'∧RelV v u∧D.rt v H'
structure PE (X:Cx) (e:Expr) (t:TE):Prop where
 run :
 ∀ (pins:List (Addr×Obj)) (s:Shared) (σ:St) (H:Hp) (Q:VK),Inv X pins σ H s→t σ H Q→wpAny (model X.prog X.w) X.A (eval e X.env) (EP X pins σ Q) X.xe s
noncomputable instance {X:Cx} {e:Expr} {t:TE}:CoeFun (PE X e t) (λ _ =>
 ∀ (pins:List (Addr×Obj)) (s:Shared) (σ:St) (H:Hp) (Q:VK),Inv X pins σ H s→t σ H Q→wpAny (model X.prog X.w) X.A (eval e X.env) (EP X pins σ Q) X.xe s
 ):=⟨λ h=>h.run⟩
structure PT (X:Cx) (e:Expr) (t:TT):Prop where
 run :
 ∀ (pins:List (Addr×Obj)) (s:Shared) (σ:St) (H:Hp) (Q:Bool→Hp→Prop),Inv X pins σ H s→t σ H Q→wpAny (model X.prog X.w) X.A (isTrue e X.env (eval e X.env)) (TP X pins σ Q) X.xe s
noncomputable instance {X:Cx} {e:Expr} {t:TT}:CoeFun (PT X e t) (λ _ =>
 ∀ (pins:List (Addr×Obj)) (s:Shared) (σ:St) (H:Hp) (Q:Bool→Hp→Prop),Inv X pins σ H s→t σ H Q→wpAny (model X.prog X.w) X.A (isTrue e X.env (eval e X.env)) (TP X pins σ Q) X.xe s
 ):=⟨λ h=>h.run⟩
structure PW (X:Cx) (e:Expr) (t:TT):Prop where
 run :
 ∀ (whole:Sem Value) (pins:List (Addr×Obj)) (s:Shared) (σ:St) (H:Hp) (Q:Bool→Hp→Prop),Inv X pins σ H s→t σ H Q→wpAny (model X.prog X.w) X.A (isTrue e X.env whole) (TP X pins σ Q) X.xe s
noncomputable instance {X:Cx} {e:Expr} {t:TT}:CoeFun (PW X e t) (λ _ =>
 ∀ (whole:Sem Value) (pins:List (Addr×Obj)) (s:Shared) (σ:St) (H:Hp) (Q:Bool→Hp→Prop),Inv X pins σ H s→t σ H Q→wpAny (model X.prog X.w) X.A (isTrue e X.env whole) (TP X pins σ Q) X.xe s
 ):=⟨λ h=>h.run⟩
theorem PW.pt {X:Cx} {e:Expr} {t:TT} (h:PW X e t):PT X e t := .mk (h _)
structure PA (X:Cx) (es:List Expr) (t:TA):Prop where
 run :
 ∀ (pos:Pos) (pins:List (Addr×Obj)) (s:Shared) (σ:St) (H:Hp) (Q:List V→Hp→Prop),Inv X pins σ H s→t σ H Q→wpAny (model X.prog X.w) X.A (spliced (backTo pos (starEach es X.env))) (AP X pins σ Q) X.xe s
noncomputable instance {X:Cx} {es:List Expr} {t:TA}:CoeFun (PA X es t) (λ _ =>
 ∀ (pos:Pos) (pins:List (Addr×Obj)) (s:Shared) (σ:St) (H:Hp) (Q:List V→Hp→Prop),Inv X pins σ H s→t σ H Q→wpAny (model X.prog X.w) X.A (spliced (backTo pos (starEach es X.env))) (AP X pins σ Q) X.xe s
 ):=⟨λ h=>h.run⟩
structure PS (X:Cx) (st:Stmt) (t:TS):Prop where
 run :
 ∀ (pins:List (Addr×Obj)) (s:Shared) (σ:St) (H:Hp) (D:Ends),Inv X pins σ H s→t D σ H→wpAny (model X.prog X.w) X.A (exec st X.env) (SP X pins D) X.xe s
noncomputable instance {X:Cx} {st:Stmt} {t:TS}:CoeFun (PS X st t) (λ _ =>
 ∀ (pins:List (Addr×Obj)) (s:Shared) (σ:St) (H:Hp) (D:Ends),Inv X pins σ H s→t D σ H→wpAny (model X.prog X.w) X.A (exec st X.env) (SP X pins D) X.xe s
 ):=⟨λ h=>h.run⟩
structure PSs (X:Cx) (st:List Stmt) (t:TS):Prop where
 run :
 ∀ (pins:List (Addr×Obj)) (s:Shared) (σ:St) (H:Hp) (D:Ends),Inv X pins σ H s→t D σ H→wpAny (model X.prog X.w) X.A (execs st X.env) (SP X pins D) X.xe s
noncomputable instance {X:Cx} {st:List Stmt} {t:TS}:CoeFun (PSs X st t) (λ _ =>
 ∀ (pins:List (Addr×Obj)) (s:Shared) (σ:St) (H:Hp) (D:Ends),Inv X pins σ H s→t D σ H→wpAny (model X.prog X.w) X.A (execs st X.env) (SP X pins D) X.xe s
 ):=⟨λ h=>h.run⟩
theorem thn {α:Type} {t:Sem α} {Q Q':α→Shared→Prop} {M:Model} {A:Around} {E:Value→Shared→Prop} {s:Shared} (h:wpAny M A t Q E s) (hQ:∀ a s,Q a s→Q' a s):wpAny M A t Q' E s:=wpAny_mono h hQ λ _ _ x=>x
end L2
namespace L2
open PySem PySem.Spec PyProof.Rows
section
variable {X:Cx}
noncomputable def tVar (i:Nat):TE:=λ σ H Q=>∃ v,σ[i]? = some (some v)∧Q v H
noncomputable def tC (v:V):TE:=λ _ H Q=>Q v H
theorem zdu {i:Nat} {x:Str} {pos:Pos} (hN:X.N[i]? = some x) (hv:Vis X.env.scope x) (hd:(x == ("__debug__" : Str))=false:=by decide) (hcd:(x == ("__classdict__" : Str))=false:=by decide):PE X (.Name x pos) (tVar i) := .mk <| by
 intro pins s σ H Q I h
 obtain ⟨v,e,h⟩:=h
 obtain ⟨m,hn,hl⟩:=I.loc
 obtain ⟨u,r,l⟩:=hl i x v hN e hv
 have fin:EP X pins σ Q u s:=⟨v,H,I,r,h⟩
 rcases l with ⟨hk,hm⟩ | ⟨hk,c,hc,hcell⟩
 ·exact wpAny_Name (wpAny_loadName_local I.ok.kind hk hn hm fin) hd
 ·rcases hk with hk | hk
  ·exact wpAny_Name (wpAny_loadName_cell I.ok.kind hk hc hcell fin) hd
  ·exact wpAny_Name (wpAny_loadName_free I.ok.kind hk hc hcell fin hcd) hd
theorem zea {i j pos}:PE X (.Constant (.int i) j pos) (tC (.int i)) := .mk <| λ _ _ _ H _ I h=>wpAny_Constant_int ⟨.int i,H,I.tok _,⟨_,rfl⟩,h⟩
theorem zor {b j pos}:PE X (.Constant (.bool b) j pos) (tC (.bl b)) := .mk <| λ _ _ _ H _ I h=>Constant_bool ⟨.bl b,H,I,rfl,h⟩
theorem zpe {j pos}:PE X (.Constant .none j pos) (tC .non) := .mk <| λ _ _ _ H _ I h=>Constant_none ⟨.non,H,I,rfl,h⟩
theorem zma {x j pos}:PE X (.Constant (.str x) j pos) (tC (.str x)) := .mk <| λ _ _ _ H _ I h=>Calls.Constant_str ⟨.str x,H,I.tok _,⟨_,rfl⟩,h⟩
noncomputable def Gl (X:Cx) (x:Str):Prop:=X.env.kindOf x=some .globalImplicit
theorem zve {E:Value→Shared→Prop} {pins:List (Addr×Obj)} {s:Shared} {σ:St} {H:Hp} {x:Str} {u:Value} {pos:Pos} {Q:Value→Shared→Prop} (I:Inv X pins σ H s) (hg:Gl X x) (hm:X.mg x=some u) (h:Q u s)
  (hd:(x == ("__debug__" : Str))=false:=by decide):wpAny (model X.prog X.w) X.A (eval (.Name x pos) X.env) Q E s :=
 Calls.Name_function_global I.ok.kind hg (Calls.loadGlobal_global (by rw [I.ok.glob];exact I.mod.glob.keeps I.bk) hm h) hd
theorem zdh {E:Value→Shared→Prop} {pins:List (Addr×Obj)} {s:Shared} {σ:St} {H:Hp} {x:Str} {u:Value} {pos:Pos} {Q:Value→Shared→Prop} (I:Inv X pins σ H s) (hg:Gl X x) (hm:X.mg x=none) (hv:bootBuiltins x=some u) (h:Q u s)
  (hn:x ≠ "__name__" := by decide) (hd:(x == ("__debug__" : Str))=false:=by decide):wpAny (model X.prog X.w) X.A (eval (.Name x pos) X.env) Q E s:=by
 obtain ⟨mb,h1,h2⟩:=I.mod.blt
 exact Calls.Name_function_global I.ok.kind hg (Calls.loadGlobal_builtin (by rw [I.ok.glob];exact I.mod.glob.keeps I.bk) hm (by rw [I.ok.blt];exact h1.keeps I.bk) ((h2 x hn).trans hv) h) hd
theorem zdb {x:Str} {v:V} {u:Value} {pos:Pos} (hg:Gl X x) (hm:X.mg x=some u) (r:RelV v u) (hd:(x == ("__debug__" : Str))=false:=by decide):PE X (.Name x pos) (tC v) := .mk <| λ _ _ _ H _ I h=>zve I hg hm ⟨v,H,I,r,h⟩ hd
theorem zki {x:Str} {v:V} {u:Value} {pos:Pos} (hg:Gl X x) (hm:X.mg x=none) (hv:bootBuiltins x=some u) (r:RelV v u) (hn:x ≠ "__name__" := by decide) (hd:(x == ("__debug__" : Str))=false:=by decide):PE X (.Name x pos) (tC v) := .mk <| λ _ _ _ H _ I h=>zdh I hg hm hv ⟨v,H,I,r,h⟩ hn hd
variable {a b:Expr} {ta tb:TE} {pos:Pos}
noncomputable def tB (t:TE):TT:=λ σ H Q=>t σ H λ x H1=>∃ c,x = .bl c∧Q c H1
theorem zld {e:Expr} {t:TE} (h:PE X e t) (he:∀ whole,isTrue e X.env whole=(do let v ← whole;standAt e.pos;holding [v] (truthy v)):=by intro _;rfl):PT X e (tB t) := .mk <| by
 intro pins s σ H Q I hw
 refine isTrue_plain (thn (h pins s σ H _ I hw) λ v s1 ⟨x,H1,I1,r1,q1⟩=>?_) (he _)
 obtain ⟨d,rfl,q⟩:=q1
 cases r1
 exact wpAny_truthy_bool ⟨H1,I1,q⟩
variable {tA tB':TT} {rest:List Expr}
noncomputable def tAnd (t u:TT):TT:=λ σ H Q=>t σ H λ c H1=>if c=true then u σ H1 Q else Q false H1
noncomputable def tOr (t u:TT):TT:=λ σ H Q=>t σ H λ c H1=>if c=true then Q true H1 else u σ H1 Q
noncomputable def tNot (t:TT):TT:=λ σ H Q=>t σ H λ c H1=>Q (!c) H1
theorem zvl (ha:PT X a tA):PW X (.BoolOp .And [a] pos) tA := .mk <| by
 intro wh pins s σ H Q I h
 refine isTrue_and (thn (ha pins s σ H Q I h) λ c s1 e=>?_)
 cases c with
 | true=>exact isTrue_and_nil e
 | false=>exact e
theorem zfh (ha:PT X a tA):PW X (.BoolOp .Or [a] pos) tA := .mk <| by
 intro wh pins s σ H Q I h
 refine isTrue_or (thn (ha pins s σ H Q I h) λ c s1 e=>?_)
 cases c with
 | false=>exact isTrue_or_nil e
 | true=>exact e
theorem zkq (ha:PT X a tA) (hb:PW X (.BoolOp .And (b::rest) pos) tB'):PW X (.BoolOp .And (a::b::rest) pos) (tAnd tA tB') := .mk <| by
 intro wh pins s σ H Q I h
 refine isTrue_and (thn (ha pins s σ H _ I h) λ c s1 ⟨H1,I1,q1⟩=>?_)
 cases c with
 | true=>exact hb wh pins s1 σ H1 Q I1 q1
 | false=>exact ⟨H1,I1,q1⟩
theorem zrm (ha:PT X a tA) (hb:PW X (.BoolOp .Or (b::rest) pos) tB'):PW X (.BoolOp .Or (a::b::rest) pos) (tOr tA tB') := .mk <| by
 intro wh pins s σ H Q I h
 refine isTrue_or (thn (ha pins s σ H _ I h) λ c s1 ⟨H1,I1,q1⟩=>?_)
 cases c with
 | true=>exact ⟨H1,I1,q1⟩
 | false=>exact hb wh pins s1 σ H1 Q I1 q1
theorem zle (ha:PT X a tA):PT X (.UnaryOp .Not a pos) (tNot tA) := .mk <| by
 intro pins s σ H Q I h
 exact isTrue_not (ha pins s σ H (λ c H1=>Q (!c) H1) I h)
noncomputable def zmx (ta tb:TE):TE:=λ σ H Q=>ta σ H λ x H1=>∃ c,x = .bl c∧if c=true then tb σ H1 Q else Q (.bl false) H1
noncomputable def zry (ta:TE):TE:=λ σ H Q=>ta σ H λ x H1=>∃ c,x = .bl c∧Q (.bl (!c)) H1
theorem zxt {op} {t:TE} (h:PE X a t):PE X (.BoolOp op [a] pos) t := .mk <| λ pins s σ H Q I hw=>BoolOp_one (h pins s σ H Q I hw)
theorem ztu (ha:PE X a ta) (hb:PE X (.BoolOp .And (b::rest) pos) tb):PE X (.BoolOp .And (a::b::rest) pos) (zmx ta tb) := .mk <| by
 intro pins s σ H Q I h
 refine BoolOp_and (thn (ha pins s σ H _ I h) λ v s1 ⟨x,H1,I1,r1,q1⟩=>?_)
 obtain ⟨c,rfl,q1⟩:=q1
 cases r1
 refine wpAny_truthy_bool ?_
 cases c with
 | true=>exact hb pins s1 σ H1 Q I1 q1
 | false=>exact ⟨.bl false,H1,I1,rfl,q1⟩
theorem zds (ha:PE X a ta):PE X (.UnaryOp .Not a pos) (zry ta) := .mk <| by
 intro pins s σ H Q I h
 refine UnaryOp_ (thn (ha pins s σ H _ I h) λ v s1 ⟨x,H1,I1,r1,q1⟩=>?_)
 obtain ⟨c,rfl,q1⟩:=q1
 cases r1
 exact not_of (wpAny_truthy_bool ⟨.bl (!c),H1,I1,rfl,q1⟩)
noncomputable def tIf (t:TT) (ta tb:TE):TE:=λ σ H Q=>t σ H λ c H1=>if c=true then ta σ H1 Q else tb σ H1 Q
theorem ztf {c:Expr} (hc:PT X c tA) (ha:PE X a ta) (hb:PE X b tb):PE X (.IfExp c a b pos) (tIf tA ta tb) := .mk <| by
 intro pins s σ H Q I h
 refine wpAny_IfExp (thn (hc pins s σ H _ I h) λ d s1 ⟨H1,I1,q1⟩=>?_)
 cases d with
 | true=>exact ha pins s1 σ H1 Q I1 q1
 | false=>exact hb pins s1 σ H1 Q I1 q1
end
end L2
namespace L2
open PySem PySem.Spec PyProof.Rows
noncomputable def SqL (K:W.Frag) (H:Hp) (a:Addr) (xs:List V):Prop :=
 Rd H a (.lst xs) ∨
  ∃ (o:Obj) (its:Array Value) (n:Nat),K.lookup a=some o∧o.cls = .type "list" ∧ o.dict=none∧o.data = .seq its n∧its.size≤sizeLine∧Vals xs its.toList
noncomputable def SqT (K:W.Frag) (H:Hp) (a:Addr) (xs:List V):Prop :=
 Rd H a (.tup xs) ∨
  ∃ (o:Obj) (its:Array Value) (n:Nat),K.lookup a=some o∧o.cls = .type "tuple" ∧ o.data = .seq its n∧its.size≤sizeLine∧Vals xs its.toList
noncomputable def absV:Value→Option V
 | .none=>some .non
 | .bool b=>some (.bl b)
 | .int i _=>some (.int i)
 | .str x _=>some (.str x)
 | .bytes b _=>some (.byt b)
 | .float b _=>some (.flt b)
 | .ref a=>some (.ref a)
 | .type n=>some (.ty n)
 | _=>none
theorem RelV.abs {x:V} {u:Value} (r:RelV x u):absV u=some x:=by
 cases x with
 | non=>cases r;rfl
 | bl _=>cases r;rfl
 | int _=>obtain ⟨t,rfl⟩:=r;rfl
 | str _=>obtain ⟨t,rfl⟩:=r;rfl
 | byt _=>obtain ⟨t,rfl⟩:=r;rfl
 | flt _=>obtain ⟨t,rfl⟩:=r;rfl
 | ref _=>cases r;rfl
 | ty _=>cases r;rfl
theorem RelV.inj {x y:V} {u:Value} (r:RelV x u) (q:RelV y u):x=y:=Option.some.inj (r.abs.symm.trans q.abs)
theorem Vals.inj:∀ {xs ys:List V} {us:List Value},Vals xs us→Vals ys us→xs=ys
 | _,_,_,.nil,.nil=>rfl
 | _,_,_,.cons r t,.cons r' t'=>by rw [r.inj r',Vals.inj t t']
section
variable {X:Cx} {pins:List (Addr×Obj)} {σ:St} {H:Hp} {s:Shared} {a:Addr} {xs ys:List V}
theorem SqL.of {K:W.Frag} (h:H a=some (.lst xs)):SqL K H a xs := .inl (.inl h)
theorem SqT.of {K:W.Frag} (h:H a=some (.tup xs)):SqT K H a xs := .inl (.inl h)
theorem Inv.list (I:Inv X pins σ H s) (h:SqL X.K H a xs):∃ its:List Value,Vals xs its∧PlainL s.heap a its.toArray∧xs.length≤sizeLine:=by
 rcases h with h | ⟨o,its,n,hk,hc,hd,hs,hz,r⟩
 ·obtain ⟨z,its,n,r,e⟩:=h.ok I.hok
  exact ⟨its,r,⟨_,n,e,rfl,rfl,rfl⟩,z⟩
 ·refine ⟨its.toList,r,⟨o,n,I.kIn a o hk,hc,hd,by simpa using hs⟩,?_⟩
  have e:=r.length
  simp only [Array.length_toList] at e
  omega
theorem Inv.tuple (I:Inv X pins σ H s) (h:SqT X.K H a xs):∃ its:List Value,Vals xs its∧IsTup s.heap a its.toArray∧xs.length≤sizeLine:=by
 rcases h with h | ⟨o,its,n,hk,hc,hs,hz,r⟩
 ·obtain ⟨z,its,r,p⟩:=h.ok I.hok
  exact ⟨its,r,p,z⟩
 ·refine ⟨its.toList,r,⟨o,I.kIn a o hk,hc,n,by simpa using hs⟩,?_⟩
  have e:=r.length
  simp only [Array.length_toList] at e
  omega
theorem Inv.list_inj (I:Inv X pins σ H s) (h:SqL X.K H a xs) (h':SqL X.K H a ys):xs=ys:=by
 obtain ⟨its,r,⟨o,n,e,_,_,d⟩,_⟩:=I.list h
 obtain ⟨its',r',⟨o',n',e',_,_,d'⟩,_⟩:=I.list h'
 rw [e] at e';cases e'
 rw [d] at d'
 injection d' with d1 _
 have:its=its':=by simpa using congrArg Array.toList d1
 subst this
 exact r.inj r'
theorem Inv.tuple_inj (I:Inv X pins σ H s) (h:SqT X.K H a xs) (h':SqT X.K H a ys):xs=ys:=by
 obtain ⟨its,r,⟨o,e,_,n,d⟩,_⟩:=I.tuple h
 obtain ⟨its',r',⟨o',e',_,n',d'⟩,_⟩:=I.tuple h'
 rw [e] at e';cases e'
 rw [d] at d'
 injection d' with d1 _
 have:its=its':=by simpa using congrArg Array.toList d1
 subst this
 exact r.inj r'
end
noncomputable abbrev Cx.wish (X:Cx) (E:Value→Shared→Prop):Cx:={ X with xe:=E }
noncomputable abbrev Cx.nox (X:Cx):Cx:=X.wish λ _ _=>False
theorem Cx.Ok.wish {X:Cx} (ok:X.Ok) (E:Value→Shared→Prop):(X.wish E).Ok :=
 ⟨ok.mod,ok.kind,ok.glob,ok.blt,ok.above,ok.inj,ok.has,ok.cab,ok.hd,ok.frames,ok.stk,ok.exf,ok.bs,ok.bsz,ok.noex,ok.exfs,ok.funs,ok.frf⟩
theorem Cx.Ok.unwish {X:Cx} {E:Value→Shared→Prop} (ok:(X.wish E).Ok):X.Ok :=
 ⟨ok.mod,ok.kind,ok.glob,ok.blt,ok.above,ok.inj,ok.has,ok.cab,ok.hd,ok.frames,ok.stk,ok.exf,ok.bs,ok.bsz,ok.noex,ok.exfs,ok.funs,ok.frf⟩
section
variable {X:Cx} {pins:List (Addr×Obj)} {σ:St} {H:Hp} {s:Shared} {E:Value→Shared→Prop}
theorem Inv.wish (I:Inv X pins σ H s) (E:Value→Shared→Prop):Inv (X.wish E) pins σ H s:=⟨I.ok.wish E,I.os,I.bare,I.base,I.loc,I.cell,I.free,I.freeC,I.pin,I.hok,I.len⟩
theorem Inv.unwish (I:Inv (X.wish E) pins σ H s):Inv X pins σ H s:=⟨I.ok.unwish,I.os,I.bare,I.base,I.loc,I.cell,I.free,I.freeC,I.pin,I.hok,I.len⟩
theorem SP.unwish {D:Ends} {f:Flow} {s':Shared} (h:SP (X.wish E) pins D f s'):SP X pins D f s':=by
 cases f with
 | next=>obtain ⟨σ',H',I,q⟩:=h;exact ⟨σ',H',I.unwish,q⟩
 | brk=>obtain ⟨σ',H',I,q⟩:=h;exact ⟨σ',H',I.unwish,q⟩
 | cont=>obtain ⟨σ',H',I,q⟩:=h;exact ⟨σ',H',I.unwish,q⟩
 | ret u=>obtain ⟨v,σ',H',I,r,q⟩:=h;exact ⟨v,σ',H',I.unwish,r,q⟩
theorem PSs.nox {st:List Stmt} {t:TS} (h:PSs X.nox st t):PSs X st t := .mk <| λ pins s σ H D I hw =>
 wpAny_mono (h pins s σ H D (I.wish _) hw) (λ _ _ q=>q.unwish) λ _ _ z=>False.elim z
end
section
variable {X:Cx} {st:Stmt} {rest:List Stmt} {t u:TS} {e:Expr} {te:TE} {pos:Pos}
noncomputable def zay:TS:=λ D σ H=>D.nx σ H
noncomputable def tSeq (t u:TS):TS:=λ D σ H=>t { D with nx:=u D } σ H
theorem zka:PSs X [] zay := .mk <| λ _ _ σ H _ I h=>wpAny_execs_nil ⟨σ,H,I,h⟩
theorem zba (h1:PS X st t) (h2:PSs X rest u):PSs X (st::rest) (tSeq t u) := .mk <| by
 intro pins s σ H D I h
 refine wpAny_execs_cons (thn (h1 pins s σ H { D with nx:=u D } I h) λ f s1 q=>?_)
 cases f with
 | next =>
  obtain ⟨σ',H',I',q⟩:=q
  exact h2 pins s1 σ' H' D I' q
 | ret v=>exact q
 | brk=>exact q
 | cont=>exact q
theorem zda (h1:PS X st t):PSs X [st] t := .mk <| by
 intro pins s σ H D I h
 refine wpAny_execs_cons (thn (h1 pins s σ H D I h) λ f s1 q=>?_)
 cases f with
 | next=>exact wpAny_execs_nil q
 | ret v=>exact q
 | brk=>exact q
 | cont=>exact q
theorem Inv.quiet {pins:List (Addr×Obj)} {σ:St} {H:Hp} {s:Shared} (I:Inv X pins σ H s):interactive X.env=false:=by simp [interactive,I.ok.kind]
noncomputable def ziy (te:TE):TS:=λ D σ H=>te σ H λ _ H1=>D.nx σ H1
theorem zgg (he:PE X e te) (hs:swapsWith e none pos.line X.env=pure false:=by rfl):PS X (.Expr e pos) (ziy te) := .mk <| by
 intro pins s σ H D I h
 exact wpAny_Expr_any (thn (he pins s σ H _ I h) λ v s1 ⟨x,H1,I1,r1,q1⟩=>⟨σ,H1,I1,q1⟩) I.quiet hs
noncomputable def tRet (te:TE):TS:=λ D σ H=>te σ H D.rt
theorem zna (he:PE X e te):PS X (.Return (some e) pos) (tRet te) := .mk <| by
 intro pins s σ H D I h
 exact wpAny_Return_some (thn (he pins s σ H _ I h) λ v s1 ⟨x,H1,I1,r1,q1⟩=>⟨x,σ,H1,I1,r1,q1⟩)
noncomputable def tIfS (c:TT) (t u:TS):TS:=λ D σ H=>c σ H λ b H1=>if b=true then t D σ H1 else u D σ H1
theorem zcb {c:Expr} {a b:List Stmt} {tc:TT} (hc:PT X c tc) (ha:PSs X a t) (hb:PSs X b u):PS X (.If c a b pos) (tIfS tc t u) := .mk <| by
 intro pins s σ H D I h
 refine wpAny_If (thn (hc pins s σ H _ I h) λ d s1 ⟨H1,I1,q1⟩=>?_)
 cases d with
 | true=>exact ha pins s1 σ H1 D I1 q1
 | false=>exact hb pins s1 σ H1 D I1 q1
end
noncomputable abbrev TG:=V→St→Hp→(St→Hp→Prop)→Prop
noncomputable abbrev TGs:=List V→St→Hp→(St→Hp→Prop)→Prop
structure PG (X:Cx) (target:Expr) (t:TG):Prop where
 run :
 ∀ (pins:List (Addr×Obj)) (s:Shared) (σ:St) (H:Hp) (v:V) (u:Value) (Q:St→Hp→Prop),Inv X pins σ H s→RelV v u→t v σ H Q →
  wpAny (model X.prog X.w) X.A (assign target X.env u) (λ _ s'=>∃ σ' H',Inv X pins σ' H' s'∧Q σ' H') X.xe s
noncomputable instance {X:Cx} {target:Expr} {t:TG}:CoeFun (PG X target t) (λ _ =>
 ∀ (pins:List (Addr×Obj)) (s:Shared) (σ:St) (H:Hp) (v:V) (u:Value) (Q:St→Hp→Prop),Inv X pins σ H s→RelV v u→t v σ H Q →
  wpAny (model X.prog X.w) X.A (assign target X.env u) (λ _ s'=>∃ σ' H',Inv X pins σ' H' s'∧Q σ' H') X.xe s
 ):=⟨λ h=>h.run⟩
structure PGs (X:Cx) (ts:List Expr) (t:TGs):Prop where
 run :
 ∀ (pins:List (Addr×Obj)) (s:Shared) (σ:St) (H:Hp) (vs:List V) (us:List Value) (Q:St→Hp→Prop),Inv X pins σ H s→Vals vs us→t vs σ H Q →
  wpAny (model X.prog X.w) X.A (assignInOrder ((assignEach ts X.env).map (·.2)) us) (λ _ s'=>∃ σ' H',Inv X pins σ' H' s'∧Q σ' H') X.xe s
noncomputable instance {X:Cx} {ts:List Expr} {t:TGs}:CoeFun (PGs X ts t) (λ _ =>
 ∀ (pins:List (Addr×Obj)) (s:Shared) (σ:St) (H:Hp) (vs:List V) (us:List Value) (Q:St→Hp→Prop),Inv X pins σ H s→Vals vs us→t vs σ H Q →
  wpAny (model X.prog X.w) X.A (assignInOrder ((assignEach ts X.env).map (·.2)) us) (λ _ s'=>∃ σ' H',Inv X pins σ' H' s'∧Q σ' H') X.xe s
 ):=⟨λ h=>h.run⟩
section
variable {X:Cx} {pos:Pos}
noncomputable def zcq (i:Nat):TG:=λ v σ H Q=>Q (σ.set i (some v)) H
theorem zpa {i:Nat} {x:Str} (hN:X.N.Nodup) (hi:X.N[i]? = some x) (hx:Loc X.env.scope x) (hf:X.fn x=true ∨ X.env.scope.names.lookup x=some .local:=by first | exact .inl rfl | exact .inr rfl | assumption):PG X (.Name x pos) (zcq i) := .mk <| by
 intro pins s σ H v u Q I r h
 exact wpAny_assign_Name (zqf I hN hi hx r (λ s' I'=>⟨_,H,I',h⟩) hf)
noncomputable def gNil:TGs:=λ vs σ H Q=>vs=[]∧Q σ H
noncomputable def zpr (t:TG) (u:TGs):TGs:=λ vs σ H Q=>∃ v r,vs=v::r∧t v σ H λ σ' H'=>u r σ' H' Q
theorem zac:PGs X [] gNil := .mk <| by
 intro pins s σ H vs us Q I r h
 obtain ⟨e,h⟩:=h
 subst e
 cases r
 exact assignInOrder_nil ⟨σ,H,I,h⟩
theorem zoa {e:Expr} {es:List Expr} {t:TG} {u:TGs} (h1:PG X e t) (h2:PGs X es u)
  (hs:(assignEach (e::es) X.env).map (·.2)=assign e X.env::(assignEach es X.env).map (·.2):=by rfl):PGs X (e::es) (zpr t u) := .mk <| by
 intro pins s σ H vs us Q I r h
 obtain ⟨v,vr,e1,h⟩:=h
 subst e1
 cases r with
 | cons r rr =>
  rw [hs]
  refine assignInOrder_cons (thn (h1 pins s σ H _ _ _ I r h) λ _ s1 ⟨σ1,H1,I1,q1⟩=>?_)
  exact h2 pins s1 σ1 H1 _ _ Q I1 rr q1
noncomputable def gTup (K:W.Frag) (n:Nat) (t:TGs):TG:=λ v σ H Q=>∃ a xs,v = .ref a∧SqT K H a xs∧xs.length=n∧t xs σ H Q
theorem zgf {es:List Expr} {k:Nat} {t:TGs} {n:Nat} (hc:X.calm=true) (h:PGs X es t)
  (hn:(assignEach es X.env).length=n:=by rfl) (hst:(assignEach es X.env).findIdx? (·.1)=none:=by rfl):PG X (.Tuple es k pos) (gTup X.K n t) := .mk <| by
 intro pins s σ H v u Q I r hw
 obtain ⟨a,xs,e1,hq,hl,hw⟩:=hw
 subst e1
 cases r
 obtain ⟨its,rv,ht,hz⟩:=I.tuple hq
 refine assign_Tuple_tuple (I.ok.hd hc) ht (by simp [hn,← hl,rv.length]) hst λ h' hx=>?_
 have I1:Inv X pins σ H { s with heap:=h' }:=I.kept (t':=s.toks) λ b o e=>hx b o (Nat.ne_of_lt (Heap.lt_size e)) e
 exact h pins _ σ H xs _ Q I1 (by simpa using rv) hw
noncomputable def tAsg (te:TE) (g:TG):TS:=λ D σ H=>te σ H λ x H1=>g x σ H1 D.nx
theorem zxe {tg e:Expr} {te:TE} {g:TG} (he:PE X e te) (hg:PG X tg g) (hs:swapsWithSole [tg] e pos.line X.env=pure false:=by rfl) (hw:swappedStores [tg] e X.env=pure none:=by rfl)
  (h1:(assignEach [tg] X.env).map (·.2)=[assign tg X.env]:=by rfl):PS X (.Assign [tg] e pos) (tAsg te g) := .mk <| by
 intro pins s σ H D I h
 refine wpAny_Assign_stores (thn (he pins s σ H _ I h) λ v s1 ⟨x,H1,I1,r1,q1⟩=>?_) hs hw
 rw [h1]
 exact thn (hg pins s1 σ H1 x v _ I1 r1 q1) λ _ s2 q=>q
theorem zza {i:Nat} {x:Str} {e:Expr} {te:TE} {pos':Pos} (hN:X.N.Nodup) (hi:X.N[i]? = some x) (hx:Loc X.env.scope x) (he:PE X e te) (hs:swapsWith e (some (.Name x pos')) pos.line X.env=pure false:=by rfl) (hf:X.fn x=true ∨ X.env.scope.names.lookup x=some .local:=by first | exact .inl rfl | exact .inr rfl | assumption) :
  PS X (.Assign [.Name x pos'] e pos) (tAsg te (zcq i)) := .mk <| by
 intro pins s σ H D I h
 refine wpAny_Assign_Name (thn (he pins s σ H _ I h) λ v s1 ⟨y,H1,I1,r1,q1⟩=>?_) hs
 exact zqf I1 hN hi hx r1 (λ s2 I2=>⟨_,H1,I2,q1⟩) hf
end
section
variable {X:Cx} {pos:Pos}
end
structure It where
 go:Nat→Hp→Prop
 yld:Nat→Hp→V→Hp→Prop
 stop:Nat→Hp→Prop
noncomputable def FpOk (X:Cx) (pins:List (Addr×Obj)) (H:Hp) (b:Addr):Prop :=
 H b=none∧b≠X.env.locals∧b∉X.fs∧(b∈X.ex ∨ X.s₀.heap.objs.size≤b)∧(∀ x c,X.env.cells.lookup x=some c→c≠b)∧∀ p∈X.pn++pins,p.1≠b
theorem Inv.fpOk {X:Cx} {pins:List (Addr×Obj)} {σ:St} {H H':Hp} {s:Shared} {b:Addr} (I:Inv X pins σ H s) (hb:s.heap.objs.size≤b) (hn:H' b=none):FpOk X pins H' b:=by
 refine ⟨hn,Nat.ne_of_gt (Nat.lt_of_lt_of_le I.lt hb),I.nofs hb,.inr (Nat.le_trans I.sz hb),λ x c e z=>?_,λ p hp z=>?_⟩
 ·obtain ⟨v,q⟩:=I.cell x c e
  exact absurd (Nat.lt_of_lt_of_le q.lt (by rw [z];exact hb)) (Nat.lt_irrefl _)
 ·exact absurd (Nat.lt_of_lt_of_le (Heap.lt_size (I.pin p hp).1) (by rw [z];exact hb)) (Nat.lt_irrefl _)
structure Turn (P:Program) (w:World) (K:W.Frag) (tg:Expr) (J:It) (fp:List Addr) (it:Addr) (tn:Nat→Heap→Prop):Prop where
 mem:it∈fp
 obj:∀ i h,tn i h→∀ b∈fp,∃ o,h.get? b=some o∧∀ v,o.data ≠ .cell v
 keep:∀ i h h',tn i h→(∀ b∈fp,∀ o,h.get? b=some o→h'.get? b=some o)→tn i h'
 item:∀ (X:Cx),X.prog=P→X.w=w→X.K=K→X.calm=true→∀ (i:Nat) (pins:List (Addr×Obj)) (s:Shared) (σ:St) (H:Hp) (E:Value→Shared→Prop),Inv X pins σ H s→(∀ b∈fp,FpOk X pins H b)→tn i s.heap→J.go i H →
  wpAny (model P w) X.A (pyNext (.ref it)) (λ r s1=>∃ u,r=some u ∧
   wpAny (model P w) X.A (letOwnedTupleGo tg (.ref it) u) (λ _ s2=>∃ x H',Inv X pins σ H' s2∧RelV x u∧J.yld i H x H'∧tn (i+1) s2.heap∧∀ b∈fp,H' b=none) E s1) E s
 done:∀ (X:Cx),X.prog=P→X.w=w→X.K=K→X.calm=true→∀ (i:Nat) (pins:List (Addr×Obj)) (s:Shared) (σ:St) (H:Hp) (E:Value→Shared→Prop),Inv X pins σ H s→(∀ b∈fp,FpOk X pins H b)→tn i s.heap→J.stop i H →
  wpAny (model P w) X.A (pyNext (.ref it)) (λ r s1=>r=none∧Inv X pins σ H s1) E s
 self:∀ (A:Around) (i:Nat) (s:Shared) (Q:Value→Shared→Prop) (E:Value→Shared→Prop),tn i s.heap→Q (.ref it) s→wpAny (model P w) A (pyIter (.ref it)) Q E s
noncomputable abbrev TI:=St→Hp→(It→Hp→Prop)→Prop
noncomputable def PIE (X:Cx) (pins:List (Addr×Obj)) (σ:St) (tg:Expr) (R:It→Hp→Prop) (itv:Value) (s2:Shared):Prop :=
 ∃ (it:Addr) (fp:List Addr) (tn:Nat→Heap→Prop) (J:It) (H':Hp),itv = .ref it∧Inv X pins σ H' s2∧Turn X.prog X.w X.K tg J fp it tn∧tn 0 s2.heap∧(∀ b∈fp,FpOk X pins H' b)∧R J H'
structure PI (X:Cx) (tg iter:Expr) (wi:TI):Prop where
 run :
 ∀ (pins:List (Addr×Obj)) (s:Shared) (σ:St) (H:Hp) (R:It→Hp→Prop),Inv X pins σ H s→wi σ H R →
  wpAny (model X.prog X.w) X.A (eval iter X.env) (λ v s1=>wpAny (model X.prog X.w) X.A (pyIter v) (PIE X pins σ tg R) X.xe s1) X.xe s
noncomputable instance {X:Cx} {tg iter:Expr} {wi:TI}:CoeFun (PI X tg iter wi) (λ _ =>
 ∀ (pins:List (Addr×Obj)) (s:Shared) (σ:St) (H:Hp) (R:It→Hp→Prop),Inv X pins σ H s→wi σ H R →
  wpAny (model X.prog X.w) X.A (eval iter X.env) (λ v s1=>wpAny (model X.prog X.w) X.A (pyIter v) (PIE X pins σ tg R) X.xe s1) X.xe s
 ):=⟨λ h=>h.run⟩
theorem zqr {M:Model} {A:Around} {E:Value→Shared→Prop} {s:Shared} {tg:Expr} {it:Addr} {u:Value} {o:Obj} {n:String} {vs:Array Value} {Q:Unit→Shared→Prop} (ho:s.heap.get? it=some o) (hc:o.cls = .type n) (hd:o.data = .fields vs)
  (hn:["enumerate", "zip", "dict_itemiterator", "dict_reverseitemiterator", "odict_iterator", "itertools.zip_longest", "itertools.pairwise"].contains n=false) (hQ:Q () s):wpAny M A (letOwnedTupleGo tg (.ref it) u) Q E s:=by
 unfold letOwnedTupleGo
 cases tg <;> first
  | exact wpAny_pure hQ
  | (cases u <;> first
    | exact wpAny_pure hQ
    | (refine wpAny_bind (wpAny_load ho ?_)
       rw [hc,hd]
       show wpAny M A (if (["enumerate", "zip", "dict_itemiterator", "dict_reverseitemiterator", "odict_iterator", "itertools.zip_longest", "itertools.pairwise"].contains n && vs[0]? == some (rawInt _))=true then _ else _) Q E s
       rw [if_neg (by intro h;rw [hn,Bool.false_and] at h;cases h)]
       exact wpAny_pure hQ))
noncomputable def Itl (K:W.Frag) (a:Addr):It :=
 ⟨λ i H=>∃ xs x,SqL K H a xs∧xs[i]? = some x,λ i H x H'=>H'=H∧∀ xs,SqL K H a xs→xs[i]? = some x,λ i H=>∃ xs,SqL K H a xs∧xs.length≤i⟩
noncomputable def Itt (K:W.Frag) (a:Addr):It :=
 ⟨λ i H=>∃ xs x,SqT K H a xs∧xs[i]? = some x,λ i H x H'=>H'=H∧∀ xs,SqT K H a xs→xs[i]? = some x,λ i H=>∃ xs,SqT K H a xs∧xs.length≤i⟩
noncomputable def Itr (lo:Int) (n:Nat):It:=⟨λ i _=>i<n,λ i H x H'=>H'=H∧x = .int (lo+i),λ i _=>n≤i⟩
theorem zal {P:Program} {w:World} {K:W.Frag} {tg:Expr} (a it:Addr):Turn P w K tg (Itl K a) [it] it (λ i h=>h.IsListIter it a i) where
 mem:=by simp
 obj:=λ i h st b hb=>by
  have e:b=it:=by simpa using hb
  subst e
  obtain ⟨o,e,c,d⟩:=st
  exact ⟨o,e,λ v z=>by rw [d] at z;cases z⟩
 keep:=λ i h h' st k=>st.at λ o e=>k it (by simp) o e
 item:=by
  intro X hP hw hK hc i pins s σ H E I hf st hg
  subst hP hw hK
  obtain ⟨xs,x,hq,hx⟩:=hg
  obtain ⟨its,rv,p,hz⟩:=I.list hq
  obtain ⟨u,hu,ru⟩:=rv.get hx
  obtain ⟨f0,f1,f2,f3,f4,f5⟩:=hf it (by simp)
  refine wpAny_pyNext_list_item st p.isList (x:=u) (by simpa using hu) λ h' st' sb=>?_
  have I1:Inv X pins σ H { s with heap:=h' }:=I.turned (t':=s.toks) (λ b o hb e=>(sb.2 b hb).trans e) f0 f1 f3 f4 f5
  obtain ⟨o,e,c,d⟩:=id st'
  exact ⟨u,rfl,zqr (s:={ s with heap:=h' }) e c d (by decide) ⟨x,H,I1,ru,⟨rfl,λ ys hy=>by rw [I.list_inj hy hq];exact hx⟩,st',λ b hb=>(hf b hb).1⟩⟩
 done:=by
  intro X hP hw hK hc i pins s σ H E I hf st hg
  subst hP hw hK
  obtain ⟨xs,hq,hx⟩:=hg
  obtain ⟨its,rv,p,hz⟩:=I.list hq
  obtain ⟨f0,f1,f2,f3,f4,f5⟩:=hf it (by simp)
  have hl:=rv.length
  exact wpAny_pyNext_list_end (I.ok.hd hc) st p.isList (by simp;omega) λ h' eb=>⟨rfl,I.turned (t':=s.toks) (λ b o hb e=>eb b o hb e) f0 f1 f3 f4 f5⟩
 self:=λ _ _ _ _ _ st h=>wpAny_pyIter_listiter st h
theorem znj {P:Program} {w:World} {K:W.Frag} {tg:Expr} (a it:Addr):Turn P w K tg (Itt K a) [it] it (λ i h=>h.IsTupleIter it a i) where
 mem:=by simp
 obj:=λ i h st b hb=>by
  have e:b=it:=by simpa using hb
  subst e
  obtain ⟨o,e,c,d⟩:=st
  exact ⟨o,e,λ v z=>by rw [d] at z;cases z⟩
 keep:=λ i h h' st k=>st.at λ o e=>k it (by simp) o e
 item:=by
  intro X hP hw hK hc i pins s σ H E I hf st hg
  subst hP hw hK
  obtain ⟨xs,x,hq,hx⟩:=hg
  obtain ⟨its,rv,p,hz⟩:=I.tuple hq
  obtain ⟨u,hu,ru⟩:=rv.get hx
  obtain ⟨f0,f1,f2,f3,f4,f5⟩:=hf it (by simp)
  refine wpAny_pyNext_tuple_item st (show s.heap.IsTuple a its.toArray from p) (x:=u) (by simpa using hu) λ h' st' sb=>?_
  have I1:Inv X pins σ H { s with heap:=h' }:=I.turned (t':=s.toks) (λ b o hb e=>(sb.2 b hb).trans e) f0 f1 f3 f4 f5
  obtain ⟨o,e,c,d⟩:=id st'
  exact ⟨u,rfl,zqr (s:={ s with heap:=h' }) e c d (by decide) ⟨x,H,I1,ru,⟨rfl,λ ys hy=>by rw [I.tuple_inj hy hq];exact hx⟩,st',λ b hb=>(hf b hb).1⟩⟩
 done:=by
  intro X hP hw hK hc i pins s σ H E I hf st hg
  subst hP hw hK
  obtain ⟨xs,hq,hx⟩:=hg
  obtain ⟨its,rv,p,hz⟩:=I.tuple hq
  obtain ⟨f0,f1,f2,f3,f4,f5⟩:=hf it (by simp)
  have hl:=rv.length
  exact wpAny_pyNext_tuple_end (I.ok.hd hc) st (show s.heap.IsTuple a its.toArray from p) (by simp;omega) λ h' eb=>⟨rfl,I.turned (t':=s.toks) (λ b o hb e=>eb b o hb e) f0 f1 f3 f4 f5⟩
 self:=λ _ _ _ _ _ st h=>wpAny_pyIter_tupleiter st h
theorem zxj {P:Program} {w:World} {K:W.Frag} {tg:Expr} (it:Addr) (lo:Int) (n:Nat):Turn P w K tg (Itr lo n) [it] it (λ i h=>IsRangeIter h it (lo+(i:Nat) * 1) ((n:Int) - (i:Nat)) 1) where
 mem:=by simp
 obj:=λ i h st b hb=>by
  have e:b=it:=by simpa using hb
  subst e
  exact ⟨_,st,λ v z=>by
   have z':Data.fields _=Data.cell v:=z
   cases z'⟩
 keep:=λ i h h' st k=>k it (by simp) _ st
 item:=by
  intro X hP hw hK hc i pins s σ H E I hf st hg
  subst hP hw hK
  obtain ⟨f0,f1,f2,f3,f4,f5⟩:=hf it (by simp)
  have W:=Walks.range (prog:=X.prog) (w:=X.w) (I.ok.hd hc) it lo 1 n
  refine W.item i s _ _ hg st λ v h' tk hv st' kk=>?_
  obtain ⟨t,rfl⟩:=hv
  have I1:Inv X pins σ H { s with heap:=h',toks:=tk }:=I.turned (λ b o hb e=>kk b o (by simpa using hb) e) f0 f1 f3 f4 f5
  refine ⟨_,rfl,zqr (s:={ s with heap:=h',toks:=tk }) (n := "range_iterator") st' rfl rfl (by decide) ⟨.int (lo+i),H,I1,⟨t,?_⟩,⟨rfl,rfl⟩,st',λ b hb=>(hf b hb).1⟩⟩
  rw [Int.mul_one]
 done:=by
  intro X hP hw hK hc i pins s σ H E I hf st hg
  subst hP hw hK
  obtain ⟨f0,f1,f2,f3,f4,f5⟩:=hf it (by simp)
  exact wpAny_pyNext_range_end (I.ok.hd hc) st (by have:n≤i:=hg;omega) λ h' eb=>⟨rfl,I.turned (t':=s.toks) (λ b o hb e=>eb b o hb e) f0 f1 f3 f4 f5⟩
 self:=λ _ _ _ _ _ st h=>wpAny_pyIter_rangeiter st h
end L2
namespace L2
open PySem PySem.Spec PyProof.Rows
section
variable {X:Cx} {tg:Expr}
noncomputable def zoy (K:W.Frag) (tl:TE):TI:=λ σ H R=>tl σ H λ x H1=>∃ a,x = .ref a∧(∃ xs,SqL K H1 a xs)∧R (Itl K a) H1
noncomputable def iTup (K:W.Frag) (tl:TE):TI:=λ σ H R=>tl σ H λ x H1=>∃ a,x = .ref a∧(∃ xs,SqT K H1 a xs)∧R (Itt K a) H1
theorem zaj {l:Expr} {tl:TE} (hl:PE X l tl):PI X tg l (zoy X.K tl) := .mk <| by
 intro pins s σ H R I h
 refine thn (hl pins s σ H _ I h) λ v s1 ⟨x,H1,I1,r1,q1⟩=>?_
 obtain ⟨a,e,⟨xs,hq⟩,q⟩:=q1
 subst e
 cases r1
 obtain ⟨its,rv,p,hz⟩:=I1.list hq
 refine wpAny_pyIter_list p.isList ?_
 refine ⟨s1.heap.objs.size,[s1.heap.objs.size],_,_,H1,rfl,I1.kept (t':=s1.toks) λ b o e=>Heap.get?_push_of_some _ e,zal a _,⟨_,Heap.get?_push_size _ rfl,rfl,rfl⟩,λ b hb=>?_,q⟩
 have e:b=s1.heap.objs.size:=by simpa using hb
 subst e
 exact I1.fpOk (Nat.le_refl _) (I1.hok.fresh (Nat.le_refl _))
theorem zsp {l:Expr} {tl:TE} (hl:PE X l tl):PI X tg l (iTup X.K tl) := .mk <| by
 intro pins s σ H R I h
 refine thn (hl pins s σ H _ I h) λ v s1 ⟨x,H1,I1,r1,q1⟩=>?_
 obtain ⟨a,e,⟨xs,hq⟩,q⟩:=q1
 subst e
 cases r1
 obtain ⟨its,rv,p,hz⟩:=I1.tuple hq
 refine wpAny_pyIter_tuple (show s1.heap.IsTuple a its.toArray from p) ?_
 refine ⟨s1.heap.objs.size,[s1.heap.objs.size],_,_,H1,rfl,I1.kept (t':=s1.toks) λ b o e=>Heap.get?_push_of_some _ e,znj a _,⟨_,Heap.get?_push_size _ rfl,rfl,rfl⟩,λ b hb=>?_,q⟩
 have e:b=s1.heap.objs.size:=by simpa using hb
 subst e
 exact I1.fpOk (Nat.le_refl _) (I1.hok.fresh (Nat.le_refl _))
theorem zwn {pins:List (Addr×Obj)} {σ:St} {H:Hp} {s:Shared} {R:It→Hp→Prop} {E:Value→Shared→Prop} {lo hi:Int} {t u v:Tok} {tk:Nat} (I:Inv X pins σ H s) (h1 : -(2 ^ 62)≤lo) (h2:lo<2 ^ 62) (h3 : -(2 ^ 62)≤hi) (h4:hi<2 ^ 62)
  (q:R (Itr lo (hi - lo).toNat) H):wpAny (model X.prog X.w) X.A (pyIter (.ref s.heap.objs.size)) (PIE X pins σ tg R) E { s with heap:=s.heap.push { cls := .type "range",data := .fields #[.int lo t,.int hi u,.int 1 v] },toks:=tk }:=by
 refine wpAny_pyIter_range (IsRange.new ..) (small_one h1 h2 h3 h4) ?_
 have I1:Inv X pins σ H { s with heap:=s.heap.push { cls := .type "range",data := .fields #[.int lo t,.int hi u,.int 1 v] },toks:=tk }:=I.kept λ b o e=>Heap.get?_push_of_some _ e
 refine ⟨(s.heap.push { cls := .type "range",data := .fields #[.int lo t,.int hi u,.int 1 v] }).objs.size,[(s.heap.push { cls := .type "range",data := .fields #[.int lo t,.int hi u,.int 1 v] }).objs.size],_,_,H,rfl,
  I1.kept (t':=tk) λ b o e=>Heap.get?_push_of_some _ e,zxj _ lo (hi - lo).toNat,?_,λ b hb=>?_,q⟩
 ·have e1:lo+((0:Nat):Int) * 1=lo:=by simp
  have e2:(((hi - lo).toNat:Nat):Int) - ((0:Nat):Int)=Builtin.Range.rangeSize lo hi 1:=by rw [rangeSize_one];split <;> omega
  show IsRangeIter _ _ (lo+((0:Nat):Int) * 1) ((((hi - lo).toNat:Nat):Int) - ((0:Nat):Int)) 1
  rw [e1,e2]
  exact Heap.get?_push_size _ rfl
 ·have e:b=(s.heap.push { cls := .type "range",data := .fields #[.int lo t,.int hi u,.int 1 v] }).objs.size:=by simpa using hb
  subst e
  exact I1.fpOk (Nat.le_refl _) (I1.hok.fresh (Nat.le_refl _))
noncomputable def zvy (ta:TA):TI:=λ σ H R=>ta σ H λ vs H1=>∃ j:Int,vs=[.int j] ∧ -(2 ^ 62)≤j∧j<2 ^ 62∧R (Itr 0 j.toNat) H1
theorem zcl {a:Expr} {ta:TA} {p pos:Pos} (hg:Gl X "range") (hm:X.mg "range" = none) (ha:PA X [a] ta) (hs:starEach [a] X.env=[(false,eval a X.env)]:=by rfl):PI X tg (.Call (.Name "range" p) [a] [] pos) (zvy ta) := .mk <| by
 intro pins s σ H R I h
 refine Call_ (zdh I hg hm boot_range (PyProof.Rows.callWith_type1 (thn (ha pos pins s σ H _ I h) λ us s1 ⟨vs,H1,I1,r1,q1⟩=>?_) hs rfl))
 obtain ⟨j,e,q1,q2,q⟩:=q1
 subst e
 cases r1 with
 | cons r rr =>
  cases rr
  obtain ⟨t,rfl⟩:=r
  exact call_range_1 (zwn I1 (by omega) (by omega) q1 q2 (by simpa using q))
noncomputable def tFor (wi:TI) (g:TG) (tb:TS):TS:=λ D σ H=>wi σ H λ J H1=>∃ W:Nat→Nat→St→Hp→Prop,(∃ m,W 0 m σ H1)∧∀ i m σ H,W i m σ H →
 (J.stop i H∧D.nx σ H) ∨ (J.go i H∧∃ N:St→Hp→Prop,(∀ σ' H',N σ' H'→∃ m',m'<m∧W (i+1) m' σ' H')∧∀ x H',J.yld i H x H'→g x σ H' λ σ2 H2=>tb { D with nx:=N,ct:=N,bk:=D.nx } σ2 H2)
noncomputable def zri (fp:List Addr) (h:Heap):List (Addr×Obj):=fp.filterMap λ b=>(h.get? b).map λ o=>(b,o)
theorem zjc {fp:List Addr} {h:Heap} {b:Addr} {o:Obj} (hb:b∈fp) (e:h.get? b=some o):(b,o)∈zri fp h:=List.mem_filterMap.mpr ⟨b,hb,by rw [e];rfl⟩
theorem zfk {fp:List Addr} {h:Heap} {p:Addr×Obj} (hp:p∈zri fp h):p.1∈fp∧h.get? p.1=some p.2:=by
 obtain ⟨b,hb,e⟩:=List.mem_filterMap.mp hp
 cases q:h.get? b with
 | none=>rw [q] at e;cases e
 | some o =>
  rw [q] at e
  have e':(b,o)=p:=Option.some.inj e
  subst e'
  exact ⟨hb,q⟩
theorem Inv.pinned {pins:List (Addr×Obj)} {σ:St} {H:Hp} {s:Shared} {fp:List Addr} (I:Inv X pins σ H s) (hf:∀ b∈fp,FpOk X pins H b) (ho:∀ b∈fp,∃ o,s.heap.get? b=some o∧∀ v,o.data ≠ .cell v):Inv X (pins++zri fp s.heap) σ H s :=
 I.pins_of λ p hp=>(List.mem_append.mp hp).elim (λ z=>I.pin p (List.mem_append_right _ z)) λ z=>by
  obtain ⟨hb,e⟩:=zfk z
  obtain ⟨f0,f1,f2,_⟩:=hf p.1 hb
  obtain ⟨o,e',d⟩:=ho p.1 hb
  rw [e] at e';cases e'
  exact ⟨e,f0,f1,f2,d⟩
theorem Inv.unpinned {pins pl:List (Addr×Obj)} {σ:St} {H:Hp} {s:Shared} (I:Inv X (pins++pl) σ H s):Inv X pins σ H s:=I.pins_of λ p hp=>I.pin p (List.mem_append_right _ (List.mem_append_left _ hp))
theorem zap {iter:Expr} {body:List Stmt} {wi:TI} {g:TG} {tb:TS} {pos:Pos} (hp:PassesOwn (model X.prog X.w) X.A X.env X.xe) (hc:X.calm=true) (hi:PI X tg iter wi) (hg:PG X tg g) (hb:PSs X body tb)
  (hs:∀ x,foldedSetIterable iter X.env x=pure x:=by intro _;rfl):PS X (.For tg iter body [] pos) (tFor wi g tb) := .mk <| by
 intro pins s σ H D I h
 refine wpAny_For (thn (hi pins s σ H _ I h) λ v s1 h1=>thn h1 λ itv s2 h2=>?_) hs
 obtain ⟨it,fp,tn,J,H2,e,I2,T,st2,f2,W,⟨m0,w0⟩,turn⟩:=h2
 subst e
 have stat:∀ {H':Hp},(∀ b∈fp,H' b=none)→∀ b∈fp,FpOk X pins H' b:=λ hn b hb=>⟨hn b hb,(f2 b hb).2⟩
 refine codeAny_forLoop_any (λ n s'=>∃ i σ' H',Inv X pins σ' H' s'∧tn i s'.heap∧(∀ b∈fp,H' b=none)∧W i n σ' H') ?_ m0 ⟨0,σ,H2,I2,st2,λ b hb=>(f2 b hb).1,w0⟩
 rintro n s3 ⟨i,σ3,H3,I3,st3,fr3,w3⟩
 rcases turn i n σ3 H3 w3 with ⟨stop,qn⟩ | ⟨go,N,hN,step⟩
 ·refine wpAny_passesOwn hp (thn (T.done X rfl rfl rfl hc i pins s3 σ3 H3 X.xe I3 (stat fr3) st3 stop) λ r s4 ⟨hr,I4⟩=>?_)
  subst hr
  exact wpAny_execs_nil ⟨σ3,H3,I4,qn⟩
 ·refine wpAny_passesOwn hp (thn (T.item X rfl rfl rfl hc i pins s3 σ3 H3 X.xe I3 (stat fr3) st3 go) λ r s4 ⟨u,hr,h4⟩=>?_)
  subst hr
  refine wpAny_passesOwn hp (thn h4 λ _ s5 ⟨x,H5,I5,r5,y5,st5,fr5⟩=>?_)
  have I5':=I5.pinned (stat fr5) (T.obj _ _ st5)
  refine wpAny_passesOwn hp (thn (hg _ s5 σ3 H5 x u _ I5' r5 (step x H5 y5)) λ _ s6 ⟨σ6,H6,I6,q6⟩=>?_)
  refine wpAny_passesOwn hp (thn (hb _ s6 σ6 H6 _ I6 q6) λ f s7 q7=>?_)
  have again:∀ {σ7:St} {H7:Hp},Inv X (pins++zri fp s5.heap) σ7 H7 s7→N σ7 H7→∃ m,m<n∧∃ i σ' H',Inv X pins σ' H' s7∧tn i s7.heap∧(∀ b∈fp,H' b=none)∧W i m σ' H':=fun {σ7 H7} I7 n7=>by
   obtain ⟨m',hm,w7⟩:=hN σ7 H7 n7
   refine ⟨m',hm,i+1,σ7,H7,I7.unpinned,T.keep _ _ _ st5 λ b hb o e=>(I7.pin (b,o) (List.mem_append_right _ (List.mem_append_right _ (zjc hb e)))).1,λ b hb=>?_,w7⟩
   obtain ⟨o,e,d⟩:=T.obj _ _ st5 b hb
   exact (I7.pin (b,o) (List.mem_append_right _ (List.mem_append_right _ (zjc hb e)))).2.1
  cases f with
  | next=>obtain ⟨σ7,H7,I7,n7⟩:=q7;exact again I7 n7
  | cont=>obtain ⟨σ7,H7,I7,n7⟩:=q7;exact again I7 n7
  | brk=>obtain ⟨σ7,H7,I7,q7⟩:=q7;exact ⟨σ7,H7,I7.unpinned,q7⟩
  | ret v=>obtain ⟨x7,σ7,H7,I7,r7,q7⟩:=q7;exact ⟨x7,σ7,H7,I7.unpinned,r7,q7⟩
end
theorem zok {lo:Int} {n:Nat} {g:TG} {tb:TS} {D:Ends} {σ:St} {H:Hp} (Pv:Nat→St→Hp→Prop) (h0:Pv 0 σ H)
  (hs:∀ i σ H,i<n→Pv i σ H→g (.int (lo+i)) σ H λ σ2 H2=>tb { D with nx:=Pv (i+1),ct:=Pv (i+1),bk:=D.nx } σ2 H2) (hd:∀ σ H,Pv n σ H→D.nx σ H) :
  ∃ W:Nat→Nat→St→Hp→Prop,(∃ m,W 0 m σ H)∧∀ i m σ H,W i m σ H →
   ((Itr lo n).stop i H∧D.nx σ H) ∨ ((Itr lo n).go i H∧∃ N:St→Hp→Prop,(∀ σ' H',N σ' H'→∃ m',m'<m∧W (i+1) m' σ' H')∧∀ x H',(Itr lo n).yld i H x H'→g x σ H' λ σ2 H2=>tb { D with nx:=N,ct:=N,bk:=D.nx } σ2 H2):=by
 refine ⟨λ i m σ H=>m=n - i∧i≤n∧Pv i σ H,⟨n,by simp,Nat.zero_le _,h0⟩,?_⟩
 rintro i m σ H ⟨rfl,hi,p⟩
 by_cases hlt:i<n
 ·refine .inr ⟨hlt,Pv (i+1),λ σ' H' p'=>⟨n - (i+1),by omega,rfl,hlt,p'⟩,λ x H' y=>?_⟩
  obtain ⟨e,y⟩:=y
  subst e y
  exact hs i σ _ hlt p
 ·have e:i=n:=by omega
  subst e
  exact .inl ⟨Nat.le_refl _,hd σ H p⟩
end L2
namespace L2
open PySem PySem.Spec PyProof.Rows
noncomputable abbrev R2:=V→V→Hp→VK→Prop
noncomputable def OpR (X:Cx) (f:Value→Value→Sem Value) (r:R2):Prop :=
 ∀ (pins:List (Addr×Obj)) (s:Shared) (σ:St) (H:Hp) (x y:V) (v u:Value) (Q:VK),Inv X pins σ H s→RelV x v→RelV y u→r x y H Q →
  wpAny (model X.prog X.w) X.A (f v u) (EP X pins σ Q) X.xe s
noncomputable def zlf (X:Cx) (f:Value) (r:List V→Hp→VK→Prop):Prop :=
 ∀ (pins:List (Addr×Obj)) (s:Shared) (σ:St) (H:Hp) (xs:List V) (us:List Value) (Q:VK),Inv X pins σ H s→Vals xs us→r xs H Q →
  wpAny (model X.prog X.w) X.A (call f us) (EP X pins σ Q) X.xe s
noncomputable def tOp (r:R2) (ta tb:TE):TE:=λ σ H Q=>ta σ H λ x H1=>tb σ H1 λ y H2=>r x y H2 Q
noncomputable def rI (C:Int→Int→Prop) (g:Int→Int→V):R2:=λ x y H Q=>∃ i j,x = .int i∧y = .int j∧C i j∧Q (g i j) H
noncomputable def rI0 (g:Int→Int→V):R2:=λ x y H Q=>∃ i j,x = .int i∧y = .int j∧Q (g i j) H
section
variable {X:Cx} {a b c:Expr} {ta tb tc:TE} {pos:Pos}
theorem binT (ha:PE X a ta) (hb:PE X b tb) {pins:List (Addr×Obj)} {s:Shared} {σ:St} {H:Hp} {R:V→V→Hp→Prop} (I:Inv X pins σ H s)
  (h:ta σ H λ x H1=>tb σ H1 λ y H2=>R x y H2) {Q:Value→Shared→Prop} {f:Value→Value→Sem Value}
  (hf:∀ v u s2 x y H2,Inv X pins σ H2 s2→RelV x v→RelV y u→R x y H2→wpAny (model X.prog X.w) X.A (f v u) Q X.xe s2) :
  wpAny (model X.prog X.w) X.A (eval a X.env) (λ v s₁=>wpAny (model X.prog X.w) X.A (eval b X.env) (λ u s₂=>wpAny (model X.prog X.w) X.A (f v u) Q X.xe s₂) X.xe s₁) X.xe s:=by
 refine thn (ha pins s σ H _ I h) λ v s1 ⟨x,H1,I1,r1,q1⟩=>?_
 refine thn (hb pins s1 σ H1 _ I1 q1) λ u s2 ⟨y,H2,I2,r2,q2⟩=>?_
 exact hf v u s2 x y H2 I2 r1 r2 q2
theorem zra {op:Operator} {r:R2} (ho:OpR X (binaryOp op) r) (ha:PE X a ta) (hb:PE X b tb):PE X (.BinOp a op b pos) (tOp r ta tb) := .mk <| by
 intro pins s σ H Q I h
 exact wpAny_BinOp (binT ha hb I h λ v u s2 x y H2 I2 rx ry q=>ho pins s2 σ H2 x y v u Q I2 rx ry q)
theorem opI {f:Value→Value→Sem Value} {C:Int→Int→Prop} {g:Int→Int→Int}
  (rule:∀ (i j:Int) (t u:Tok) (s:Shared) (Q:Value→Shared→Prop) (E:Value→Shared→Prop),C i j→Q (.int (g i j) s.toks) { s with toks:=s.toks+1 }→wpAny (model X.prog X.w) X.A (f (.int i t) (.int j u)) Q E s) :
  OpR X f (rI C λ i j=>.int (g i j)):=by
 intro pins s σ H x y v u Q I rx ry h
 obtain ⟨i,j,rfl,rfl,hc,q⟩:=h
 obtain ⟨t,rfl⟩:=rx
 obtain ⟨t',rfl⟩:=ry
 exact rule i j t t' s _ _ hc ⟨.int (g i j),H,I.tok _,⟨_,rfl⟩,q⟩
theorem opI0 {f:Value→Value→Sem Value} {g:Int→Int→Int}
  (rule:∀ (i j:Int) (t u:Tok) (s:Shared) (Q:Value→Shared→Prop) (E:Value→Shared→Prop),Q (.int (g i j) s.toks) { s with toks:=s.toks+1 }→wpAny (model X.prog X.w) X.A (f (.int i t) (.int j u)) Q E s) :
  OpR X f (rI0 λ i j=>.int (g i j)):=by
 intro pins s σ H x y v u Q I rx ry h
 obtain ⟨i,j,rfl,rfl,q⟩:=h
 obtain ⟨t,rfl⟩:=rx
 obtain ⟨t',rfl⟩:=ry
 exact rule i j t t' s _ _ ⟨.int (g i j),H,I.tok _,⟨_,rfl⟩,q⟩
theorem opB0 {f:Value→Value→Sem Value} {g:Int→Int→Bool}
  (rule:∀ (i j:Int) (t u:Tok) (s:Shared) (Q:Value→Shared→Prop) (E:Value→Shared→Prop),Q (.bool (g i j)) s→wpAny (model X.prog X.w) X.A (f (.int i t) (.int j u)) Q E s) :
  OpR X f (rI0 λ i j=>.bl (g i j)):=by
 intro pins s σ H x y v u Q I rx ry h
 obtain ⟨i,j,rfl,rfl,q⟩:=h
 obtain ⟨t,rfl⟩:=rx
 obtain ⟨t',rfl⟩:=ry
 exact rule i j t t' s _ _ ⟨.bl (g i j),H,I,rfl,q⟩
noncomputable def CDiv (i j:Int):Prop:=0<j∧j<1073741824
noncomputable def CPow (i j:Int):Prop:=0≤j∧j≤1000000∧i.natAbs<2 ^ 64
noncomputable def CMul (i j:Int):Prop:=(-(2 ^ 64)<i∧i<2 ^ 64) ∨ (-(2 ^ 64)<j∧j<2 ^ 64)
theorem CMul.ok {i j:Int} (h:CMul i j):IntMulOk i j:=by
 rcases h with ⟨h1,h2⟩ | ⟨h1,h2⟩
 ·exact .of_left (intBits_le_64 h1 h2)
 ·exact .of_right (intBits_le_64 h1 h2)
theorem zuc:OpR X (binaryOp .Add) (rI0 λ i j=>.int (i+j)):=opI0 λ _ _ _ _ _ _ _ q=>add_int q
theorem zvi:OpR X (binaryOp .Sub) (rI0 λ i j=>.int (i - j)):=opI0 λ _ _ _ _ _ _ _ q=>sub_int q
theorem zdd:OpR X (binaryOp .Mult) (rI CMul λ i j=>.int (i * j)):=opI λ _ _ _ _ _ _ _ hc q=>mul_int q hc.ok
theorem zta:OpR X (binaryOp .FloorDiv) (rI CDiv λ i j=>.int (i / j)):=opI λ i j _ _ _ _ _ hc q=>by
 have h1:(0:Int)<j:=hc.1
 have h2:j<1073741824:=hc.2
 exact floordiv_int (by omega) (by rw [Int.fdiv_eq_ediv_of_nonneg i (by omega)];exact q) (.inl (PyProof.noPylong_small (by omega)))
theorem zeb:OpR X (binaryOp .Mod) (rI (λ _ j=>0<j) λ i j=>.int (i % j)):=opI λ i j _ _ _ _ _ hc q=>by
 have h1:(0:Int)<j:=hc
 exact mod_int' (by omega) (by rw [Int.fmod_eq_emod_of_nonneg i (by omega)];exact q)
theorem zjj:OpR X (binaryOp .Pow) (rI CPow λ i j=>.int (i ^ j.toNat)):=opI λ _ _ _ _ _ _ _ hc q=>pow_int_small hc.1 hc.2.1 hc.2.2 q
end
noncomputable def scal:V→V→Bool
 | .non,.non=>true | .non,.int _=>true | .int _,.non=>true | .non,.bl _=>true | .bl _,.non=>true | .non,.str _=>true | .str _,.non=>true
 | .int _,.int _=>true | .bl _,.bl _=>true | .str _,.str _=>true | .byt _,.byt _=>true
 | .int _,.str _=>true | .str _,.int _=>true | .bl _,.str _=>true | .str _,.bl _=>true
 | _,_=>false
noncomputable def rEq:R2:=λ x y H Q=>scal x y=true∧Q (.bl (decide (x=y))) H
noncomputable def rNe:R2:=λ x y H Q=>scal x y=true∧Q (.bl (!decide (x=y))) H
theorem zcm {i j:Int}:decide (V.int i=V.int j)=(i == j):=by
 rw [Bool.eq_iff_iff]
 simp
theorem zxq {i j:Bool}:decide (V.bl i=V.bl j)=(i == j):=by
 rw [Bool.eq_iff_iff]
 simp
theorem ztl {i j:Str}:decide (V.str i=V.str j)=(i == j):=by
 rw [Bool.eq_iff_iff]
 simp
theorem zjm {i j:Array UInt8}:decide (V.byt i=V.byt j)=(i.toList == j.toList):=by
 rw [Bool.eq_iff_iff]
 cases i
 cases j
 simp
section
variable {X:Cx} {a b c:Expr} {ta tb tc:TE} {pos:Pos}
theorem zya {pins:List (Addr×Obj)} {σ:St} {H:Hp} {s:Shared} {Q:VK} {k k':Bool} (I:Inv X pins σ H s) (q:Q (.bl k) H) (e:k=k'):EP X pins σ Q (.bool k') s:=by
 subst e
 exact ⟨.bl k,H,I,rfl,q⟩
theorem zqb:OpR X (compareOp .Eq) rEq:=by
 intro pins s σ H x y v u Q I rx ry h
 obtain ⟨hs,q⟩:=h
 cases x with
 | non =>
  cases rx
  cases y with
  | non=>cases ry;exact PySem.EqNone.eq_none_none (zya I q (by simp))
  | bl j=>cases ry;exact PySem.EqNone.eq_none_bool (zya I q (by simp))
  | int j=>obtain ⟨t',rfl⟩:=ry;exact PySem.EqNone.eq_none_int (zya I q (by simp))
  | str j=>obtain ⟨t',rfl⟩:=ry;exact PySem.EqNone.eq_none_str (zya I q (by simp))
  | _=>exact absurd (show false=true from hs) Bool.false_ne_true
 | bl i =>
  cases rx
  cases y with
  | non=>cases ry;exact PySem.EqNone.eq_bool_none (zya I q (by simp))
  | bl j=>cases ry;exact eq_bool (zya I q zxq)
  | str j=>obtain ⟨t',rfl⟩:=ry;exact PySem.EqMixed.eq_bool_str (zya I q (by simp))
  | _=>exact absurd (show false=true from hs) Bool.false_ne_true
 | int i =>
  obtain ⟨t,rfl⟩:=rx
  cases y with
  | non=>cases ry;exact PySem.EqNone.eq_int_none (zya I q (by simp))
  | int j=>obtain ⟨t',rfl⟩:=ry;exact eq_int (zya I q zcm)
  | str j=>obtain ⟨t',rfl⟩:=ry;exact PySem.EqMixed.eq_int_str (zya I q (by simp))
  | _=>exact absurd (show false=true from hs) Bool.false_ne_true
 | str i =>
  obtain ⟨t,rfl⟩:=rx
  cases y with
  | non=>cases ry;exact PySem.EqNone.eq_str_none (zya I q (by simp))
  | bl j=>cases ry;exact PySem.EqMixed.eq_str_bool (zya I q (by simp))
  | int j=>obtain ⟨t',rfl⟩:=ry;exact PySem.EqMixed.eq_str_int (zya I q (by simp))
  | str j=>obtain ⟨t',rfl⟩:=ry;exact eq_str (zya I q ztl)
  | _=>exact absurd (show false=true from hs) Bool.false_ne_true
 | byt i =>
  obtain ⟨t,rfl⟩:=rx
  cases y with
  | byt j=>obtain ⟨t',rfl⟩:=ry;exact W.eq_bytes (zya I q zjm)
  | _=>exact absurd (show false=true from hs) Bool.false_ne_true
 | _=>cases y <;> exact absurd (show false=true from hs) Bool.false_ne_true
theorem zsr:OpR X (compareOp .NotEq) rNe:=by
 intro pins s σ H x y v u Q I rx ry h
 obtain ⟨hs,q⟩:=h
 cases x with
 | non =>
  cases rx
  cases y with
  | non=>cases ry;exact PySem.EqNone.ne_none_none (zya I q (by simp))
  | bl j=>cases ry;exact PySem.EqNone.ne_none_bool (zya I q (by simp))
  | int j=>obtain ⟨t',rfl⟩:=ry;exact PySem.EqNone.ne_none_int (zya I q (by simp))
  | str j=>obtain ⟨t',rfl⟩:=ry;exact PySem.EqNone.ne_none_str (zya I q (by simp))
  | _=>exact absurd (show false=true from hs) Bool.false_ne_true
 | bl i =>
  cases rx
  cases y with
  | non=>cases ry;exact PySem.EqNone.ne_bool_none (zya I q (by simp))
  | bl j=>cases ry;exact ne_bool (zya I q (congrArg not zxq))
  | str j=>obtain ⟨t',rfl⟩:=ry;exact PySem.EqMixed.ne_bool_str (zya I q (by simp))
  | _=>exact absurd (show false=true from hs) Bool.false_ne_true
 | int i =>
  obtain ⟨t,rfl⟩:=rx
  cases y with
  | non=>cases ry;exact PySem.EqNone.ne_int_none (zya I q (by simp))
  | int j=>obtain ⟨t',rfl⟩:=ry;exact ne_int (zya I q (congrArg not zcm))
  | str j=>obtain ⟨t',rfl⟩:=ry;exact PySem.EqMixed.ne_int_str (zya I q (by simp))
  | _=>exact absurd (show false=true from hs) Bool.false_ne_true
 | str i =>
  obtain ⟨t,rfl⟩:=rx
  cases y with
  | non=>cases ry;exact PySem.EqNone.ne_str_none (zya I q (by simp))
  | bl j=>cases ry;exact PySem.EqMixed.ne_str_bool (zya I q (by simp))
  | int j=>obtain ⟨t',rfl⟩:=ry;exact PySem.EqMixed.ne_str_int (zya I q (by simp))
  | str j=>obtain ⟨t',rfl⟩:=ry;exact ne_str (zya I q (congrArg not ztl))
  | _=>exact absurd (show false=true from hs) Bool.false_ne_true
 | byt i =>
  obtain ⟨t,rfl⟩:=rx
  cases y with
  | byt j=>obtain ⟨t',rfl⟩:=ry;exact W.ne_bytes (zya I q (congrArg not zjm))
  | _=>exact absurd (show false=true from hs) Bool.false_ne_true
 | _=>cases y <;> exact absurd (show false=true from hs) Bool.false_ne_true
theorem zlr:OpR X (compareOp .Lt) (rI0 λ i j=>.bl (decide (i<j))):=opB0 λ _ _ _ _ _ _ _ q=>lt_int q
theorem zgx:OpR X (compareOp .Gt) (rI0 λ i j=>.bl (decide (j<i))):=opB0 λ _ _ _ _ _ _ _ q=>gt_int q
theorem zix:OpR X (compareOp .GtE) (rI0 λ i j=>.bl (decide (j≤i))):=opB0 λ _ _ _ _ _ _ _ q=>ge_int q
theorem zsk:OpR X (compareOp .In) (λ x y H Q=>∃ i j,x = .str i∧y = .str j∧Q (.bl (!(Builtin.Str.occurrences j i 0 j.length 1).isEmpty)) H):=by
 intro pins s σ H x y v u Q I rx ry h
 obtain ⟨i,j,rfl,rfl,q⟩:=h
 obtain ⟨t,rfl⟩:=rx
 obtain ⟨t',rfl⟩:=ry
 exact in_str (zya I q rfl)
theorem zdl:OpR X (compareOp .Is) (λ x y H Q=>y = .non∧Q (.bl (decide (x = .non))) H):=by
 intro pins s σ H x y v u Q I rx ry h
 obtain ⟨rfl,q⟩:=h
 cases ry
 refine is_none_gen (zya I q ?_)
 cases x <;> first
  | (cases rx;rfl)
  | (obtain ⟨t,rfl⟩:=rx;rfl)
theorem zed:OpR X (compareOp .NotIn) (λ x y H Q=>∃ i j,x = .str i∧y = .str j∧Q (.bl (!(!(Builtin.Str.occurrences j i 0 j.length 1).isEmpty))) H):=by
 intro pins s σ H x y v u Q I rx ry h
 obtain ⟨i,j,rfl,rfl,q⟩:=h
 obtain ⟨t,rfl⟩:=rx
 obtain ⟨t',rfl⟩:=ry
 exact notIn_str (zya I q rfl)
theorem zqa (b:Expr) {op:CmpOp} (h:op ≠ .In:=by decide) (h2:op ≠ .NotIn:=by decide):behindInMarks op b=false:=by
 have e1:(op == CmpOp.In)=false:=by cases op <;> first | rfl | exact absurd rfl h
 have e2:(op == CmpOp.NotIn)=false:=by cases op <;> first | rfl | exact absurd rfl h2
 cases b <;> simp [behindInMarks,e1,e2]
theorem zyg {op:CmpOp} {r:R2} (ho:OpR X (compareOp op) r) (ha:PE X a ta) (hb:PE X b tb) (hm:behindInMarks op b=false):PE X (.Compare a [op] [b] pos) (tOp r ta tb) := .mk <| by
 intro pins s σ H Q I h
 exact wpAny_Compare1 (binT ha hb I h λ v u s2 x y H2 I2 rx ry q=>ho pins s2 σ H2 x y v u Q I2 rx ry q) hm
noncomputable def zpx (t:TE):TT:=λ σ H Q=>t σ H λ x H'=>∃ k,x = .bl k∧Q k H'
theorem zja {op:CmpOp} {r:R2} (ho:OpR X (compareOp op) r) (ha:PE X a ta) (hb:PE X b tb) (hm:behindInMarks op b=false):PT X (.Compare a [op] [b] pos) (zpx (tOp r ta tb)) := .mk <| by
 intro pins s σ H Q I h
 refine wpAny_isTrue_Compare1 (thn (ha pins s σ H _ I h) λ v s1 ⟨x,H1,I1,r1,q1⟩=>thn (hb pins s1 σ H1 _ I1 q1) λ u s2 ⟨y,H2,I2,r2,q2⟩ =>
  thn (ho pins s2 σ H2 x y v u _ I2 r1 r2 q2) λ c s3 ⟨z,H3,I3,r3,k,e,q3⟩=>?_) hm
 subst e
 cases r3
 exact wpAny_truthy_bool ⟨H3,I3,q3⟩
theorem zth:(sizeLine:Nat)<2 ^ 63:=by rw [sizeLine_eq];decide
theorem znd:OpR X (binaryOp .Add) (λ x y H Q=>∃ i j,x = .str i∧y = .str j∧i.length+j.length≤sizeLine∧Q (.str (i++j)) H):=by
 intro pins s σ H x y v u Q I rx ry h
 obtain ⟨i,j,rfl,rfl,hz,q⟩:=h
 obtain ⟨t,rfl⟩:=rx
 obtain ⟨t',rfl⟩:=ry
 exact add_str (λ t' tk=>⟨.str (i++j),H,I.tok _,⟨_,rfl⟩,q⟩) hz
theorem zrn {x:V} {us:List Value} (r:Vals [x] us):∃ u,us=[u]∧RelV x u:=by
 cases r with
 | cons r1 r2=>cases r2;exact ⟨_,rfl,r1⟩
theorem zbn:zlf X (.builtin "abs") (λ xs H Q=>∃ i,xs=[.int i]∧Q (.int (if i<0 then -i else i)) H):=by
 intro pins s σ H xs us Q I r h
 obtain ⟨i,rfl,q⟩:=h
 obtain ⟨u,rfl,t,rfl⟩:=zrn r
 exact call_abs_int λ u tk=>⟨.int (if i<0 then -i else i),H,I.tok _,⟨_,rfl⟩,q⟩
theorem zlb:zlf X (.type "str") (λ xs H Q=>∃ i,xs=[.int i]∧i.natAbs.log2<1920∧Q (.str (toString i)) H):=by
 intro pins s σ H xs us Q I r h
 obtain ⟨i,rfl,hz,q⟩:=h
 obtain ⟨u,rfl,t,rfl⟩:=zrn r
 exact PySem.P.str_of_int hz ⟨.str _,H,I.tok _,⟨_,rfl⟩,q⟩
end
end L2
namespace L2
open PySem PySem.Spec PyProof.Rows
section
variable {prog:Program} {w:World} {A:Around} {E:Value→Shared→Prop} {s:Shared} {K:W.Frag} {x dx C f:Addr} {mA:Str→Option Value} {name:Str} {v:Value}
end
section
variable {P:Program} {w:World} {H H':Hp} {h h':Heap} {a C dx:Addr} {fs fs':List (Str×V)}
end
section
variable {X:Cx} {pins:List (Addr×Obj)} {σ:St} {H:Hp} {s:Shared} {a C dx:Addr} {fs:List (Str×V)} {f:Str} {v:V} {A:Around} {E:Value→Shared→Prop}
end
section
variable {X:Cx} {o e value:Expr} {f:Str} {pos pos' tpos:Pos} {ta tv:TE}
end
section
variable {X:Cx} {pins:List (Addr×Obj)} {σ:St} {H:Hp} {s:Shared} {A:Around} {E:Value→Shared→Prop} {Q:Value→Shared→Prop} {c:Value} {b:Bool}
end
end L2
namespace L2
open PySem PySem.Spec PyProof.Rows
structure Room (k:Nat) (A:Around):Prop where
 hd:A.handled=none
 dp:A.depth+3 * k+5<recursionLimit
 un:A.units+16 * k+200<cLine
theorem Room.mono {j k:Nat} {A:Around} (r:Room k A) (h:j≤k):Room j A:=⟨r.hd,by have:=r.dp;omega,by have:=r.un;omega⟩
theorem Room.deeper {k:Nat} {A:Around} (r:Room (k+1) A) (env:Env):Room k (A.deeper env) :=
 ⟨r.hd,by have:=r.dp;show A.depth+1+3 * k+5<_;omega,by have:=r.un;show A.units+3+16 * k+200<_;omega⟩
theorem Room.depth {k:Nat} {A:Around} (r:Room k A):A.depth<recursionLimit:=by have:=r.dp;omega
theorem Room.units {k:Nat} {A:Around} (r:Room k A):A.units+64<cLine:=by have:=r.un;omega
noncomputable def tNil:TA:=λ _ H Q=>Q [] H
noncomputable def zgy (ta:TE) (tr:TA):TA:=λ σ H Q=>ta σ H λ x H1=>tr σ H1 λ xs H2=>Q (x::xs) H2
section
variable {X:Cx} {e:Expr} {es:List Expr} {te:TE} {t:TA} {pos:Pos}
theorem zca:PA X [] tNil := .mk <| λ _ _ _ _ H Q I h=>Calls.spliced_nil ⟨[],H,I,.nil,h⟩
theorem zaa (ha:PE X e te) (hr:PA X es t) (hs:starEach (e::es) X.env=(false,eval e X.env)::starEach es X.env:=by rfl):PA X (e::es) (zgy te t) := .mk <| by
 intro pos pins s σ H Q I h
 rw [hs]
 show wpAny _ _ (spliced ((false,eval e X.env)::backTo pos (starEach es X.env))) _ _ s
 refine Calls.spliced_cons (thn (ha pins s σ H _ I h) λ u s1 ⟨x,H1,I1,r1,q1⟩=>?_)
 exact thn (hr pos pins s1 σ H1 _ I1 q1) λ us s2 ⟨xs,H2,I2,r2,q2⟩=>⟨x::xs,H2,I2,.cons r1 r2,q2⟩
noncomputable def tTup (t:TA):TE:=λ σ H Q=>t σ H λ xs H1=>xs.length≤sizeLine∧∀ p,H1 p=none→Q (.ref p) (upd H1 p (.tup xs))
noncomputable def tLst (t:TA):TE:=λ σ H Q=>t σ H λ xs H1=>xs.length≤sizeLine∧∀ p,H1 p=none→Q (.ref p) (upd H1 p (.lst xs))
theorem zxa {x1} (h:PA X es t):PE X (.Tuple es x1 pos) (tTup t) := .mk <| by
 intro pins s σ H Q I hq
 refine wpAny_Tuple_spliced (thn (h pos pins s σ H _ I hq) λ us s1 ⟨xs,H1,I1,r,z,q⟩=>⟨by rw [← r.length];exact z,?_⟩)
 have hf:H1 s1.heap.objs.size=none:=I1.hok.fresh (Nat.le_refl _)
 refine ⟨.ref s1.heap.objs.size,upd H1 s1.heap.objs.size (.tup xs),I1.laid (t':=s1.toks) (λ b u e=>Heap.get?_push_of_some _ e) (Nat.le_refl _) ?_,rfl,q _ hf⟩
 exact ⟨z,us,r,⟨_,Heap.get?_push_size _ rfl,rfl,_,rfl⟩⟩
theorem zbo (h:PA X es t):PE X (.List es pos) (tLst t) := .mk <| by
 intro pins s σ H Q I hq
 refine wpAny_List_spliced (thn (h pos pins s σ H _ I hq) λ us s1 ⟨xs,H1,I1,r,z,q⟩=>⟨by rw [← r.length];exact z,?_⟩)
 have hf:H1 s1.heap.objs.size=none:=I1.hok.fresh (Nat.le_refl _)
 refine ⟨.ref s1.heap.objs.size,upd H1 s1.heap.objs.size (.lst xs),I1.laid (t':=s1.toks) (λ b u e=>Heap.get?_push_of_some _ e) (Nat.le_refl _) ?_,rfl,q _ hf⟩
 exact ⟨z,us,0,r,Heap.get?_push_size _ rfl⟩
end
noncomputable abbrev Sp:=List V→Hp→VK→XK→Prop
noncomputable abbrev CXT:=List Env→Hp→Shared→XK→Value→Shared→Prop
structure Env0 (P:Program) (w:World) (K:W.Frag) (mg:Str→Option Value) (base:Heap) (A:Around) (outer:List Env) (s:Shared) (H:Hp):Prop where
 frames:A.frames=some outer
 mod:Mod K mg base
 bs:∀ b o,base.get? b=some o→s.heap.get? b=some o∧H b=none
 bsz:base.objs.size≤s.heap.objs.size
 funs:s.heap.FunFrames base outer
 frf:∀ b∈frs outer,H b=none
 hok:HOk P w H s.heap
 bare:AllBare s.gens
noncomputable def CE (outer:List Env) (P:Program) (w:World) (H:Hp) (s:Shared) (Q:VK) (u:Value) (s':Shared):Prop :=
 ∃ v H',s'.os=s.os∧AllBare s'.gens∧Un (frs outer) [] H H' s.heap s'.heap∧HOk P w H' s'.heap∧RelV v u∧Q v H'
noncomputable def CR (CX:CXT) (outer:List Env) (P:Program) (w:World) (H:Hp) (s:Shared) (Q:VK) (E:XK) (r:Result) (s':Shared):Prop :=
 match r with
 | .ok (.ret u)=>CE outer P w H s Q u s'
 | .ok _=>False
 | .error e=>CX outer H s E e s'
structure FnOk (P:Program) (w:World) (K:W.Frag) (mg:Str→Option Value) (base:Heap) (CX:CXT) (k:Nat) (f:Addr) (fd:FuncData) (ps:List Str) (sp:Sp):Prop where
 len:∀ vs H Q E,sp vs H Q E→vs.length=ps.length
 run:∀ (A:Around) (outer:List Env) (s:Shared) (H:Hp) (args:Args) (us:List Value) (vs:List V) (Q:VK) (E:XK),Room k A→Env0 P w K mg base A outer s H→BindsTo s fd args (ps.zip us)→Vals vs us→sp vs H Q E →
  codeAny (model P w) A (.call (.ref f) args) (CR CX outer P w H s Q E) s
theorem FnOk.imp {P:Program} {w:World} {K:W.Frag} {mg:Str→Option Value} {base:Heap} {CX:CXT} {k:Nat} {f:Addr} {fd:FuncData} {ps:List Str} {sp sp':Sp} (F:FnOk P w K mg base CX k f fd ps sp)
  (h:∀ vs H Q E,sp' vs H Q E→sp vs H Q E):FnOk P w K mg base CX k f fd ps sp' :=
 ⟨λ vs H Q E q=>F.len vs H Q E (h _ _ _ _ q),λ A outer s H args us vs Q E hr he hb hv hs=>F.run A outer s H args us vs Q E hr he hb hv (h _ _ _ _ hs)⟩
section
variable {X:Cx} {pins:List (Addr×Obj)} {σ:St} {H:Hp} {s s':Shared}
theorem Inv.env0 (I:Inv X pins σ H s):Env0 X.prog X.w X.K X.mg X.base X.A X.stack s H :=
 ⟨I.ok.frames,I.ok.mod,I.bs,Nat.le_trans I.ok.bsz I.sz,I.stack,I.stkFree,I.hok,I.bare⟩
theorem Inv.after {Q:VK} {u:Value} (I:Inv X pins σ H s) (h:CE X.stack X.prog X.w H s Q u s'):EP X pins σ Q u s':=by
 obtain ⟨v,H',os,bare,un,hok,r,q⟩:=h
 obtain ⟨hh,g,d,t,os'⟩:=s'
 obtain rfl:os'=s.os:=os
 exact ⟨v,H',I.call (h':=hh) (g':=g) (d':=d) (t':=t) (ch:=[]) un hok bare (λ b z=>absurd z (by simp)),r,q⟩
end
noncomputable def zsw (sp:Sp) (dvs:List V) (E:XK) (t:TA):TE:=λ σ H Q=>t σ H λ vs H1=>sp (vs++dvs) H1 Q E
noncomputable def Binds (K:W.Frag) (fd:FuncData) (ps:List Str) (ds:List Value):Prop :=
 ∀ (s:Shared) (us:List Value),K.In s.heap→(us++ds).length=ps.length→BindsTo s fd ⟨us,[]⟩ (ps.zip (us++ds))
theorem Binds.all {K:W.Frag} {fd:FuncData} {ps:List Str} (h:∀ us:List Value,us.length=ps.length→bindArgs fd ⟨us,[]⟩=pure (ps.zip us)):Binds K fd ps []:=λ s us _ hl=>by
 rw [List.append_nil] at hl ⊢
 exact .of_eq (h us hl)
noncomputable def zel (CX:CXT) (X:Cx) (E:XK):Prop:=∀ (pins:List (Addr×Obj)) (σ:St) (H:Hp) (s:Shared) (e:Value) (s':Shared),Inv X pins σ H s→CX X.stack H s E e s'→X.xe e s'
section
variable {X:Cx} {CX:CXT} {k:Nat} {f C:Addr} {fd:FuncData} {ps:List Str} {sp:Sp} {dvs:List V} {ds:List Value} {E:XK} {x m:Str} {p pos apos:Pos} {e o:Expr} {es:List Expr} {ta:TE} {t:TA}
theorem zhv {pins:List (Addr×Obj)} {σ:St} {H:Hp} {s:Shared} {Q:VK} {us:List Value} {vs:List V} (F:FnOk X.prog X.w X.K X.mg X.base CX k f fd ps sp) (hr:Room k X.A) (hb:Binds X.K fd ps ds) (hd:Vals dvs ds) (hx:zel CX X E)
  (I:Inv X pins σ H s) (r:Vals vs us) (h:sp (vs++dvs) H Q E):wpAny (model X.prog X.w) X.A (call (.ref f) us) (EP X pins σ Q) X.xe s:=by
 have r2:Vals (vs++dvs) (us++ds):=r.append hd
 have hl:(us++ds).length=ps.length:=by rw [← r2.length];exact F.len _ _ _ _ h
 refine wpAny_call (codeAny_mono (F.run X.A X.stack s H ⟨us,[]⟩ (us++ds) (vs++dvs) Q E hr I.env0 (hb s us I.kIn hl) r2 h) λ r s' hq=>?_)
 cases r with
 | error e=>exact hx pins σ H s e s' I hq
 | ok fl =>
  cases fl with
  | ret u=>exact I.after hq
  | next=>exact False.elim hq
  | brk=>exact False.elim hq
  | cont=>exact False.elim hq
theorem zha (F:FnOk X.prog X.w X.K X.mg X.base CX k f fd ps sp) (hr:Room k X.A) (hg:Gl X x) (hm:X.mg x=some (.ref f)) (hk:W.keepIn X.K (.ref f)=true) (hb:Binds X.K fd ps ds) (hd:Vals dvs ds) (hx:zel CX X E)
  (ha:PA X (e::es) t) (hdb:(x == ("__debug__" : Str))=false:=by decide) (he:starEach (e::es) X.env=(false,eval e X.env)::starEach es X.env:=by rfl) (hpl:(backTo pos (starEach es X.env)).any (·.1)=false:=by rfl) :
  PE X (.Call (.Name x p) (e::es) [] pos) (zsw sp dvs E t) := .mk <| by
 intro pins s σ H Q I h
 refine wpAny_Call_Name_kw (zve I hg hm ?_ hdb)
 refine W.callWith_K (h₀:=X.base) I.ok.mod.kin hk (thn (ha pos pins s σ H _ I h) λ us s1 ⟨vs,H1,I1,r,q⟩=>⟨I1.kIn,?_⟩) he hpl
 exact zhv F hr hb hd hx I1 r q
end
section
variable {X:Cx} {CX:CXT} {k:Nat} {f C:Addr} {fd:FuncData} {ps ks:List Str} {sp:Sp} {E:XK} {x m:Str} {p pos apos kpos:Pos} {e o:Expr} {es:List Expr} {kws:List Keyword} {te ta:TE} {t tk:TA} {nm:Option Str}
variable {g:List Value→List Value→List Value} {gV:List V→List V→List V}
end
structure FnScope (N P:List Str) (sc:Scope):Prop where
 kind:sc.kind = .function
 co:sc.isCoroutine=false
 gen:sc.isGenerator=false
 nd:N.Nodup
 pre:N.take P.length=P
 par:∀ x∈P,sc.names.lookup x=some .local ∨ sc.names.lookup x=some .cell
 nofree:∀ y∈sc.names,y.2 ≠ .free
theorem zvg {kindOf:Str→Option NameKind} {x:Str}:∀ {binds:List (Str×Value)} {m:Str→Option Value},(∀ v,(x,v)∉binds)→bindL kindOf binds m x=m x
 | [],_,_=>rfl
 | (n,v)::r,m,h=>by
  unfold bindL
  rw [zvg λ w hw=>h w (List.mem_cons_of_mem _ hw)]
  split
  ·have:x≠n:=by rintro rfl;exact h v List.mem_cons_self
   simp [this]
  ·rfl
theorem zeg {kindOf:Str→Option NameKind} {x:Str}:∀ {binds:List (Str×Value)} {m:Str→Option Value},(∀ v,(x,v)∉binds)→bindC kindOf binds m x=m x
 | [],_,_=>rfl
 | (n,v)::r,m,h=>by
  unfold bindC
  rw [zeg λ w hw=>h w (List.mem_cons_of_mem _ hw)]
  split
  ·rfl
  ·have:x≠n:=by rintro rfl;exact h v List.mem_cons_self
   simp [this]
theorem ztg {kindOf:Str→Option NameKind} {x:Str} {v:Value}:∀ {P:List Str} {vs:List Value} {i:Nat} {m:Str→Option Value},P.Nodup→P[i]? = some x→vs[i]? = some v→kindOf x=some .local →
  bindL kindOf (P.zip vs) m x=some v
 | [],_,_,_,_,h,_,_=>by simp at h
 | _::_,[],_,_,_,_,h,_=>by simp at h
 | p::P,w::vs,0,m,nd,h1,h2,hk=>by
  simp at h1 h2;subst h1;subst h2
  show bindL kindOf ((p,w)::P.zip vs) m p=_
  unfold bindL
  rw [zvg λ v hv=>(List.nodup_cons.mp nd).1 (List.of_mem_zip hv).1,if_pos hk]
  simp
 | p::P,w::vs,i+1,m,nd,h1,h2,hk=>by
  show bindL kindOf ((p,w)::P.zip vs) m x=_
  unfold bindL
  exact ztg (i:=i) (List.nodup_cons.mp nd).2 (by simpa using h1) (by simpa using h2) hk
theorem zlg {kindOf:Str→Option NameKind} {x:Str} {v:Value}:∀ {P:List Str} {vs:List Value} {i:Nat} {m:Str→Option Value},P.Nodup→P[i]? = some x→vs[i]? = some v→kindOf x≠some .local →
  bindC kindOf (P.zip vs) m x=some v
 | [],_,_,_,_,h,_,_=>by simp at h
 | _::_,[],_,_,_,_,h,_=>by simp at h
 | p::P,w::vs,0,m,nd,h1,h2,hk=>by
  simp at h1 h2;subst h1;subst h2
  show bindC kindOf ((p,w)::P.zip vs) m p=_
  unfold bindC
  rw [zeg λ v hv=>(List.nodup_cons.mp nd).1 (List.of_mem_zip hv).1,if_neg hk]
  simp
 | p::P,w::vs,i+1,m,nd,h1,h2,hk=>by
  show bindC kindOf ((p,w)::P.zip vs) m x=_
  unfold bindC
  exact zlg (i:=i) (List.nodup_cons.mp nd).2 (by simpa using h1) (by simpa using h2) hk
noncomputable def ztk (N:List Str) (vs:List V):St:=vs.map some++List.replicate (N.length - vs.length) none
noncomputable def cxOf (CX:CXT) (P:Program) (w:World) (K:W.Frag) (mg:Str→Option Value) (base:Heap) (N:List Str) (qual:Str) (scope:Scope) (f:Addr) (cd:Value) (A:Around) (outer:List Env) (s:Shared) (H:Hp) (E:XK):Cx where
 prog:=P
 w:=w
 K:=K
 mg:=mg
 base:=base
 A:=A.deeper (envOfC qual scope s.heap.objs.size f cd)
 N:=N
 s₀:=s
 H₀:=H
 env:=envOfC qual scope s.heap.objs.size f cd
 outer:=outer
 stack:=envOfC qual scope s.heap.objs.size f cd::outer
 ex:=[]
 calm:=true
 fn:=λ _=>true
 pn:=[]
 xe:=λ e s'=>wpAny (model P w) (A.deeper (envOfC qual scope s.heap.objs.size f cd)) (leaving (envOfC qual scope s.heap.objs.size f cd) e) (λ _ s''=>CX outer H s E e s'') (λ e' s''=>CX outer H s E e' s'') s'
theorem zzi {sc:Scope} {n:Nat} {x:Str} (h:sc.names.lookup x=some .cell):∃ c,(cellsFrom n sc.names []).lookup x=some c:=by
 have q:=W.cellsFrom_some sc.names n [] (.inl h)
 exact Option.isSome_iff_exists.mp q
theorem zuk {CX:CXT} {P:Program} {w:World} {K:W.Frag} {mg:Str→Option Value} {base:Heap} {N ps:List Str} {qual:Str} {scope:Scope} {f:Addr} {cd:Value} {A:Around} {outer:List Env} {s s1:Shared} {H:Hp} {E:XK} {us:List Value} {vs:List V}
  (S:FnScope N ps scope) (hd:A.handled=none) (e0:Env0 P w K mg base A outer s H) (hl:vs.length=ps.length) (r:Vals vs us)
  (x:InCallC s s.heap.objs.size (bindL (envOfC qual scope s.heap.objs.size f cd).kindOf (ps.zip us) λ _=>none) (cellsFrom (s.heap.objs.size+1) scope.names []) (bindC (envOfC qual scope s.heap.objs.size f cd).kindOf (ps.zip us) λ _=>none) s1) :
  Inv (cxOf CX P w K mg base N qual scope f cd A outer s H E) [] (ztk N vs) H s1:=by
 have hpl:ps.length≤N.length:=by have:=congrArg List.length S.pre;rw [List.length_take] at this;omega
 obtain ⟨h1,tk,rfl,hk⟩:=x.done
 have noA:∀ b:Addr,b∉(cxOf CX P w K mg base N qual scope f cd A outer s H E).ex:=λ b z=>absurd (show b∈([]:List Addr) from z) (by simp)
 refine ⟨⟨e0.mod,S.kind,rfl,rfl,Nat.le_refl _,λ y z c h1 h2=>?_,λ y hy=>?_,λ y c _ h=>?_,λ _=>hd,Around.frames_deeper e0.frames,.inr ⟨rfl,rfl⟩,λ b z=>absurd z (noA b),e0.bs,e0.bsz,λ b _ _=>noA b,λ b z=>absurd z (noA b),e0.funs,e0.frf⟩,
  rfl,e0.bare,Un.kept hk,⟨_,x.toInCall.ns,λ i y v h1 h2 h3=>?_⟩,λ y c h=>⟨_,x.cell y c h⟩,e0.hok.fresh (Nat.le_refl _),λ y c h=>?_,λ p hp=>absurd (show p∈([]:List (Addr×Obj)) from hp) (by simp),e0.hok.kept hk,?_⟩
 ·exact name_of_addr x.apart (PySem.mem_of_lookup h1) (PySem.mem_of_lookup h2)
 ·have hy:scope.names.lookup y=some .cell ∨ scope.names.lookup y=some .free:=hy
  rcases hy with hy | hy
  ·exact zzi hy
  ·exact absurd rfl (S.nofree _ (PySem.mem_of_lookup hy))
 ·exact Nat.le_of_lt (x.above y c (PySem.mem_of_lookup h))
 ·have hi:i<vs.length:=by
   unfold ztk at h2
   by_cases hi:i<vs.length
   ·exact hi
   ·rw [List.getElem?_append_right (by simpa using hi)] at h2
    rw [List.getElem?_replicate] at h2
    split at h2 <;> cases h2
  have ha:vs[i]? = some v:=by
   unfold ztk at h2
   rw [List.getElem?_append_left (by simpa using hi),List.getElem?_map] at h2
   cases e:vs[i]? with
   | none=>rw [e] at h2;cases h2
   | some a=>rw [e] at h2;cases h2;rfl
  obtain ⟨u,hu,rv⟩:=r.get ha
  have hp:ps[i]? = some y:=by
   rw [← S.pre,List.getElem?_take_of_lt (by omega)];exact h1
  have ndP:ps.Nodup:=by rw [← S.pre];exact S.nd.sublist (List.take_sublist _ _)
  refine ⟨u,rv,?_⟩
  rcases S.par y (List.mem_of_getElem? hp) with k | k
  ·exact .inl ⟨k,ztg ndP hp hu k⟩
  ·obtain ⟨c,e⟩:=zzi (n:=s.heap.objs.size+1) k
   refine .inr ⟨.inl k,c,e,?_⟩
   have q:=x.cell y c e
   rw [zlg ndP hp hu (by show scope.names.lookup y≠_;rw [k];decide)] at q
   exact q
 ·exact e0.hok.fresh (Nat.le_of_lt (x.above y c (PySem.mem_of_lookup h)))
 ·unfold ztk
  show _=N.length
  rw [List.length_append,List.length_map,List.length_replicate]
  omega
theorem zxw {CX:CXT} {P:Program} {w:World} {K:W.Frag} {mg:Str→Option Value} {base:Heap} {k:Nat} {f:Addr} {name qual:Str} {params:Arguments} {body:List Stmt} {scope:Scope} {dV kV doc pm cdv ct oc:Value} {an od:Option Addr}
  {osl:Array (Option Value)} {N ps:List Str} {sp:Sp} (lk:K.lookup f=some ⟨oc,od,.func (W.fnOf name qual params body scope dV kV doc pm an cdv ct),osl⟩) (hcd:W.codeIn K cdv qual=true) (S:FnScope N ps scope)
  (len:∀ vs H Q E,sp vs H Q E→vs.length=ps.length)
  (hbody:∀ (A:Around) (outer:List Env) (s:Shared) (H:Hp) (vs:List V) (Q:VK) (E:XK),Room k (A.deeper (envOfC qual scope s.heap.objs.size f cdv))→sp vs H Q E →
   ∃ t,PSs (cxOf CX P w K mg base N qual scope f cdv A outer s H E) body t∧t { nx:=λ _ H'=>Q .non H',rt:=Q } (ztk N vs) H) :
  FnOk P w K mg base CX (k+1) f (W.fnOf name qual params body scope dV kV doc pm an cdv ct) ps sp:=by
 refine ⟨len,λ A outer s H args us vs Q E hr e0 hb r hsp=>?_⟩
 have hl:=len _ _ _ _ hsp
 have KX:K.In s.heap:=e0.mod.kin.keeps λ b o e=>(e0.bs b o e).1
 have lim:s.heap.NoLimit:=e0.mod.nolimit.keeps λ b o e=>(e0.bs b o e).1
 have hkind:∀ y∈ps.zip us,scope.names.lookup y.1=some .local ∨ (scope.names.lookup y.1=some .cell∧((cellsFrom (s.heap.objs.size+1) scope.names []).lookup y.1).isSome=true):=λ ⟨n,v⟩ hy=>by
  rcases S.par n (List.of_mem_zip hy).1 with q | q
  ·exact .inl q
  ·exact .inr ⟨q,W.cellsFrom_some _ _ _ (.inl q)⟩
 refine codeAny_call_function hr.depth (KX _ _ lk) rfl S.co S.gen rfl (W.codeRec_of KX hcd) (hb _ _ _ _ ?_)
 refine wpAny_newFunctionEnv_cells S.kind hkind λ env he s1 x=>?_
 subst he
 refine ⟨lim.keeps x.toInCall.keep,codeAny_func ?_⟩
 obtain ⟨t,ht,hq⟩:=hbody A outer s H vs Q E (hr.deeper _) hsp
 have I:Inv (cxOf CX P w K mg base N qual scope f cdv A outer s H E) [] (ztk N vs) H s1:=zuk S hr.hd e0 hl r x
 refine wpAny_mono (ht [] s1 (ztk N vs) H _ I hq) (λ fl s' hs=>?_) λ e s' hs=>hs
 have fin:∀ {σ':St} {H':Hp} {v:V} {u:Value},Inv (cxOf CX P w K mg base N qual scope f cdv A outer s H E) [] σ' H' s'→RelV v u→Q v H'→CE outer P w H s Q u s' :=
  fun {σ' H' v u} J rv q=>⟨v,H',J.os,J.bare,J.base,J.hok,rv,q⟩
 cases fl with
 | ret u =>
  obtain ⟨v,σ',H',J,rv,q⟩:=hs
  exact fin J rv q
 | next =>
  obtain ⟨σ',H',J,q⟩:=hs
  exact fin (v:=V.non) (u:=Value.none) J rfl q
 | brk =>
  obtain ⟨_,_,_,q⟩:=hs
  exact False.elim q
 | cont =>
  obtain ⟨_,_,_,q⟩:=hs
  exact False.elim q
end L2
namespace L2
open PySem PySem.Spec PyProof.Rows
section
variable {X:Cx} {x:Str} {p pos:Pos} {e:Expr} {es:List Expr} {t:TA} {id T:String} {r:List V→Hp→VK→Prop}
noncomputable def tCB (r:List V→Hp→VK→Prop) (t:TA):TE:=λ σ H Q=>t σ H λ vs H1=>r vs H1 Q
theorem zfb (hc:zlf X (.builtin id) r) (hg:Gl X x) (hm:X.mg x=none) (hv:bootBuiltins x=some (.builtin id)) (ha:PA X (e::es) t) (hn:x ≠ "__name__" := by decide) (hdb:(x == ("__debug__" : Str))=false:=by decide)
  (he:starEach (e::es) X.env=(false,eval e X.env)::starEach es X.env:=by rfl) (hpl:(backTo pos (starEach es X.env)).any (·.1)=false:=by rfl):PE X (.Call (.Name x p) (e::es) [] pos) (tCB r t) := .mk <| by
 intro pins s σ H Q I h
 refine wpAny_Call_Name_kw (zdh I hg hm hv ?_ hn hdb)
 exact PyProof.Rows.callWith_builtin1 (thn (ha pos pins s σ H _ I h) λ us s1 ⟨vs,H1,I1,r1,q1⟩=>hc pins s1 σ H1 vs us Q I1 r1 q1) he hpl
theorem zhb (hc:zlf X (.type T) r) (hg:Gl X x) (hm:X.mg x=none) (hv:bootBuiltins x=some (.type T)) (ha:PA X (e::es) t) (hn:x ≠ "__name__" := by decide) (hdb:(x == ("__debug__" : Str))=false:=by decide)
  (he:starEach (e::es) X.env=(false,eval e X.env)::starEach es X.env:=by rfl) (hpl:(backTo pos (starEach es X.env)).any (·.1)=false:=by rfl):PE X (.Call (.Name x p) (e::es) [] pos) (tCB r t) := .mk <| by
 intro pins s σ H Q I h
 refine wpAny_Call_Name_kw (zdh I hg hm hv ?_ hn hdb)
 exact PyProof.Rows.callWith_type1 (thn (ha pos pins s σ H _ I h) λ us s1 ⟨vs,H1,I1,r1,q1⟩=>hc pins s1 σ H1 vs us Q I1 r1 q1) he hpl
end
end L2
namespace HT
open PySem PyProof.Rows
section
open PySem.SeqAt
open PySem.AutoSeq1 (wpAny_loadPart')
open PySem.MeetsSeq PySem.MeetsSeq2 PySem.MeetsSeq3
end
section
variable {prog:Program} {w:World} {A:Around} {E:Value→Shared→Prop} {s:Shared}
theorem cat_tup {t b:Addr} {vs ws:List Value} {Q:Value→Shared→Prop} (ht:IsTup s.heap t vs.toArray) (hb:IsTup s.heap b ws.toArray) (hv:vs≠[])
  (h1:ws=[]→Q (.ref t) s) (h2:ws≠[]→Q (.ref s.heap.objs.size) { s with heap:=s.heap.push { cls := .type "tuple",data := .seq (vs++ws).toArray } })
  (hsz:vs.length+ws.length≤sizeLine):wpAny (model prog w) A (binaryOp .Add (.ref t) (.ref b)) Q E s:=by
 obtain ⟨⟨cls,dd,data,sl⟩,ho,hc,n,hd⟩:=id ht
 obtain ⟨⟨cls2,dd2,data2,sl2⟩,ho2,hc2,n2,hd2⟩:=id hb
 simp only at hc hd hc2 hd2
 subst hc hd hc2 hd2
 have e:vs.toArray++ws.toArray=(vs++ws).toArray:=by simp
 by_cases hw:ws=[]
 ·exact concat_meets ⟨_,ho,rfl⟩ ⟨_,ho2,rfl⟩ noFill_tuple_add seq_tuple_add PySem.F.slot_tuple_add PySem.F.entry_tuple_add (PySem.F.args_tuple_add_2 _ _)
   (tuple_addW1 t b vs.toArray ws.toArray n n2 dd dd2 sl sl2 (by simpa using hv) (by simp [hw])) ⟨ho,ho2,h1 hw⟩
 ·refine concat_meets ⟨_,ho,rfl⟩ ⟨_,ho2,rfl⟩ noFill_tuple_add seq_tuple_add PySem.F.slot_tuple_add PySem.F.entry_tuple_add (PySem.F.args_tuple_add_2 _ _)
   (tuple_addW2 t b vs.toArray ws.toArray n n2 dd dd2 sl sl2 (by simpa using hv) (by simpa using hw) (by rw [List.size_toArray,List.size_toArray];exact hsz)) ⟨ho,ho2,?_⟩
  rw [e]
  exact h2 hw
noncomputable def sIx (n d:Nat):Option Int→Nat
 | none=>d
 | some v=>if v<0 then (v+(n:Int)).toNat else min v.toNat n
theorem sIx_none (n d:Nat):sIx n d none=d:=rfl
theorem sIx_nat (n d k:Nat):sIx n d (some (k:Int))=min k n:=by
 show (if (k:Int)<0 then ((k:Int)+(n:Int)).toNat else min (k:Int).toNat n)=min k n
 rw [if_neg (by omega),Int.toNat_natCast]
theorem sIx_le (n d:Nat) (hd:d≤n) (o:Option Int):sIx n d o≤n:=by
 cases o with
 | none=>exact hd
 | some v =>
  show (if v<0 then (v+(n:Int)).toNat else min v.toNat n)≤n
  by_cases hv:v<0
  ·rw [if_pos hv];omega
  ·rw [if_neg hv];exact Nat.min_le_right _ _
theorem zgm (v:Int) (n d:Nat):(if v<0 then max (v+(n:Int)) 0 else min v (n:Int))=((sIx n d (some v):Nat):Int):=by
 show (if v<0 then max (v+(n:Int)) 0 else min v (n:Int))=(((if v<0 then (v+(n:Int)).toNat else min v.toNat n):Nat):Int)
 by_cases hv:v<0
 ·simp only [if_pos hv];omega
 ·simp only [if_neg hv];omega
theorem zrh (lo hi:Option Int) (n:Nat):Builtin.Slice.sliceAdjust lo hi 1 (n:Int)=(((sIx n 0 lo:Nat):Int),((sIx n n hi:Nat):Int)):=by
 have h1:¬ ((1:Int)<0):=by omega
 unfold Builtin.Slice.sliceAdjust
 simp only [h1,if_false]
 refine Prod.ext ?_ ?_
 ·cases lo with
  | none=>rfl
  | some v=>exact zgm v n 0
 ·cases hi with
  | none=>rfl
  | some v=>exact zgm v n n
theorem zyh (i j:Nat):Builtin.Slice.slicePlaces (i:Int) (j:Int) 1=j - i:=by
 unfold Builtin.Slice.slicePlaces
 have h1:(1:Int) > 0:=by omega
 simp only [h1,if_true,Int.ediv_one]
 split <;> omega
theorem zoe {v:Value} {o:Option Int} {Q:Option Int→Shared→Prop} (p:IsPart v o) (h:Q o s):wpAny (model prog w) A (Builtin.Slice.slicePartIndex v) Q E s:=by
 cases p with
 | none=>exact slicePart_none h
 | int i t=>exact slicePart_int h
theorem zsb {sl:Addr} {vl vu:Value} {lo hi:Option Int} {n:Nat} {Q:Int×Int×Nat→Shared→Prop} (hs:s.heap.IsSliceOf sl vl vu .none) (pl:IsPart vl lo) (pu:IsPart vu hi)
  (h:Q (((sIx n 0 lo:Nat):Int),1,sIx n n hi - sIx n 0 lo) s):wpAny (model prog w) A (Builtin.Slice.sliceApplied (.ref sl) (pure (n:Int))) Q E s:=by
 obtain ⟨os,hos,hcs,hds⟩:=id hs
 unfold Builtin.Slice.sliceApplied Builtin.Slice.sliceFields
 refine wpAny_bind (wpAny_bind (wpAny_field hos hds (x:=vl) rfl (wpAny_bind (wpAny_field hos hds (x:=vu) rfl (wpAny_bind (wpAny_field hos hds (x := .none) rfl (wpAny_pure ?_)))))))
 refine wpAny_bind (slicePart_none ?_)
 show wpAny _ _ (if ((1:Int) == 0)=true then _ else _) _ _ s
 rw [if_neg (by decide)]
 refine wpAny_bind (zoe pl (wpAny_bind (zoe pu (wpAny_bind (wpAny_pure ?_)))))
 show wpAny _ _ (match Builtin.Slice.sliceAdjust lo hi 1 (n:Int) with | (lo,hi)=>pure (lo,(1:Int),Builtin.Slice.slicePlaces lo hi 1)) _ _ s
 rw [zrh lo hi n]
 show wpAny _ _ (pure (((sIx n 0 lo:Nat):Int),(1:Int),Builtin.Slice.slicePlaces ((sIx n 0 lo:Nat):Int) ((sIx n n hi:Nat):Int) 1)) _ _ s
 rw [zyh]
 exact wpAny_pure h
theorem zen (xs:Array Value) (i k:Nat):((List.range k).filterMap λ (m:Nat)=>xs[((i:Int)+(m:Int) * 1).toNat]?).toArray=((xs.toList.drop i).take k).toArray:=by
 have e:(λ (m:Nat)=>xs[((i:Int)+(m:Int) * 1).toNat]?)=λ m=>xs[i+m]?:=by
  funext m
  have:((i:Int)+(m:Int) * 1).toNat=i+m:=by omega
  rw [this]
 rw [e]
 have:=pick_run xs i k
 rw [List.filterMap_map] at this
 have e2:((λ x=>xs[x]?) ∘ λ x=>i+x)=λ m=>xs[i+m]?:=rfl
 rw [e2] at this
 rw [this]
theorem getItem_tuple_cut {t sl:Addr} {items:Array Value} {vl vu:Value} {lo hi:Option Int} {Q:Value→Shared→Prop} (ht:IsTup s.heap t items) (hs:s.heap.IsSliceOf sl vl vu .none) (pl:IsPart vl lo) (pu:IsPart vu hi)
  (hw:¬ (sIx items.size 0 lo=0∧sIx items.size items.size hi=items.size))
  (h:Q (.ref s.heap.objs.size) { s with heap:=s.heap.push { cls := .type "tuple",data := .seq ((items.toList.drop (sIx items.size 0 lo)).take (sIx items.size items.size hi - sIx items.size 0 lo)).toArray } })
  (hsz:items.size≤sizeLine):wpAny (model prog w) A (getItem (.ref t) (.ref sl)) Q E s:=by
 have htake:sizeOk (.seq ((items.toList.drop (sIx items.size 0 lo)).take (sIx items.size items.size hi - sIx items.size 0 lo)).toArray):=by
  show ((items.toList.drop (sIx items.size 0 lo)).take (sIx items.size items.size hi - sIx items.size 0 lo)).toArray.size≤sizeLine
  rw [List.size_toArray,List.length_take,List.length_drop,Array.length_toList]
  omega
 have hj:sIx items.size items.size hi≤items.size:=sIx_le _ _ (Nat.le_refl _) hi
 obtain ⟨os,hos,hcs,hds⟩:=id hs
 have hTs:s.TypeIs (.ref sl) "slice" := ⟨os,hos,hcs⟩
 unfold getItem
 try with_reducible refine wpAny_holding ?_
 first | refine wpAny_bind (wpAny_pure ?_) | skip
 refine wpAny_bind (wpAny_sequenceKey ht.typeIs (by decide) ?_)
 refine wpAny_bind (wpAny_callSpecial?_slot (name:=Str.ofString "__getitem__") ht.typeIs PyProof.Rows.slot_tuple_getitem
  (wpAny_call_entry PyProof.Rows.slot_tuple_getitem ht.typeIs entry_tuple_getitem ?_ (args_tuple_getitem _ _)))
 show wpAny _ _ (Builtin.Tuple.tupleItemsOf (.ref t) >>= _) _ _ s
 refine wpAny_bind (tupleItemsOf_ ht ?_)
 refine wpAny_bind (wpAny_typeOf hTs ?_)
 rw [if_pos (by decide)]
 refine wpAny_bind (zsb hs pl pu ?_)
 have hno:¬ ((((sIx items.size 0 lo:Nat):Int) == 0 && (1:Int) == 1 && (sIx items.size items.size hi - sIx items.size 0 lo) == items.size)=true):=by
  intro q
  rw [Bool.and_eq_true,Bool.and_eq_true] at q
  have q1:((sIx items.size 0 lo:Nat):Int)=0:=eq_of_beq q.1.1
  have q2:sIx items.size items.size hi - sIx items.size 0 lo=items.size:=eq_of_beq q.2
  exact hw ⟨by omega,by omega⟩
 show wpAny _ _ (if (((sIx items.size 0 lo:Nat):Int) == 0 && (1:Int) == 1 && (sIx items.size items.size hi - sIx items.size 0 lo) == items.size)=true then _ else _) _ _ s
 rw [if_neg hno,zen]
 first
  | exact wpAny_bind (m:=Builtin.Tuple.tupleExact _) (wpAny_newObj_type (wpAny_pure ⟨_,rfl,wpAny_pure h⟩) htake)
  | exact wpAny_bind (m:=Builtin.Tuple.tupleExact _) (wpAny_newObj_type (wpAny_bind (wpAny_pure (wpAny_pure ⟨_,rfl,wpAny_pure h⟩))) htake)
  | exact wpAny_bind (wpAny_bind (m:=Builtin.Tuple.tupleExact _) (wpAny_newObj_type (wpAny_pure (wpAny_pure ⟨_,rfl,wpAny_pure h⟩)) htake))
  | exact wpAny_bind (wpAny_bind (m:=Builtin.Tuple.tupleExact _) (wpAny_newObj_type (wpAny_pure ⟨_,rfl,wpAny_pure h⟩) htake))
end
end HT
namespace L2
open PySem PySem.Spec PyProof.Rows
noncomputable abbrev TO:=St→Hp→(Option Int→Hp→Prop)→Prop
noncomputable def PO (X:Cx) (e:Option Expr) (t:TO):Prop :=
 ∀ (pins:List (Addr×Obj)) (s:Shared) (σ:St) (H:Hp) (Q:Option Int→Hp→Prop),Inv X pins σ H s→t σ H Q →
  wpAny (model X.prog X.w) X.A (evalPart e X.env) (λ u s'=>∃ o H',Inv X pins σ H' s'∧IsPart u o∧Q o H') X.xe s
noncomputable def zwp:TO:=λ _ H Q=>Q none H
noncomputable def zsx (t:TE):TO:=λ σ H Q=>t σ H λ x H1=>∃ i,x = .int i∧Q (some i) H1
section
variable {X:Cx} {e:Expr} {te:TE} {lo hi:Option Expr} {tl th:TO} {pos p2:Pos}
theorem zbd:PO X none zwp:=by
 intro pins s σ H Q I h
 rw [evalPart_none]
 exact wpAny_pure ⟨none,H,I,.none,h⟩
theorem zsd (h:PE X e te):PO X (some e) (zsx te):=by
 intro pins s σ H Q I hw
 rw [evalPart_some]
 refine thn (h pins s σ H _ I hw) λ u s1 ⟨x,H1,I1,r1,q1⟩=>?_
 obtain ⟨i,rfl,q⟩:=q1
 obtain ⟨t,rfl⟩:=r1
 exact ⟨some i,H1,I1,.int i t,q⟩
noncomputable def SlR (X:Cx) (r:V→Option Int→Option Int→Hp→VK→Prop):Prop :=
 ∀ (pins:List (Addr×Obj)) (s:Shared) (σ:St) (H:Hp) (x:V) (v vl vu:Value) (lo hi:Option Int) (sl:Addr) (Q:VK),Inv X pins σ H s→RelV x v→s.heap.IsSliceOf sl vl vu .none→IsPart vl lo→IsPart vu hi→r x lo hi H Q →
  ∃ T id,typeLookup (.type T) "__getitem__" = pure (some (.builtin id))∧s.TypeIs v T∧wpAny (model X.prog X.w) X.A (getItem v (.ref sl)) (EP X pins σ Q) X.xe s
noncomputable def tSl (r:V→Option Int→Option Int→Hp→VK→Prop) (te:TE) (tl th:TO):TE:=λ σ H Q=>te σ H λ x H1=>tl σ H1 λ l H2=>th σ H2 λ u H3=>r x l u H3 Q
theorem zbc {r:V→Option Int→Option Int→Hp→VK→Prop} (hr:SlR X r) (he:PE X e te) (hl:PO X lo tl) (hu:PO X hi th):PE X (.Subscript e (.Slice lo hi none p2) pos) (tSl r te tl th) := .mk <| by
 intro pins s σ H Q I h
 refine Subscript_ (thn (he pins s σ H _ I h) λ v s1 ⟨x,H1,I1,r1,q1⟩=>?_)
 refine wpAny_Slice (thn (hl pins s1 σ H1 _ I1 q1) λ vl s2 ⟨l,H2,I2,pl,q2⟩=>thn (hu pins s2 σ H2 _ I2 q2) λ vu s3 ⟨u,H3,I3,pu,q3⟩=>?_)
 rw [evalPart_none]
 refine wpAny_pure ?_
 have I4:Inv X pins σ H3 { s3 with heap:=s3.heap.push { cls := .type "slice",data := .fields #[vl,vu,.none] } }:=I3.kept (t':=s3.toks) λ b ob q=>Heap.get?_push_of_some _ q
 obtain ⟨T,id,hT,ht,hg⟩:=hr pins { s3 with heap:=s3.heap.push { cls := .type "slice",data := .fields #[vl,vu,.none] } } σ H3 x v vl vu l u s3.heap.objs.size Q I4 r1 (Heap.IsSliceOf.new ..) pl pu q3
 show wpAny (model X.prog X.w) X.A (subscriptTail e (.Slice lo hi none p2) v (.ref s3.heap.objs.size)) (EP X pins σ Q) X.xe { s3 with heap:=s3.heap.push { cls := .type "slice",data := .fields #[vl,vu,.none] } }
 exact tail_any (ops:=[.ref s3.heap.objs.size,v]) ht hT hg (by with_unfolding_all rfl)
noncomputable def cutV (xs:List V) (lo hi:Option Int):List V:=(xs.drop (HT.sIx xs.length 0 lo)).take (HT.sIx xs.length xs.length hi - HT.sIx xs.length 0 lo)
theorem zoc (xs:List V) (lo hi:Option Int):(cutV xs lo hi).length≤xs.length:=by
 unfold cutV
 rw [List.length_take,List.length_drop]
 omega
noncomputable def rSlT (K:W.Frag):V→Option Int→Option Int→Hp→VK→Prop:=λ x lo hi H Q=>∃ a xs,x = .ref a∧SqT K H a xs ∧
 ¬ (HT.sIx xs.length 0 lo=0∧HT.sIx xs.length xs.length hi=xs.length)∧∀ p,H p=none→Q (.ref p) (upd H p (.tup (cutV xs lo hi)))
theorem zpt:SlR X (rSlT X.K):=by
 intro pins s σ H x v vl vu lo hi sl Q I rx hs pl pu h
 obtain ⟨a,xs,rfl,hx,hw,q⟩:=h
 cases rx
 obtain ⟨its,r,ht,hz⟩:=I.tuple hx
 have hlen:its.toArray.size=xs.length:=by rw [List.size_toArray];exact r.length.symm
 refine ⟨"tuple",_,PyProof.Rows.slot_tuple_getitem.lookup,ht.typeIs,?_⟩
 refine HT.getItem_tuple_cut ht hs pl pu (by rw [hlen];exact hw) ?_ (by rw [hlen];exact hz)
 rw [hlen]
 refine ⟨.ref s.heap.objs.size,_,I.laid (t':=s.toks) (o := .tup (cutV xs lo hi)) (λ b ob q=>Heap.get?_push_of_some _ q) (Nat.le_refl _) ?_,rfl,q _ (I.hok.fresh (Nat.le_refl _))⟩
 exact ⟨Nat.le_trans (zoc xs lo hi) hz,_,(r.drop (HT.sIx xs.length 0 lo)).take (HT.sIx xs.length xs.length hi - HT.sIx xs.length 0 lo),IsTup.new _ _⟩
noncomputable def zky (K:W.Frag):R2:=λ x y H Q=>∃ a b xs ys,x = .ref a∧y = .ref b∧SqT K H a xs∧SqT K H b ys∧xs≠[]∧xs.length+ys.length≤sizeLine ∧
 (ys=[]→Q (.ref a) H)∧(ys≠[]→∀ p,H p=none→Q (.ref p) (upd H p (.tup (xs++ys))))
theorem Vals.nil_iff {xs:List V} {us:List Value} (r:Vals xs us):us=[]↔xs=[]:=by
 cases r with
 | nil=>simp
 | cons _ _=>simp
theorem zbp:OpR X (binaryOp .Add) (zky X.K):=by
 intro pins s σ H x y v u Q I rx ry h
 obtain ⟨a,b,xs,ys,rfl,rfl,ha,hb,hx,hz,q1,q2⟩:=h
 cases rx
 cases ry
 obtain ⟨its,r1,p1,_⟩:=I.tuple ha
 obtain ⟨its2,r2,p2,_⟩:=I.tuple hb
 refine HT.cat_tup p1 p2 (λ z=>hx (r1.nil_iff.mp z)) (λ z=>⟨.ref a,H,I,rfl,q1 (r2.nil_iff.mp z)⟩) (λ z=>?_) (by rw [← r1.length,← r2.length];exact hz)
 refine ⟨.ref s.heap.objs.size,_,I.laid (t':=s.toks) (o := .tup (xs++ys)) (λ b ob q=>Heap.get?_push_of_some _ q) (Nat.le_refl _) ?_,rfl,q2 (λ w=>z (r2.nil_iff.mpr w)) _ (I.hok.fresh (Nat.le_refl _))⟩
 exact ⟨by rw [List.length_append];exact hz,_,r1.append r2,IsTup.new _ _⟩
end
end L2
namespace L2
open PySem PySem.Spec PyProof.Rows
noncomputable def ixN (n:Nat) (i:Int):Option Nat:=if 0≤i then (if i<n then some i.toNat else none) else if -(n:Int)≤i then some (i+n).toNat else none
noncomputable def atI {α:Type} (xs:List α) (i:Int):Option α:=(ixN xs.length i).bind λ j=>xs[j]?
theorem zfo {n:Nat} {i:Int} {j:Nat} (h:ixN n i=some j):seqIndex? i n=some j∧j<n ∧ -(n:Int)≤i∧i<n:=by
 unfold ixN at h
 by_cases h0:0≤i
 ·rw [if_pos h0] at h
  by_cases h1:i<n
  ·rw [if_pos h1] at h
   have e:i.toNat=j:=Option.some.inj h
   exact ⟨by rw [seqIndex_of h0 h1,e],by omega,by omega,h1⟩
  ·rw [if_neg h1] at h;cases h
 ·rw [if_neg h0] at h
  by_cases h1 : -(n:Int)≤i
  ·rw [if_pos h1] at h
   have e:(i+n).toNat=j:=Option.some.inj h
   exact ⟨by rw [seqIndex_neg (by omega) h1,e],by omega,h1,by omega⟩
  ·rw [if_neg h1] at h;cases h
theorem zai {α:Type} {xs:List α} {i:Int} {v:α} (h:atI xs i=some v):∃ j,seqIndex? i xs.length=some j∧xs[j]? = some v∧j<xs.length ∧ -(xs.length:Int)≤i∧i<xs.length:=by
 unfold atI at h
 cases e:ixN xs.length i with
 | none=>rw [e] at h;cases h
 | some j =>
  rw [e] at h
  obtain ⟨h1,h2,h3,h4⟩:=zfo e
  exact ⟨j,h1,h,h2,h3,h4⟩
theorem zaf {α:Type} {xs:List α} {j:Nat} {v:α} (h:xs[j]? = some v):atI xs (j:Int)=some v:=by
 have hj:j<xs.length:=(List.getElem?_eq_some_iff.mp h).1
 have e:ixN xs.length (j:Int)=some j:=by
  unfold ixN
  rw [if_pos (by omega),if_pos (by omega)];simp
 unfold atI;rw [e];exact h
noncomputable def zho (b:Expr):Prop:=∀ o i,subscripted b false o i=operate [o,i] (getItem o i)
noncomputable def IxR (X:Cx) (r:R2):Prop :=
 ∀ (value slice:Expr) (pins:List (Addr×Obj)) (s:Shared) (σ:St) (H:Hp) (x y:V) (v u:Value) (Q:VK),Inv X pins σ H s→RelV x v→RelV y u→r x y H Q →
  subscripted slice false v u=operate [v,u] (getItem v u)→wpAny (model X.prog X.w) X.A (subscriptTail value slice v u) (EP X pins σ Q) X.xe s
noncomputable def MtR (X:Cx) (id:String) (r:V→List V→Hp→VK→Prop):Prop :=
 ∀ (pins:List (Addr×Obj)) (s:Shared) (σ:St) (H:Hp) (x:V) (xs:List V) (v:Value) (us:List Value) (Q:VK),Inv X pins σ H s→RelV x v→Vals xs us→r x xs H Q →
  wpAny (model X.prog X.w) X.A (call (.builtin id) (v::us)) (EP X pins σ Q) X.xe s
section
variable {X:Cx} {a b:Expr} {ta tb:TE} {pos:Pos}
theorem zrd {r:R2} (hr:IxR X r) (ha:PE X a ta) (hb:PE X b tb) (hs:zho b):PE X (.Subscript a b pos) (tOp r ta tb) := .mk <| by
 intro pins s σ H Q I h
 exact Subscript_ (binT ha hb I h λ v u s2 x y H2 I2 rx ry q=>hr a b pins s2 σ H2 x y v u Q I2 rx ry q (hs _ _))
noncomputable def rIxL (K:W.Frag):R2:=λ x y H Q=>∃ p xs i v,x = .ref p∧y = .int i∧SqL K H p xs∧atI xs i=some v∧Q v H
noncomputable def rIxT (K:W.Frag):R2:=λ x y H Q=>∃ p xs i v,x = .ref p∧y = .int i∧SqT K H p xs∧atI xs i=some v∧Q v H
noncomputable def rIxS:R2:=λ x y H Q=>∃ z i c,x = .str z∧y = .int i∧z.length≤sizeLine∧atI z.cps.toList i=some c∧Q (.str ⟨#[c]⟩) H
theorem znp:IxR X (rIxL X.K):=by
 intro value slice pins s σ H x y v u Q I rx ry h hs
 obtain ⟨p,xs,i,z,rfl,rfl,hq,he,q⟩:=h
 cases rx
 obtain ⟨t,rfl⟩:=ry
 obtain ⟨its,r,pl,hz⟩:=I.list hq
 obtain ⟨j,h1,h2,h3,h4,h5⟩:=zai he
 obtain ⟨w,ew,rw'⟩:=r.get h2
 have hl:=r.length
 have hn:=zth
 have fin:EP X pins σ Q w s:=⟨z,H,I,rw',q⟩
 by_cases h0:0≤i
 ·have hj:i.toNat=j:=by
   rw [seqIndex_of h0 h5] at h1
   exact Option.some.inj h1
  exact item_listR pl.isList h0 (by omega) (by rw [hj];simpa using ew) fin hs
 ·have hj:(i+(its.toArray.size:Int)).toNat=j:=by
   rw [seqIndex_neg (by omega) h4] at h1
   rw [List.size_toArray,← hl]
   exact Option.some.inj h1
  exact subscriptTail_builtinR (x:=w) pl.isList.typeIs slot_list_getitem.lookup
   (wpAny_getItem_list_neg (Q:=λ r s'=>r=w∧EP X pins σ Q r s') pl.isList (by omega) (by rw [List.size_toArray] <;> omega) (by omega) (by rw [hj];simpa using ew) ⟨rfl,fin⟩) hs
theorem zmb:IxR X (rIxT X.K):=by
 intro value slice pins s σ H x y v u Q I rx ry h hs
 obtain ⟨p,xs,i,z,rfl,rfl,hq,he,q⟩:=h
 cases rx
 obtain ⟨t,rfl⟩:=ry
 obtain ⟨its,r,pl,hz⟩:=I.tuple hq
 obtain ⟨j,h1,h2,h3,h4,h5⟩:=zai he
 obtain ⟨w,ew,rw'⟩:=r.get h2
 have hl:=r.length
 have hn:=zth
 have fin:EP X pins σ Q w s:=⟨z,H,I,rw',q⟩
 exact subscriptTail_builtinR (x:=w) pl.typeIs slot_tuple_getitem.lookup
  (getItem_tuple (j:=j) (Q:=λ r s'=>r=w∧EP X pins σ Q r s') pl (by omega) (by omega) (by rw [List.size_toArray,← hl];exact h1) (by simpa using ew) ⟨rfl,fin⟩) hs
theorem zyp:IxR X rIxS:=by
 intro value slice pins s σ H x y v u Q I rx ry h hs
 obtain ⟨z,i,c,rfl,rfl,hz,he,q⟩:=h
 obtain ⟨t,rfl⟩:=rx
 obtain ⟨t',rfl⟩:=ry
 obtain ⟨j,h1,h2,h3,h4,h5⟩:=zai he
 have hl:z.cps.toList.length=z.length:=by simp [Str.length]
 rw [hl] at h1 h4 h5
 have hn:=zth
 exact tail_any (typeIs_str s z t) slot_str_getitem.lookup (getItem_str (c:=c) (by
  have e1:decide (i < -(2 ^ 63:Int))=false:=decide_eq_false (by omega)
  have e2:decide (i ≥ 2 ^ 63)=false:=decide_eq_false (by omega)
  rw [e1,e2,Bool.or_false]) (by rw [h1];simpa using h2) ⟨.str ⟨#[c]⟩,H,I.tok _,⟨_,rfl⟩,q⟩) hs
theorem zwf (lo hi:Option Int) (n:Nat):(sliceBounds lo hi none n).1=((HT.sIx n 0 lo:Nat):Int)∧(sliceBounds lo hi none n).2.1=((HT.sIx n n hi:Nat):Int)∧(sliceBounds lo hi none n).2.2=1:=by
 refine ⟨?_,?_,rfl⟩
 ·cases lo with
  | none=>simp [sliceBounds,HT.sIx]
  | some i =>
   simp only [sliceBounds,HT.sIx,Option.getD_none,show (1:Int) > 0 by decide,if_true]
   by_cases h:i<0
   ·simp only [h,if_true] <;> omega
   ·simp only [h,if_false] <;> omega
 ·cases hi with
  | none=>simp [sliceBounds,HT.sIx]
  | some i =>
   simp only [sliceBounds,HT.sIx,Option.getD_none,show (1:Int) > 0 by decide,if_true]
   by_cases h:i<0
   ·simp only [h,if_true] <;> omega
   ·simp only [h,if_false] <;> omega
theorem zqe (its:List Value) (lo hi:Option Int):slicePick its.toArray lo hi none=((its.drop (HT.sIx its.length 0 lo)).take (HT.sIx its.length its.length hi - HT.sIx its.length 0 lo)).toArray:=by
 obtain ⟨h1,h2,h3⟩:=zwf lo hi its.toArray.size
 unfold slicePick
 rw [h1,h2,h3]
 simp only [sliceRange_one,pick_run,List.size_toArray] <;> rfl
noncomputable def rSlL (K:W.Frag):V→Option Int→Option Int→Hp→VK→Prop:=λ x lo hi H Q=>∃ a xs,x = .ref a∧SqL K H a xs∧∀ p,H p=none→Q (.ref p) (upd H p (.lst (cutV xs lo hi)))
theorem zeq:SlR X (rSlL X.K):=by
 intro pins s σ H x v vl vu lo hi sl Q I rx hs pl pu h
 obtain ⟨a,xs,rfl,hx,q⟩:=h
 cases rx
 obtain ⟨its,r,ht,hz⟩:=I.list hx
 have hlen:=r.length
 refine ⟨"list",_,slot_list_getitem.lookup,ht.isList.typeIs,?_⟩
 refine wpAny_getItem_list_slice ht.isList hs pl pu .none (by simp) ?_ (by rw [List.size_toArray] <;> omega)
 rw [zqe,← hlen]
 refine ⟨.ref s.heap.objs.size,_,I.laid (t':=s.toks) (o := .lst (cutV xs lo hi)) (λ b ob q=>Heap.get?_push_of_some _ q) (Nat.le_refl _) ?_,rfl,q _ (I.hok.fresh (Nat.le_refl _))⟩
 exact ⟨Nat.le_trans (zoc xs lo hi) hz,_,0,(r.drop (HT.sIx xs.length 0 lo)).take (HT.sIx xs.length xs.length hi - HT.sIx xs.length 0 lo),Heap.get?_push_size _ rfl⟩
noncomputable def zyl:V→Bool
 | .non=>true
 | .bl _=>true
 | .int _=>true
 | .str _=>true
 | _=>false
noncomputable def eqV:V→V→Bool
 | .non,.non=>true
 | .bl a,.bl b=>a == b
 | .bl a,.int b=>(if a then 1 else 0) == b
 | .int a,.bl b=>a == (if b then 1 else 0)
 | .int a,.int b=>a == b
 | .str a,.str b=>a == b
 | _,_=>false
theorem zjw {A:Around} {s:Shared} {y x:V} {u v:Value} (ry:RelV y u) (rx:RelV x v) (fy:zyl y=true) (fx:zyl x=true):SeqAt.EqAt A s u v (eqV y x):=by
 cases y with
 | non =>
  cases ry
  cases x with
  | non=>cases rx;exact SeqAt.EqAt.same _
  | bl b=>cases rx;exact SeqAt.EqAt.none_bool b
  | int b=>obtain ⟨t,rfl⟩:=rx;exact SeqAt.EqAt.none_int b t
  | str b=>obtain ⟨t,rfl⟩:=rx;exact SeqAt.EqAt.none_str b t
  | _=>exact absurd (show false=true from fx) Bool.false_ne_true
 | bl a =>
  cases ry
  cases x with
  | non=>cases rx;exact SeqAt.EqAt.bool_none a
  | bl b=>cases rx;exact SeqAt.EqAt.bool_bool a b
  | int b=>obtain ⟨t,rfl⟩:=rx;exact SeqAt.EqAt.bool_int a b t
  | str b=>obtain ⟨t,rfl⟩:=rx;exact SeqAt.EqAt.bool_str a b t
  | _=>exact absurd (show false=true from fx) Bool.false_ne_true
 | int a =>
  obtain ⟨t',rfl⟩:=ry
  cases x with
  | non=>cases rx;exact SeqAt.EqAt.int_none a t'
  | bl b=>cases rx;exact SeqAt.EqAt.int_bool a t' b
  | int b=>obtain ⟨t,rfl⟩:=rx;exact SeqAt.EqAt.int_int a t' b t
  | str b=>obtain ⟨t,rfl⟩:=rx;exact SeqAt.EqAt.int_str a t' b t
  | _=>exact absurd (show false=true from fx) Bool.false_ne_true
 | str a =>
  obtain ⟨t',rfl⟩:=ry
  cases x with
  | non=>cases rx;exact SeqAt.EqAt.str_none a t'
  | bl b=>cases rx;exact SeqAt.EqAt.str_bool a t' b
  | int b=>obtain ⟨t,rfl⟩:=rx;exact SeqAt.EqAt.str_int a t' b t
  | str b=>obtain ⟨t,rfl⟩:=rx;exact SeqAt.EqAt.str_str a t' b t
  | _=>exact absurd (show false=true from fx) Bool.false_ne_true
 | _=>exact absurd (show false=true from fy) Bool.false_ne_true
noncomputable def eqU (x:V) (u:Value):Bool:=match u with
 | .none=>eqV .non x
 | .bool b=>eqV (.bl b) x
 | .int i _=>eqV (.int i) x
 | .str z _=>eqV (.str z) x
 | _=>false
theorem zkp {x y:V} {u:Value} (r:RelV y u) (f:zyl y=true):eqU x u=eqV y x:=by
 cases y with
 | non=>cases r;rfl
 | bl b=>cases r;rfl
 | int i=>obtain ⟨t,rfl⟩:=r;rfl
 | str z=>obtain ⟨t,rfl⟩:=r;rfl
 | _=>exact absurd (show false=true from f) Bool.false_ne_true
theorem zhf {x:V}:∀ {xs:List V} {us:List Value},Vals xs us→xs.all zyl=true→us.any (eqU x)=xs.any λ y=>eqV y x
 | _,_,.nil,_=>rfl
 | y::xs,u::us,.cons r t,f=>by
  rw [List.all_cons,Bool.and_eq_true] at f
  rw [List.any_cons,List.any_cons,zkp r f.1,zhf t f.2]
theorem zod {A:Around} {s:Shared} {x:V} {v:Value} (rx:RelV x v) (fx:zyl x=true):∀ {xs:List V} {us:List Value},Vals xs us→xs.all zyl=true→∀ u∈us,SeqAt.EqAt A s u v (eqU x u)
 | _,_,.nil,_=>λ u hu=>by cases hu
 | y::xs,u::us,.cons r t,f=>λ u' hu=>by
  rw [List.all_cons,Bool.and_eq_true] at f
  rcases List.mem_cons.mp hu with rfl | hu
  ·rw [zkp r f.1];exact zjw r rx f.1 fx
  ·exact zod rx fx t f.2 u' hu
noncomputable def inV (x:V) (xs:List V):Bool:=xs.any λ y=>eqV y x
noncomputable def rIn (K:W.Frag) (neg:Bool):R2:=λ x y H Q=>∃ p xs,y = .ref p∧(SqL K H p xs ∨ SqT K H p xs)∧zyl x=true∧xs.all zyl=true∧Q (.bl (if neg then !inV x xs else inV x xs)) H
theorem zjk:OpR X (compareOp .In) (rIn X.K false):=by
 intro pins s σ H x y v u Q I rx ry h
 obtain ⟨p,xs,rfl,hq,fx,fs,q⟩:=h
 cases ry
 rcases hq with hq | hq
 ·obtain ⟨its,r,pl,hz⟩:=I.list hq
  refine SeqAt.in_listAt (eqU x) pl.isList (λ w hw=>zod rx fx r fs w (by simpa using hw)) ⟨.bl _,H,I,rfl,?_⟩
  rw [show its.toArray.any (eqU x)=its.any (eqU x) by simp,zhf r fs]
  exact q
 ·obtain ⟨its,r,pl,hz⟩:=I.tuple hq
  refine SeqAt.in_tupleAt (eqU x) pl (λ w hw=>zod rx fx r fs w (by simpa using hw)) ⟨.bl _,H,I,rfl,?_⟩
  rw [show its.toArray.any (eqU x)=its.any (eqU x) by simp,zhf r fs]
  exact q
theorem zpd:OpR X (compareOp .NotIn) (rIn X.K true):=by
 intro pins s σ H x y v u Q I rx ry h
 obtain ⟨p,xs,rfl,hq,fx,fs,q⟩:=h
 cases ry
 rcases hq with hq | hq
 ·obtain ⟨its,r,pl,hz⟩:=I.list hq
  refine SeqAt.notIn_listAt (eqU x) pl.isList (λ w hw=>zod rx fx r fs w (by simpa using hw)) ⟨.bl _,H,I,rfl,?_⟩
  rw [show its.toArray.any (eqU x)=its.any (eqU x) by simp,zhf r fs]
  exact q
 ·obtain ⟨its,r,pl,hz⟩:=I.tuple hq
  refine SeqAt.notIn_tupleAt (eqU x) pl (λ w hw=>zod rx fx r fs w (by simpa using hw)) ⟨.bl _,H,I,rfl,?_⟩
  rw [show its.toArray.any (eqU x)=its.any (eqU x) by simp,zhf r fs]
  exact q
theorem zjb:zlf X (.builtin "len") (λ xs H Q=>∃ p ys,xs=[.ref p]∧(SqL X.K H p ys ∨ SqT X.K H p ys)∧Q (.int ys.length) H):=by
 intro pins s σ H xs us Q I r h
 obtain ⟨p,ys,rfl,hq,q⟩:=h
 obtain ⟨u,rfl,rx⟩:=zrn r
 cases rx
 have hn:=zth
 rcases hq with hq | hq
 ·obtain ⟨its,r',pl,hz⟩:=I.list hq
  have hlen:=r'.length
  exact Calls.call_len_list pl.isList (by simp only [List.size_toArray] <;> omega) ⟨.int ys.length,H,I.tok _,⟨s.toks+1,by rw [List.size_toArray,hlen]⟩,q⟩
 ·obtain ⟨its,r',pl,hz⟩:=I.tuple hq
  have hlen:=r'.length
  exact len_tuple pl (by simp only [List.size_toArray] <;> omega) ⟨.int ys.length,H,I.tok _,⟨s.toks+1,by rw [List.size_toArray,hlen]⟩,q⟩
theorem zag:zlf X (.builtin "len") (λ xs H Q=>∃ z,xs=[.str z]∧z.length≤sizeLine∧Q (.int z.length) H):=by
 intro pins s σ H xs us Q I r h
 obtain ⟨z,rfl,hz,q⟩:=h
 obtain ⟨u,rfl,t,rfl⟩:=zrn r
 have hn:=zth
 exact len_str (by omega) ⟨.int z.length,H,I.tok _,⟨_,rfl⟩,q⟩
theorem zfd:zlf X (.type "list") (λ xs H Q=>∃ p ys,xs=[.ref p]∧(SqL X.K H p ys ∨ SqT X.K H p ys)∧∀ l,H l=none→Q (.ref l) (upd H l (.lst ys))):=by
 intro pins s σ H xs us Q I r h
 obtain ⟨p,ys,rfl,hq,q⟩:=h
 obtain ⟨u,rfl,rx⟩:=zrn r
 cases rx
 have fin:∀ (its:List Value),Vals ys its→ys.length≤sizeLine→∀ (h':Heap) (c':Nat),(∀ b o',s.heap.get? b=some o'→h'.get? b=some o') →
   h'.get? s.heap.objs.size=some { cls := .type "list",dict:=none,data := .seq its.toArray c',slots := #[] }→EP X pins σ Q (.ref s.heap.objs.size) { s with heap:=h' }:=λ its r' hz h' c' kp e =>
  ⟨.ref s.heap.objs.size,_,I.laid (t':=s.toks) kp (Nat.le_refl _) (show ObjOk X.prog X.w _ h' _ (.lst ys) from ⟨hz,its,c',r',e⟩),rfl,q _ (I.hok.fresh (Nat.le_refl _))⟩
 rcases hq with hq | hq
 ·obtain ⟨its,r',pl,hz⟩:=I.list hq
  have hlen:=r'.length
  obtain ⟨o,ho,hc,n,hd⟩:=pl.isList
  exact call_list_seq p (.inl rfl) ho hc hd (λ h' c' kp e=>fin its r' hz h' c' kp e) (by simp only [List.size_toArray] <;> omega)
 ·obtain ⟨its,r',pl,hz⟩:=I.tuple hq
  have hlen:=r'.length
  obtain ⟨o,ho,hc,n,hd⟩:=pl
  exact call_list_seq p (.inr rfl) ho hc hd (λ h' c' kp e=>fin its r' hz h' c' kp e) (by simp only [List.size_toArray] <;> omega)
theorem zsc:zlf X (.type "tuple") (λ xs H Q=>∃ p ys,xs=[.ref p]∧((SqL X.K H p ys∧∀ l,H l=none→Q (.ref l) (upd H l (.tup ys))) ∨ (SqT X.K H p ys∧Q (.ref p) H))):=by
 intro pins s σ H xs us Q I r h
 obtain ⟨p,ys,rfl,h⟩:=h
 obtain ⟨u,rfl,rx⟩:=zrn r
 cases rx
 rcases h with ⟨hq,q⟩ | ⟨hq,q⟩
 ·obtain ⟨its,r',pl,hz⟩:=I.list hq
  have hlen:=r'.length
  refine call_tuple_list pl.isList (λ h' kp=>?_) (by simp only [List.size_toArray] <;> omega)
  have I1:Inv X pins σ H { s with heap:=h' }:=I.kept (t':=s.toks) kp
  have I2:Inv X pins σ (upd H h'.objs.size (.tup ys)) { s with heap:=h'.push { cls := .type "tuple",data := .seq its.toArray } } :=
   I1.laid (t':=s.toks) (λ b o e=>Heap.get?_push_of_some _ e) (Nat.le_refl _) (show ObjOk X.prog X.w _ _ _ (.tup ys) from ⟨hz,its,r',IsTup.new _ _⟩)
  exact ⟨.ref h'.objs.size,_,I2,rfl,q _ (I1.hok.fresh (Nat.le_refl _))⟩
 ·obtain ⟨its,r',pl,hz⟩:=I.tuple hq
  exact call_tuple_same pl ⟨.ref p,H,I,rfl,q⟩
noncomputable def tyV (K:W.Frag) (T:String) (x:V) (H:Hp):Prop:=match x with
 | .str _=>T = "str"
 | .int _=>T = "int"
 | .ref p=>(T = "list" ∧ ∃ xs,SqL K H p xs) ∨ (T = "tuple" ∧ ∃ o,K.lookup p=some o∧o.cls = .type "tuple" ∧ o.dict=none) ∨
   (T = "dict" ∧ ((∃ kvs,H p=some (.dK kvs)) ∨ ∃ kvs,H p=some (.dT kvs))) ∨ (T = "set" ∧ ∃ S n,H p=some (.set S n))
 | _=>False
theorem zxs {pins:List (Addr×Obj)} {σ:St} {H:Hp} {s:Shared} {T:String} {x:V} {v:Value} (I:Inv X pins σ H s) (r:RelV x v) (ty:tyV X.K T x H) :
  s.TypeIs v T∧∀ a,v = .ref a→∃ ob,s.heap.get? a=some ob∧ob.dict=none:=by
 cases x with
 | str z =>
  obtain ⟨t,rfl⟩:=r
  cases (show T = "str" from ty)
  exact ⟨typeIs_str s z t,λ _ e=>nomatch e⟩
 | int i =>
  obtain ⟨t,rfl⟩:=r
  cases (show T = "int" from ty)
  exact ⟨typeIs_int s i t,λ _ e=>nomatch e⟩
 | ref p =>
  cases r
  rcases ty with ⟨rfl,xs,hq⟩ | ⟨rfl,o,hk,hc,hd⟩ | ⟨rfl,hk⟩ | ⟨rfl,S,n,hk⟩
  ·obtain ⟨its,_,pl,_⟩:=I.list hq
   refine ⟨pl.isList.typeIs,λ a e=>?_⟩
   cases e
   obtain ⟨o,n,e,c,hd,_⟩:=pl
   exact ⟨o,e,hd⟩
  ·refine ⟨⟨o,I.kIn p o hk,hc⟩,λ a e=>?_⟩
   cases e
   exact ⟨o,I.kIn _ o hk,hd⟩
  ·have z:∃ o,s.heap.get? p=some o∧o.ExactDict:=by
    rcases hk with ⟨kvs,hk⟩ | ⟨kvs,hk⟩
    ·obtain ⟨_,_,_,_,o,_,_,e,ex,_⟩:=I.hok p _ hk
     exact ⟨o,e,ex⟩
    ·obtain ⟨_,_,_,_,o,_,_,e,ex,_⟩:=I.hok p _ hk
     exact ⟨o,e,ex⟩
   obtain ⟨o,e,ex⟩:=z
   refine ⟨⟨o,e,ex.1⟩,λ a e2=>?_⟩
   cases e2
   exact ⟨o,e,ex.2.1⟩
  ·obtain ⟨o,_,_,_,e,ex,_⟩:=I.hok p _ hk
   refine ⟨⟨o,e,ex.1⟩,λ a e2=>?_⟩
   cases e2
   exact ⟨o,e,ex.2.1⟩
 | _=>exact False.elim ty
noncomputable def tBM (K:W.Frag) (T:String) (r:V→List V→Hp→VK→Prop) (to:TE) (t:TA):TE:=λ σ H Q=>to σ H λ x H1=>tyV K T x H1∧t σ H1 λ xs H2=>r x xs H2 Q
variable {o e:Expr} {es:List Expr} {to:TE} {t:TA} {name:Str} {apos cpos:Pos} {T id:String} {r:V→List V→Hp→VK→Prop}
theorem zqj (pa:PlainAttrs T) (slot:Slot T name id) (hty:typeOf (.builtin id)=pure (.type "method_descriptor")) (hm:MtR X id r) (ho:PE X o to) (ha:PA X (e::es) t)
  (hbase:attributeBase o name X.env (eval o X.env)=eval o X.env:=by rfl)
  (hfew:((backTo cpos (starEach (e::es) X.env)).all (λ x => !x.1) && (backToKw cpos (keywordEach [] X.env)).all (λ x=>x.1.isSome)
   && decide ((e::es).length+([]:List Keyword).length+(if ([]:List Keyword).isEmpty then 0 else 1)<30))=true:=by rfl)
  (hline:(apos.endLine == cpos.line)=true:=by rfl) (hs:starEach (e::es) X.env=(false,eval e X.env)::starEach es X.env:=by rfl) (hplain:(backTo cpos (starEach es X.env)).any (·.1)=false:=by rfl) :
  PE X (.Call (.Attribute o name apos) (e::es) [] cpos) (tBM X.K T r to t) := .mk <| by
 intro pins s σ H Q I h
 refine wpAny_Call_method_late hbase hfew hline rfl (thn (ho pins s σ H _ I h) λ v s1 ⟨x,H1,I1,r1,ty,q1⟩=>?_)
 obtain ⟨h1,h2⟩:=zxs I1 r1 ty
 refine ⟨T,id,pa,slot,hty,h1,h2,?_⟩
 have hA:=ha cpos pins s1 σ H1 _ I1 q1
 rw [hs] at hA ⊢
 refine Calls.callWith_builtin (by show (false || (backTo cpos (starEach es X.env)).any (·.1))=false;rw [hplain] <;> rfl) (Calls.evalArgs_plain ?_)
 exact thn hA λ us s2 ⟨vs,H2,I2,r2,q2⟩=>hm pins s2 σ H2 x vs v us Q I2 r1 r2 q2
/- xs.append(e),list.index on a module's tuple .. are MtR facts of 06m -/
end
end L2
namespace L2
open PySem PySem.Spec PyProof.Rows
noncomputable def MtM (X:Cx) (id:String) (r:V→List V→Hp→VK→Prop):Prop :=
 ∀ (pins:List (Addr×Obj)) (s:Shared) (σ:St) (H:Hp) (x:V) (xs:List V) (v:Value) (us:List Value) (Q:VK),Inv X pins σ H s→RelV x v→Vals xs us→r x xs H Q →
  wpAny (model X.prog X.w) X.A (call (.builtin id) (v::us)) (EP X pins σ Q) X.xe s
theorem Vals.one:∀ {x:V} {us:List Value},Vals [x] us→∃ u,us=[u]∧RelV x u
 | _,_,.cons r .nil=>⟨_,rfl,r⟩
theorem Vals.two:∀ {x y:V} {us:List Value},Vals [x,y] us→∃ u v,us=[u,v]∧RelV x u∧RelV y v
 | _,_,_,.cons r (.cons q .nil)=>⟨_,_,rfl,r,q⟩
section
variable {X:Cx} {pins:List (Addr×Obj)} {σ:St} {H:Hp} {s:Shared} {l b:Addr} {xs ys zs:List V}
theorem Inv.lset {its its':List Value} {n:Nat} {f:Array Value→Array Value} {t':Nat} (I:Inv X pins σ H s) (hH:H l=some (.lst xs))
  (e:s.heap.get? l=some { cls := .type "list",data := .seq its.toArray n }) (hf:f its.toArray=its'.toArray) (hv:Vals ys its') (hz:ys.length≤sizeLine) :
  Inv X pins σ (upd H l (.lst ys)) { s with heap:=s.heap.update l (Obj.mapSeq f),toks:=t' }:=by
 have q:=PySem.IsL.update e f
 rw [hf] at q
 refine I.write (x:=l) (e:=l) (by rw [hH];exact trivial) (.inl rfl) (λ b' u hb hu=>(Heap.get?_update_other s.heap (Obj.mapSeq f) (Ne.symm hb)).trans hu) ⟨_,q⟩ ?_
 exact ⟨hz,its',_,hv,q⟩
theorem Inv.lnew {its:List Value} {t':Nat} (I:Inv X pins σ H s) (hv:Vals ys its) (hz:ys.length≤sizeLine) :
  Inv X pins σ (upd H s.heap.objs.size (.lst ys)) { s with heap:=s.heap.push { cls := .type "list",data := .seq its.toArray },toks:=t' } :=
 I.laid (λ _ _ q=>Heap.get?_push_of_some _ q) (Nat.le_refl _) ⟨hz,its,0,hv,Heap.get?_push_size _ rfl⟩
theorem Inv.fresh (I:Inv X pins σ H s):H s.heap.objs.size=none:=I.hok.fresh (Nat.le_refl _)
theorem Inv.lstM (I:Inv X pins σ H s) (hH:H l=some (.lst xs)):xs.length≤sizeLine∧∃ (its:List Value) (n:Nat),Vals xs its∧xs.length=its.length∧s.heap.get? l=some { cls := .type "list",data := .seq its.toArray n }:=by
 obtain ⟨z,its,n,r,e⟩:=I.hok l _ hH
 exact ⟨z,its,n,r,r.length,e⟩
end
section
variable {X:Cx}
noncomputable def zvq:V→List V→Hp→VK→Prop:=λ x vs H Q=>∃ l xs y,x = .ref l∧vs=[y]∧H l=some (.lst xs)∧xs.length<sizeLine∧Q .non (upd H l (.lst (xs++[y])))
theorem zmk:MtM X "list.append" zvq:=by
 intro pins s σ H x vs v us Q I rx rv h
 obtain ⟨l,xs,y,rfl,rfl,hH,hz,q⟩:=h
 cases rx
 obtain ⟨u,rfl,ru⟩:=rv.one
 obtain ⟨z,its,n,r,hl,e⟩:=I.lstM hH
 refine call_meets F.slot_list_append ⟨_,e,rfl⟩ F.entry_list_append (F.args_list_append_2 _ _) (PySem.list_append l its.toArray n u (by rw [List.size_toArray];omega)) ⟨e,?_⟩
 refine ⟨.non,_,I.lset (its':=its++[u]) hH e (by simp) (r.append (.cons ru .nil)) ?_,rfl,q⟩
 rw [List.length_append,List.length_singleton]
 omega
noncomputable def rCat:R2:=λ x y H Q=>∃ l b xs zs,x = .ref l∧y = .ref b∧H l=some (.lst xs)∧H b=some (.lst zs)∧xs.length+zs.length≤sizeLine∧∀ p,H p=none→Q (.ref p) (upd H p (.lst (xs++zs)))
theorem zcp:OpR X (binaryOp .Add) rCat:=by
 intro pins s σ H x y v u Q I rx ry h
 obtain ⟨l,b,xs,zs,rfl,rfl,hH,hB,hz,q⟩:=h
 cases rx
 cases ry
 obtain ⟨z,its,n,r,hl,e⟩:=I.lstM hH
 obtain ⟨z2,its2,n2,r2,hl2,e2⟩:=I.lstM hB
 refine PySem.P.add_list e e2 ?_ (by rw [List.size_toArray,List.size_toArray];omega)
 have ea:its.toArray++its2.toArray=(its++its2).toArray:=by simp
 rw [ea]
 exact ⟨.ref _,_,I.lnew (t':=s.toks) (r.append r2) (by rw [List.length_append];omega),rfl,q _ I.fresh⟩
end
section
variable {prog:Program} {w:World} {A:Around} {E:Value→Shared→Prop} {s:Shared}
end
section
variable {X:Cx}
end
end L2
namespace Att
open PySem PySem.W PySem.Calls PyProof.Rows
theorem zud {P:Params} {h:Heap}:∀ (ns:List Int) (vs:List Value),WellAll P h vs (ns.map WData.int)→IntsAre vs ns:=by
 intro ns
 induction ns with
 | nil =>
  intro vs w
  rw [List.map_nil] at w
  cases w
  exact .nil
 | cons n ns ih =>
  intro vs w
  rw [List.map_cons] at w
  cases w with
  | cons a b =>
   cases a
   exact .cons _ _ (ih _ b)
theorem zhl {l:OpenLaw} {n:Nat} (hn:l.most=some n) {P:Params} {h:Heap} {args:List WData} {vals:List Value}
  (hpre:l.row.toRowW.claim.pre args=true) (hwl:WellAll P h vals args) :
  ∃ a vs ns,vals=[Value.ref a]∧args=[WData.list (ns.map WData.int)]∧h.get? a=some { cls := .type "list",data := .seq vs.toArray }∧IntsAre vs ns∧ns.length≤n:=by
 have hsh:WShape.hasAll [] args [.list .int]=true:=(pre_splitW hpre).1
 have hc:l.pre.holds [] { args:=args }=true:=(pre_splitW hpre).2
 obtain ⟨d,r,rfl,h1,h2⟩:=hasAllW_cons hsh
 obtain rfl:=hasAllW_nil h2
 obtain ⟨xs,rfl,h3⟩:=hasW_list h1
 obtain ⟨ns,rfl⟩:=items_int h3
 have hlen:ns.length≤n:=by
  unfold OpenLaw.pre at hc
  have h4:(WTm.not (.lt (.lit (.int (n:Int))) (.len (.arg 0)))).holds [] { args:=[.list (ns.map .int)] }=true:=by
   have h4:=(holds_andW hc).1
   rw [hn] at h4
   exact h4
  have h5:=condW_of h4 (w_not (w_lt w_lit (w_len_list (w_arg rfl))))
  rw [List.length_map] at h5
  refine Nat.le_of_not_lt λ q=>?_
  have q':(n:Int)<((ns.length:Nat):Int):=by omega
  first
   | (rw [decide_eq_true q'] at h5;exact absurd h5 (by decide))
   | (simp at h5;omega)
 cases hwl with
 | cons w1 w2 =>
  cases w2
  cases w1 with
  | list ho hall=>exact ⟨_,_,ns,rfl,rfl,ho,zud ns _ hall,hlen⟩
theorem zol (l:OpenLaw) (args:List WData):l.row.toRowW.claim.post args (.bool true) args=true :=
 postW_of (r:=l.row.toRowW) (X:=(true == true))
  (show WShape.has [] (.bool true) .bool=true by first | rfl | decide | simp [WShape.has,WShape.arms,WShape.armsAll])
  (show (WTm.eq .res (.lit (.bool true))).value [] { args:=args,res:=some (.bool true),after:=args }=some (.bool (true == true)) from w_eq_bool (w_res rfl) w_lit) rfl
theorem attach_call {l:OpenLaw} {n:Nat} {q:Program} {loose:List Str} {XP:(Str→Option Value)→Heap→Prop} {YP:World→Heap→Prop} {d:DefRec}
  (hn:l.most=some n) (hdf:d.params.defaults=[])
  (call:∀ (w:World) (s₀ s₁:Shared) (mg mb:Str→Option Value) (fa:Addr) (o:Obj) (pm cd doc:Value) (a:Addr) (vs:List Value) (ns:List Int),
   Ground q loose [] XP w s₀ mg mb s₁.heap→YP w s₁.heap →
   s₁.heap.get? fa=some o→o.data = .func (docDef d.name d.params d.body d.scope pm cd doc)→s₁.heap.CodeRec cd d.name→mg d.name=some (.ref fa) →
   s₁.heap.get? a=some { cls := .type "list",data := .seq vs.toArray }→IntsAre vs ns→ns.length≤n→s₁.gens = #[] →
   codeAny (model l.prog w) callerA (.call (.ref fa) ⟨[.ref a],[]⟩) (λ r s'=>r = .ok (.ret (.bool true))∧OldK s₁.heap s'.heap∧s'.os=s₁.os∧AllBare s'.gens) s₁) :
  WalkO q loose XP YP l.row.toRowW d [] (λ f vs=>PySem.call f vs):=by
 intro w s₀ s₁ mg mb G Y fa o pm cd doc dV kV ho hd hcd hD hmg hg args vals as hpre hlay hrd hwl hlo
 obtain rfl:dV = .none:=Dflts.none hD hdf
 obtain rfl:kV = .none:=Dflts.noKw hD
 obtain ⟨a,vs,ns,rfl,rfl,hobj,hints,hlen⟩:=zhl hn hpre hwl
 refine enter_call (codeAny_mono (call w s₀ s₁ mg mb fa o pm cd doc a vs ns G Y ho (fd_plain hd) hcd hmg hobj hints hlen hg) λ r s' hq=>?_)
 obtain ⟨rfl,h2,h3,h4⟩:=hq
 exact ⟨.inl ⟨.bool true,.bool true,[],rfl,λ _=>rfl,.bool true,zol l _,λ _=>⟨List.Pairwise.nil,λ _ hm=>(nomatch hm)⟩⟩,h2,h3,h4⟩
section
variable {prog:Program} {w:World} {A:Around} {E:Value→Shared→Prop} {s:Shared} {K:Frag}
end
end Att
namespace L2
open PySem PySem.Spec PyProof.Rows
theorem zah:∀ {vs:List Value} {ns:List Int},IntsAre vs ns→Vals (ns.map V.int) vs
 | _,_,.nil=>.nil
 | _,_,.cons n t h=>.cons ⟨t,rfl⟩ (zah h)
noncomputable def Only (H:Hp):Prop:=∀ b,H b=none ∨ ∃ o xs,H b=some (.frz o (.lst xs))
theorem zxm {P:Program} {w:World} {K:W.Frag} {mg mb:Str→Option Value} {CX:CXT} {k:Nat} {fa a:Addr} {fd:FuncData} {x:Str} {sp:Sp} {s₁:Shared} {vs:List Value} {ns:List Int}
  (KX:K.In s₁.heap) (hns:s₁.heap.Ns mainGlobals mg) (hb:s₁.heap.Ns builtinsNs mb) (hbb:∀ x:Str,x ≠ "__name__" → mb x=bootBuiltins x) (hlim:s₁.heap.NoLimit) (hg:s₁.gens = #[])
  (ha:s₁.heap.get? a=some { cls := .type "list",data := .seq vs.toArray }) (hi:IntsAre vs ns) (hl:ns.length≤sizeLine) (hr:Room k callerA)
  (F:∀ base:Heap,K.In base→base.Ns mainGlobals mg→FnOk P w K mg base CX k fa fd [x] sp) (hbind:∀ (s:Shared) (u:Value),BindsTo s fd ⟨[u],[]⟩ [(x,u)])
  (hsp:∀ H:Hp,Only H→SqL K H a (ns.map V.int)→sp [.ref a] H (λ v _=>v = .bl true) λ _ _ _=>False)
  (hCX:∀ H e s',CX [] H s₁ (λ _ _ _=>False) e s'→False) :
  codeAny (model P w) callerA (.call (.ref fa) ⟨[.ref a],[]⟩) (λ r s'=>r = .ok (.ret (.bool true))∧OldK s₁.heap s'.heap∧s'.os=s₁.os∧AllBare s'.gens) s₁:=by
 have rv:=zah hi
 have lenV:=hi.length
 have core:∀ H:Hp,Only H→SqL K H a (ns.map V.int)→HOk P w H s₁.heap→(∀ b,H b≠none→b=a)→(H a≠none→K.lookup a=none) →
   codeAny (model P w) callerA (.call (.ref fa) ⟨[.ref a],[]⟩) (λ r s'=>r = .ok (.ret (.bool true))∧OldK s₁.heap s'.heap∧s'.os=s₁.os∧AllBare s'.gens) s₁:=by
  intro H hO hS hok hA hK
  have base_of:∀ {b:Addr} {o:Obj},s₁.heap.get? b=some o→H b=none→(hidT s₁.heap H).get? b=some o:=λ e n=>zjn e n
  have noA:∀ {b:Addr} {o:Obj} {es:Array DictEntry} {ep:Nat},s₁.heap.get? b=some o→o.data = .dict es ep→H b=none:=fun {b o es ep} e d=>by
   cases q:H b with
   | none=>rfl
   | some u =>
    have e':b=a:=hA b (by rw [q];simp)
    subst e'
    rw [ha] at e;cases e
    have d':Data.seq vs.toArray _=Data.dict es ep:=d
    cases d'
  have nsK:∀ {b:Addr} {m:Str→Option Value},s₁.heap.Ns b m→(hidT s₁.heap H).Ns b m:=fun {b m} ⟨o,es,ep,e,d,r⟩=>⟨o,es,ep,base_of e (noA e d),d,r⟩
  have hKb:K.In (hidT s₁.heap H):=λ b o e=>base_of (KX b o e) (by
   cases q:H b with
   | none=>rfl
   | some u =>
    have e':b=a:=hA b (by rw [q];simp)
    subst e'
    rw [hK (by rw [q];simp)] at e;cases e)
  have hM:Mod K mg (hidT s₁.heap H):=⟨hKb,nsK hns,⟨mb,nsK hb,hbb⟩,let ⟨mc,h1,h2⟩:=hlim; ⟨mc,nsK h1,h2⟩⟩
  have e0:Env0 P w K mg (hidT s₁.heap H) callerA [] s₁ H:=⟨rfl,hM,λ b o e=>zvp e,Nat.le_of_eq (zkk _ _),trivial,λ b hb=>absurd (show b∈([]:List Addr) from hb) (by simp),hok,.of_eq hg⟩
  refine codeAny_mono ((F _ hKb (nsK hns)).run callerA [] s₁ H ⟨[.ref a],[]⟩ [.ref a] [.ref a] _ _ hr e0 (hbind s₁ (.ref a)) (.cons rfl .nil) (hsp H hO hS)) λ r s' h=>?_
  cases r with
  | error e=>exact (hCX H e s' h).elim
  | ok fl =>
   cases fl with
   | next=>exact False.elim h
   | brk=>exact False.elim h
   | cont=>exact False.elim h
   | ret u =>
    obtain ⟨v,H',os,bare,un,hok',r',q⟩:=h
    have q':v = .bl true:=q
    subst q'
    obtain rfl:u=Value.bool true:=r'
    refine ⟨rfl,OldK.of_keep λ b o e=>?_,os,bare⟩
    cases q:H b with
    | none=>exact un.keep b o e q (by intro z;exact absurd (show b∈([]:List Addr) from z) (by simp)) (by simp)
    | some u =>
     rcases hO b with z | ⟨ob,xs,z⟩
     ·rw [q] at z;cases z
     ·have z2:=un.frzs b ob _ z
      obtain ⟨e1,_⟩:=hok b _ z
      obtain ⟨e2,_⟩:=hok' b _ z2
      rw [e] at e1;cases e1
      exact e2
 cases hk:K.lookup a with
 | some o =>
  have e:=KX a o hk
  rw [ha] at e
  cases e
  refine core (λ _=>none) (λ _=>.inl rfl) (.inr ⟨_,vs.toArray,_,hk,rfl,rfl,rfl,by rw [List.size_toArray,lenV];exact hl,by simpa using rv⟩) (λ b u z=>by have z':(none:Option HO)=some u:=z;cases z') (λ b z=>absurd rfl z) λ z=>absurd rfl z
 | none =>
  refine core (λ b=>if b=a then some (.frz { cls := .type "list",data := .seq vs.toArray } (.lst (ns.map V.int))) else none) (λ b=>?_) (.inl (.inr ⟨{ cls := .type "list",data := .seq vs.toArray },if_pos rfl⟩)) (λ b u z=>?_) (λ b z=>?_) λ _=>hk
  ·by_cases hb:b=a
   ·exact .inr ⟨_,_,if_pos hb⟩
   ·exact .inl (if_neg hb)
  ·by_cases hb:b=a
   ·have z':=(if_pos hb).symm.trans z
    cases z'
    subst hb
    exact ⟨ha,by rw [List.length_map];exact hl,vs,_,rv,ha⟩
   ·have z':=(if_neg hb).symm.trans z
    cases z'
  ·by_cases hb:b=a
   ·exact hb
   ·exact absurd (if_neg hb) z
end L2
namespace L2
open PySem PySem.Spec PyProof.Rows
theorem walk_of {l:W.OpenLaw} {n k:Nat} {q:Program} {loose:List Str} {XP:(Str→Option Value)→Heap→Prop} {YP:World→Heap→Prop} {d:DefRec} {K:Params→W.Frag} {CX:World→CXT} {sp:World→Sp} {x:Str}
  (hn:l.most=some n) (hn2:n≤sizeLine) (hdf:d.params.defaults=[]) (hr:Room k callerA)
  (hY:∀ (w:World) (h:Heap),YP w h→(K w.params).In h)
  (F:∀ (w:World) (mg:Str→Option Value) (fa:Addr) (h:Heap),(K w.params).In h→h.Ns mainGlobals mg→mg d.name=some (.ref fa) →
   ∃ fd:FuncData,(∀ (s:Shared) (u:Value),BindsTo s fd ⟨[u],[]⟩ [(x,u)]) ∧
    ∀ base:Heap,(K w.params).In base→base.Ns mainGlobals mg→FnOk l.prog w (K w.params) mg base (CX w) k fa fd [x] (sp w))
  (hsp:∀ (w:World) (H:Hp) (a:Addr) (ns:List Int),ns.length≤n→Only H→SqL (K w.params) H a (ns.map V.int)→sp w [.ref a] H (λ v _=>v = .bl true) λ _ _ _=>False)
  (hCX:∀ (w:World) (H:Hp) (s:Shared) (e:Value) (s':Shared),CX w [] H s (λ _ _ _=>False) e s'→False) :
  W.WalkO q loose XP YP l.row.toRowW d [] (λ f vs=>PySem.call f vs):=by
 refine Att.attach_call hn hdf λ w s₀ s₁ mg mb fa o pm cd doc a vs ns G Y ho hd hcd hmg hobj hints hlen hg=>?_
 have KX:=hY w _ Y
 obtain ⟨fd,hb,hF⟩:=F w mg fa _ KX G.T.g hmg
 exact zxm KX G.T.g G.T.b G.T.builtins G.T.nolimit hg hobj hints (Nat.le_trans hlen hn2) hr hF hb (λ H hO hS=>hsp w H a ns hlen hO hS) λ H e s'=>hCX w H s₁ e s'
end L2
/- THE LAST THEOREM (shape;LID,My.* are yours):
   My.Adr: a structure of the addresses that your layer names (classes,functions);My.Txt K t: a structure (Prop) of the equations over K;
   My.txt_mk:{K} {implicit addresses ..} (e1:nsIn K mainGlobals "law" = some (some (.ref f))) (e2:K.lookup f=some ⟨oc,od,.func (fnOf "law" "law" params body scope dV kV doc pm an cdv ct),sl⟩) (e3:codeIn K cdv "law" = true) .. : ∃ t,My.Txt K t
set_option maxRecDepth 100000 in
set_option maxHeartbeats 0 in
theorem PySem.Challenge.cw_LID_holds : PySem.Challenge.rw_LID.Holds := by
 w_on;o_law;k_head; (case hw=>w_witness2)
 k_fill
 refine L2.walk_of (l:=PySem.Challenge.rw_LID) (n:=63) (k:=40) (x := "script") (CX:=λ w=>..) (sp:=λ _=>My.sp_law) rfl (by decide) rfl ⟨rfl,by decide,by decide⟩ (λ w h Y=>W.kIn_of Y) ?F ?S ?C
 case F =>
  intro w mg fa h KX G hmg
  have T:∃ t,My.Txt (L2.KOf KX) t:=by
   dsimp only [L2.KOf]                          -- K must stand as «<heap const> w.params» for k_is
   refine' My.txt_mk ?e1 ?e2 ?e3 ..
   (case e1=>W.k_is)                    -- in the order: a name -> its address -> its object -> its parts
   (case e2=>W.k_is)
   ..
  obtain ⟨t,T⟩:=T
  have e0:=hmg.symm.trans (W.mg_of KX G T.law)
  cases e0                                       -- fa is the law's own address
  exact ⟨_,λ s u=>.of_eq rfl,λ base kb nb=>My.law_fn T kb nb⟩     -- if «.of_eq rfl» comes too early: refine' ⟨_,?b,λ base kb nb=>My.law_fn T kb nb⟩;exact λ s u=>.of_eq rfl
 case S=>exact λ w H a ns hl hO hS=>..
 case C=>exact ..
(the tactic k_is has no namespace: write k_is) -/
namespace L2
open PySem PySem.Spec PyProof.Rows
noncomputable def zdf (s:Stmt):Arguments:=match s with
 | .FunctionDef _ a _ _ _ _ _ _ _ _=>a
 | _=>{ posonlyargs:=[],args:=[],vararg:=none,kwonlyargs:=[],kw_defaults:=[],kwarg:=none,defaults:=[] }
noncomputable def zgd (s:Stmt):List Stmt:=match s with
 | .FunctionDef _ _ b _ _ _ _ _ _ _=>b
 | _=>[]
noncomputable def zga (s:Stmt):Scope:=match s with
 | .FunctionDef _ _ _ _ _ _ sc _ _ _=>sc
 | _=>{ kind := .function,names:=[],isGenerator:=false,isCoroutine:=false }
noncomputable abbrev E0:XK:=λ _ _ _=>False
structure Fun (K:W.Frag) (x qual:Str) (st:Stmt) (f:Addr) (fd:FuncData):Prop where
 ex:∃ (oc:Value) (od:Option Addr) (kV doc pm:Value) (an:Option Addr) (cdv ct:Value) (osl:Array (Option Value)),
  fd=W.fnOf x qual (zdf st) (zgd st) (zga st) .none kV doc pm an cdv ct∧K.lookup f=some ⟨oc,od,.func fd,osl⟩∧W.codeIn K cdv qual=true
 kp:W.keepIn K (.ref f)=true
section
variable {P:Program} {w:World} {K:W.Frag} {mg:Str→Option Value} {base:Heap}
theorem Fun.binds {x qual:Str} {st:Stmt} {f:Addr} {fd:FuncData} {ps:List Str} (F:Fun K x qual st f fd)
  (h:∀ (kV doc pm:Value) (an:Option Addr) (cdv ct:Value) (us:List Value),us.length=ps.length→bindArgs (W.fnOf x qual (zdf st) (zgd st) (zga st) .none kV doc pm an cdv ct) ⟨us,[]⟩=pure (ps.zip us)):Binds K fd ps []:=by
 obtain ⟨oc,od,kV,doc,pm,an,cdv,ct,osl,rfl,lk,hcd⟩:=F.ex
 exact .all (h kV doc pm an cdv ct)
theorem fun_mk {x qual:Str} {st:Stmt} {f:Addr} {oc:Value} {od an:Option Addr} {osl:Array (Option Value)} {kV doc pm cdv ct:Value} (l:K.lookup f=some ⟨oc,od,.func (W.fnOf x qual (zdf st) (zgd st) (zga st) .none kV doc pm an cdv ct),osl⟩)
  (c:W.codeIn K cdv qual=true) (k:W.keepIn K (.ref f)=true):Fun K x qual st f (W.fnOf x qual (zdf st) (zgd st) (zga st) .none kV doc pm an cdv ct):=⟨⟨oc,od,kV,doc,pm,an,cdv,ct,osl,rfl,l,c⟩,k⟩
end
theorem zck {n:Nat} (h:n≤1000):n<sizeLine:=Nat.lt_of_le_of_lt h (by decide)
section
variable {X:Cx}
theorem pv (i:Nat) {x:Str} {pos:Pos} (hN:X.N[i]? = some x:=by rfl) (hv:Vis X.env.scope x:=by first | exact Or.inl rfl | exact Or.inr (Or.inl rfl) | exact Or.inr (Or.inr rfl)) (hd:(x == ("__debug__" : Str))=false:=by decide)
  (hcd:(x == ("__classdict__" : Str))=false:=by decide):PE X (.Name x pos) (tVar i):=zdu hN hv hd hcd
end
theorem iteF {A B:Prop} (h:B):if false=true then A else B:=by
 rw [if_neg Bool.false_ne_true]
 exact h
theorem iteT {A B:Prop} (h:A):if true=true then A else B:=by
 rw [if_pos rfl]
 exact h
noncomputable def Same (H H':Hp):Prop:=∀ b o,H b=some o→H' b=some o
theorem Same.refl (H:Hp):Same H H:=λ _ _ h=>h
theorem Same.trans {H H1 H2:Hp} (a:Same H H1) (b:Same H1 H2):Same H H2:=λ c o h=>b c o (a c o h)
theorem Same.free {H H':Hp} (e:Same H H') {l:Addr} (h:H' l=Option.none):H l=Option.none:=by
 cases q:H l with
 | none=>rfl
 | some o =>
  rw [e l o q] at h
  cases h
theorem Same.seq {K:W.Frag} {H H':Hp} {a:Addr} {xs:List V} (e:Same H H') (h:SqL K H a xs):SqL K H' a xs:=by
 rcases h with (h | ⟨o,h⟩) | h
 ·exact .inl (.inl (e _ _ h))
 ·exact .inl (.inr ⟨o,e _ _ h⟩)
 ·exact .inr h
end L2
namespace L2
open PySem PySem.Spec PyProof.Rows
section
variable {X:Cx} {pins:List (Addr×Obj)} {σ:St} {H:Hp} {s:Shared} {h':Heap}
theorem Inv.turnLay {t':Nat} {ch:List Addr} {T:Addr} {o:HO} (I:Inv X pins σ H s) (hf:∀ b∈ch,FpOk X pins H b)
  (k:∀ b u,b∉ch→s.heap.get? b=some u→h'.get? b=some u) (hT:s.heap.objs.size≤T)
  (new:ObjOk X.prog X.w (upd H T o) h' T o):Inv X pins σ (upd H T o) { s with heap:=h',toks:=t' }:=by
 have hn:H T=none:=I.hok.fresh hT
 have nT:∀ b u,s.heap.get? b=some u→b≠T:=λ b u e=>Nat.ne_of_lt (Nat.lt_of_lt_of_le (Heap.lt_size e) hT)
 have nch:∀ b u,H b=some u→b∉ch:=λ b u e hb=>by rw [(hf b hb).1] at e;cases e
 have nTH:∀ b u,H b=some u→b≠T:=λ b u e=>zab e hn
 refine I.step (g':=s.gens) (d':=s.drawn) (ch:=ch) (λ b hb=>?_) (λ b o _ _ hc e _=>k b o hc e) (λ b o _ _ hc e _=>⟨o.slots,k b o hc e⟩)
  (λ b u hc e n=>by rw [zva (nT b u e)];exact n) (λ b u hc e=>⟨u,k b u hc e⟩) (λ b xs e=>by rw [zva (nTH b _ e)];exact e) (λ b o' u e=>by rw [zva (nTH b _ e)];exact e)
  (λ b ps e=>⟨#[],by rw [zva (nTH b _ e),e];simp⟩) (λ m hm=>?_) (λ b u e=>?_) I.bare
 ·obtain ⟨f0,f1,f2,f3,f4,f5⟩:=hf b hb
  exact ⟨f3,f1,f4,f5⟩
 ·obtain ⟨ob,es,ep,ho,r⟩:=hm
  exact ⟨ob,es,ep,k _ ob (λ z=>(hf _ z).2.1 rfl) ho,r⟩
 ·by_cases hb:b=T
  ·subst hb;rw [upd_same] at e;cases e;exact new
  ·rw [zva hb] at e
   refine (I.hok b u e).stay (λ c v hc q=>k c v ?_ q) (λ c q=>by rw [zva (nTH c _ q)];exact q) λ c xs q=>by rw [zva (nTH c _ q)];exact q
   rcases hc with z | z
   ·rw [z];exact nch b u e
   ·exact nch c _ z
theorem Inv.turnedL {t':Nat} {ch:List Addr} (I:Inv X pins σ H s) (hf:∀ b∈ch,FpOk X pins H b)
  (k:∀ b u,b∉ch→s.heap.get? b=some u→h'.get? b=some u):Inv X pins σ H { s with heap:=h',toks:=t' }:=by
 have nch:∀ b u,H b=some u→b∉ch:=λ b u e hb=>by rw [(hf b hb).1] at e;cases e
 refine I.step (g':=s.gens) (d':=s.drawn) (ch:=ch) (λ b hb=>?_) (λ b o _ _ hc e _=>k b o hc e) (λ b o _ _ hc e _=>⟨o.slots,k b o hc e⟩)
  (λ b u hc e n=>n) (λ b u hc e=>⟨u,k b u hc e⟩) (λ b xs e=>e) (λ b o' u e=>e)
  (λ b ps e=>⟨#[],by rw [e];simp⟩) (λ m hm=>?_) (λ b u e=>?_) I.bare
 ·obtain ⟨f0,f1,f2,f3,f4,f5⟩:=hf b hb
  exact ⟨f3,f1,f4,f5⟩
 ·obtain ⟨ob,es,ep,ho,r⟩:=hm
  exact ⟨ob,es,ep,k _ ob (λ z=>(hf _ z).2.1 rfl) ho,r⟩
 ·refine (I.hok b u e).stay (λ c v hc q=>k c v ?_ q) (λ c q=>q) λ c xs q=>q
  rcases hc with z | z
  ·rw [z];exact nch b u e
  ·exact nch c _ z
end
noncomputable def Its (x:Str):It:=⟨λ i _=>i<x.cps.size,λ i H v H'=>H'=H∧∃ c,x.cps[i]? = some c∧v = .str ⟨#[c]⟩,λ i _=>i=x.cps.size⟩
theorem zwj {P:Program} {w:World} {K:W.Frag} {tg:Expr} {x:Str} {it:Addr} {n:String} {t:Tok} (hn:n = "str_ascii_iterator" ∨ n = "str_iterator")
  (W:∀ A':Around,A'.handled=none→Walks P w A' it [it] [it] x.cps.size (SignAt x) (λ i h=>h.IsStrIter it n x t i))
  (hs:∀ (A:Around) (i:Nat) (s:Shared) (Q:Value→Shared→Prop) (E:Value→Shared→Prop),s.heap.IsStrIter it n x t i→Q (.ref it) s→wpAny (model P w) A (pyIter (.ref it)) Q E s) :
  Turn P w K tg (Its x) [it] it (λ i h=>h.IsStrIter it n x t i) where
 mem:=by simp
 obj:=λ i h st b hb=>by
  have e:b=it:=by simpa using hb
  subst e
  obtain ⟨o,e,c,d⟩:=st
  exact ⟨o,e,λ v z=>by rw [d] at z;cases z⟩
 keep:=λ i h h' st k=>let ⟨o,ho,r⟩:=st; ⟨o,k it (by simp) o ho,r⟩
 item:=by
  intro X hP hw hK hc i pins s σ H E I hf st hg
  subst hP hw hK
  refine (W X.A (I.ok.hd hc)).item i s _ _ hg st λ v h' tk hv st' kk=>?_
  obtain ⟨c,u,hx,rfl⟩:=hv
  have I1:Inv X pins σ H { s with heap:=h',toks:=tk }:=I.turnedL hf kk
  obtain ⟨o,e,c',d⟩:=id st'
  refine ⟨_,rfl,zqr (s:={ s with heap:=h',toks:=tk }) e c' d (by rcases hn with rfl | rfl <;> decide) ⟨.str ⟨#[c]⟩,H,I1,⟨u,rfl⟩,⟨rfl,c,hx,rfl⟩,st',λ b hb=>(hf b hb).1⟩⟩
 done:=by
  intro X hP hw hK hc i pins s σ H E I hf st hg
  subst hP hw hK
  have e:i=x.cps.size:=hg
  subst e
  exact (W X.A (I.ok.hd hc)).done s _ _ st λ h' tk kk=>⟨rfl,I.turnedL hf kk⟩
 self:=hs
section
variable {X:Cx} {tg:Expr}
noncomputable def iStr (tl:TE):TI:=λ σ H R=>tl σ H λ x H1=>∃ z,x = .str z∧R (Its z) H1
theorem zdt {l:Expr} {tl:TE} (hl:PE X l tl):PI X tg l (iStr tl) := .mk <| by
 intro pins s σ H R I h
 refine thn (hl pins s σ H _ I h) λ v s1 ⟨x,H1,I1,r1,q1⟩=>?_
 obtain ⟨z,e,q⟩:=q1
 subst e
 obtain ⟨t,rfl⟩:=r1
 have fpo:∀ b∈[s1.heap.objs.size],FpOk X pins H1 b:=λ b hb=>by
  have e:b=s1.heap.objs.size:=by simpa using hb
  subst e
  exact I1.fpOk (Nat.le_refl _) (I1.hok.fresh (Nat.le_refl _))
 cases ha:z.cps.all (· < 128)
 ·exact wpAny_pyIter_wide ha ⟨s1.heap.objs.size,[s1.heap.objs.size],_,_,H1,rfl,I1.kept (t':=s1.toks) λ b o e=>Heap.get?_push_of_some _ e,
   zwj (n := "str_iterator") (t:=t) (.inr rfl) (λ A' hA=>Walks.strWide hA _ z t) (λ A i s Q E st h=>wpAny_pyIter_striter_wide st h),⟨_,Heap.get?_push_size _ rfl,rfl,rfl⟩,fpo,q⟩
 ·exact wpAny_pyIter_ascii ha ⟨s1.heap.objs.size,[s1.heap.objs.size],_,_,H1,rfl,I1.kept (t':=s1.toks) λ b o e=>Heap.get?_push_of_some _ e,
   zwj (n := "str_ascii_iterator") (t:=t) (.inl rfl) (λ A' hA=>Walks.strAscii hA _ z t) (λ A i s Q E st h=>wpAny_pyIter_striter_ascii st h),⟨_,Heap.get?_push_size _ rfl,rfl,rfl⟩,fpo,q⟩
end
noncomputable def Ite (K:W.Frag) (a:Addr):It :=
 ⟨λ i H=>∃ xs x,SqL K H a xs∧xs[i]? = some x,λ i H v H'=>∃ T y,v = .ref T∧H T=none∧H'=upd H T (.tup [.int i,y])∧∀ xs,SqL K H a xs→xs[i]? = some y,λ i H=>∃ xs,SqL K H a xs∧xs.length≤i⟩
theorem zlk {P:Program} {w:World} {K:W.Frag} {elts:List Expr} {kk:Nat} {tp:Pos} (a e it:Addr) (hne:e≠it) :
  Turn P w K (.Tuple elts kk tp) (Ite K a) [e,it] e (λ i h=>(∃ old,IsEnum h e it (i:Nat) old)∧h.IsListIter it a i) where
 mem:=by simp
 obj:=λ i h st b hb=>by
  obtain ⟨⟨old,he⟩,o,e',c,d⟩:=st
  have:b=e ∨ b=it:=by simpa using hb
  rcases this with rfl | rfl
  ·exact ⟨_,he,λ v z=>nomatch z⟩
  ·exact ⟨o,e',λ v z=>by rw [d] at z;cases z⟩
 keep:=λ i h h' st k=>⟨let ⟨old,he⟩:=st.1; ⟨old,k e (by simp) _ he⟩,st.2.at λ o q=>k it (by simp) o q⟩
 item:=by
  intro X hP hw hK hc i pins s σ H E I hf st hg
  subst hP hw hK
  obtain ⟨⟨old,he⟩,hit⟩:=st
  obtain ⟨xs,x,hq,hx⟩:=hg
  obtain ⟨its,rv,p,hz⟩:=I.list hq
  obtain ⟨u,hu,ru⟩:=rv.get hx
  have helt:e<s.heap.objs.size:=Heap.lt_size he
  refine wpAny_pyNext_enum_item he hit p.isList (x:=u) (by simpa using hu) hne λ h1 heo hit1 ht1 hz1 hk1=>?_
  refine ⟨_,rfl,wpAny_letOwnedTupleGo_enum heo λ h2 he2 hs2=>?_⟩
  have hT2:h2.get? s.heap.objs.size=some { cls := .type "tuple",data := .seq #[.int i s.toks,u] }:=(hs2.2 _ (Nat.ne_of_gt helt)).trans ht1
  have I2:Inv X pins σ (upd H s.heap.objs.size (.tup [.int i,x])) { s with heap:=h2,toks:=s.toks+1 }:=by
   refine I.turnLay (ch:=[e,it]) hf (λ b o hb q=>?_) (Nat.le_refl _) ?_
   ·have n1:b≠e:=λ z=>hb (by simp [z])
    have n2:b≠it:=λ z=>hb (by simp [z])
    exact (hs2.2 b n1).trans (hk1 b o n1 n2 q)
   ·exact ⟨by show 2≤sizeLine;decide,[.int i s.toks,u],.cons ⟨_,rfl⟩ (.cons ru .nil),⟨_,hT2,rfl,_,rfl⟩⟩
  have hn:H s.heap.objs.size=none:=I.hok.fresh (Nat.le_refl _)
  refine ⟨.ref s.heap.objs.size,_,I2,rfl,⟨_,x,rfl,hn,rfl,λ ys hy=>by rw [I.list_inj hy hq];exact hx⟩,⟨⟨u,by simpa using he2⟩,hit1.at λ o q=>(hs2.2 it (Ne.symm hne)).trans q⟩,λ b hb=>?_⟩
  have hb':b<s.heap.objs.size:=by
   have:b=e ∨ b=it:=by simpa using hb
   rcases this with rfl | rfl
   ·exact helt
   ·obtain ⟨o,q,_⟩:=hit;exact Heap.lt_size q
  rw [zva (Nat.ne_of_lt hb')]
  exact (hf b hb).1
 done:=by
  intro X hP hw hK hc i pins s σ H E I hf st hg
  subst hP hw hK
  obtain ⟨⟨old,he⟩,hit⟩:=st
  obtain ⟨xs,hq,hx⟩:=hg
  obtain ⟨its,rv,p,hz⟩:=I.list hq
  have hl:=rv.length
  exact wpAny_pyNext_enum_end (I.ok.hd hc) he hit p.isList (by simp;omega) λ h' eb=>⟨rfl,I.turnedL (t':=s.toks) hf λ b o hb q=>eb b o (λ z=>hb (by simp [z])) q⟩
 self:=λ A i s Q E st h=>by
  obtain ⟨⟨old,he⟩,hit⟩:=st
  have hT:s.TypeIs (.ref e) "enumerate" := ⟨_,he,rfl⟩
  refine wpAny_pyIter_slot hT F.slot_enumerate_iter (wpAny_call_entry F.slot_enumerate_iter hT F.entry_enumerate_iter ?_ (F.args_enumerate_iter_1 _))
  show wpAny _ _ (ret (.ref e)) _ _ s
  exact wpAny_pure ⟨_,rfl, "enumerate",_,hT,F.slot_enumerate_next.lookup,h⟩
end L2
namespace L2
open PySem PySem.Spec PyProof.Rows
section
variable {X:Cx}
noncomputable def zty (K:W.Frag) (ta:TA):TI:=λ σ H R=>ta σ H λ vs H1=>∃ a,vs=[.ref a]∧(∃ xs,SqL K H1 a xs)∧R (Ite K a) H1
theorem zxo {elts:List Expr} {kk:Nat} {tp:Pos} {a:Expr} {ta:TA} {p pos:Pos} (hg:Gl X "enumerate") (hm:X.mg "enumerate" = none) (hb:bootBuiltins "enumerate" = some (.type "enumerate")) (ha:PA X [a] ta) (hs:starEach [a] X.env=[(false,eval a X.env)]:=by rfl) :
  PI X (.Tuple elts kk tp) (.Call (.Name "enumerate" p) [a] [] pos) (zty X.K ta) := .mk <| by
 intro pins s σ H R I h
 refine Call_ (zdh I hg hm hb (PyProof.Rows.callWith_type1 (thn (ha pos pins s σ H _ I h) λ us s1 ⟨vs,H1,I1,r1,q1⟩=>?_) hs rfl))
 obtain ⟨b,e,⟨xs,hq⟩,q⟩:=q1
 subst e
 cases r1 with
 | cons r rr =>
  cases rr
  cases r
  obtain ⟨its,rv,pl,hz⟩:=I1.list hq
  refine call_enumerate_list pl.isList λ h' he hi hsz hk=>?_
  have I2:Inv X pins σ H1 { s1 with heap:=h' }:=I1.kept (t':=s1.toks) hk
  have T:=zlk (P:=X.prog) (w:=X.w) (K:=X.K) (elts:=elts) (kk:=kk) (tp:=tp) b (s1.heap.objs.size+1) s1.heap.objs.size (Nat.succ_ne_self _)
  have t0:(∃ old,IsEnum h' (s1.heap.objs.size+1) s1.heap.objs.size ((0:Nat):Int) old)∧h'.IsListIter s1.heap.objs.size b 0:=⟨⟨.none,by simpa using he⟩,hi⟩
  refine T.self X.A 0 _ _ _ t0 ⟨_,_,_,_,H1,rfl,I2,T,t0,λ c hc=>?_,q⟩
  have hc':s1.heap.objs.size≤c:=by
   have:c=s1.heap.objs.size+1 ∨ c=s1.heap.objs.size:=by simpa using hc
   rcases this with rfl | rfl
   ·exact Nat.le_succ _
   ·exact Nat.le_refl _
  exact I1.fpOk hc' (I1.hok.fresh hc')
end
theorem zgn {K:W.Frag} {a:Addr} {xs:List V} {g:TG} {tb:TS} {D:Ends} {σ:St} {H:Hp} (Pv:Nat→St→Hp→Prop) (h0:Pv 0 σ H) (hl:∀ i σ H,i≤xs.length→Pv i σ H→SqL K H a xs)
  (hs:∀ i x T σ H,xs[i]? = some x→Pv i σ H→H T=none→g (.ref T) σ (upd H T (.tup [.int i,x])) λ σ2 H2=>tb { D with nx:=Pv (i+1),ct:=Pv (i+1),bk:=D.nx } σ2 H2) (hd:∀ σ H,Pv xs.length σ H→D.nx σ H) :
  ∃ W:Nat→Nat→St→Hp→Prop,(∃ m,W 0 m σ H)∧∀ i m σ H,W i m σ H →
   ((Ite K a).stop i H∧D.nx σ H) ∨ ((Ite K a).go i H∧∃ N:St→Hp→Prop,(∀ σ' H',N σ' H'→∃ m',m'<m∧W (i+1) m' σ' H')∧∀ x H',(Ite K a).yld i H x H'→g x σ H' λ σ2 H2=>tb { D with nx:=N,ct:=N,bk:=D.nx } σ2 H2):=by
 refine ⟨λ i m σ H=>m=xs.length - i∧i≤xs.length∧Pv i σ H,⟨xs.length,by simp,Nat.zero_le _,h0⟩,?_⟩
 rintro i m σ H ⟨rfl,hi,p⟩
 have q:=hl i σ H hi p
 by_cases hlt:i<xs.length
 ·refine .inr ⟨⟨xs,xs[i],q,by simp [hlt]⟩,Pv (i+1),λ σ' H' p'=>⟨xs.length - (i+1),by omega,rfl,hlt,p'⟩,λ x H' y=>?_⟩
  obtain ⟨T,z,rfl,hT,rfl,y⟩:=y
  exact hs i z T σ H (y xs q) p hT
 ·have e:i=xs.length:=by omega
  subst e
  exact .inl ⟨⟨xs,q,Nat.le_refl _⟩,hd σ H p⟩
noncomputable def zec (env:Env) (cs:List (Str×Addr)) (p:Str×NameKind):List (Str×Addr):=if p.2 = .free then (match env.cells.lookup p.1 with | some c=>(p.1,c)::cs | none=>cs) else cs
noncomputable def clOf (scope:Scope) (env:Env):List (Str×Addr):=scope.names.foldl (zec env) []
noncomputable def zvd (scope:Scope) (env:Env):Bool :=
 scope.names.all (λ p=>p.2 != .cell) && scope.names.all (λ p=>p.2 != .local || scope.names.lookup p.1 == some .local) && scope.names.all (λ p=>p.2 != .free || (env.scope.names.lookup p.1 == some .cell || env.scope.names.lookup p.1 == some .free))
theorem zjf {env:Env}:∀ (ns:List (Str×NameKind)) (cs:List (Str×Addr)),(∀ p∈ns,p.2 = .free→∃ c,env.cells.lookup p.1=some c) →
  (forIn (m:=Sem) ns cs λ (p:Str×NameKind) (cs:List (Str×Addr))=>(if (p.2 == .free)=true then do
    let c ← cellOf env p.1
    pure (ForInStep.yield ((p.1,c)::cs)) else pure (ForInStep.yield cs)))=pure (ns.foldl (zec env) cs)
 | [],cs,_=>rfl
 | p::ns,cs,h=>by
  rw [List.forIn_cons,List.foldl_cons]
  have ih:=zjf (env:=env) ns
  have hr:∀ q∈ns,q.2 = .free→∃ c,env.cells.lookup q.1=some c:=λ q hq=>h q (List.mem_cons_of_mem _ hq)
  by_cases hk:p.2 = .free
  ·obtain ⟨c,e⟩:=h p List.mem_cons_self hk
   have e1:(p.2 == NameKind.free)=true:=by simp [hk]
   have e2:zec env cs p=(p.1,c)::cs:=by unfold zec;rw [if_pos hk,e]
   have e3:cellOf env p.1=pure c:=by unfold cellOf;rw [e]
   rw [if_pos e1,e3,e2]
   exact ih _ hr
  ·have e1:¬ ((p.2 == NameKind.free)=true):=by simp [hk]
   have e2:zec env cs p=cs:=by unfold zec;rw [if_neg hk]
   rw [if_neg e1,e2]
   exact ih _ hr
theorem zgj {scope:Scope} {env:Env} (h:∀ p∈scope.names,p.2 = .free→∃ c,env.cells.lookup p.1=some c):closureFor scope env=pure (clOf scope env):=by
 have e:=zjf (env:=env) scope.names [] h
 have e2:=congrArg (λ (z:Sem (List (Str×Addr)))=>z >>= λ s=>pure s) e
 exact e2
theorem zyr {env:Env} {x:Str} {c:Addr}:∀ (ns:List (Str×NameKind)) (cs:List (Str×Addr)),(∀ y d,cs.lookup y=some d→env.cells.lookup y=some d)→(ns.foldl (zec env) cs).lookup x=some c→env.cells.lookup x=some c
 | [],cs,h,e=>h x c e
 | p::ns,cs,h,e=>by
  refine zyr ns (zec env cs p) (λ y d q=>?_) e
  unfold zec at q
  split at q
  ·split at q
   ·rename_i c' ec
    rw [List.lookup_cons] at q
    split at q
    ·rename_i he
     have:y=p.1:=by simpa using he
     subst this;rw [← q];exact ec
    ·exact h y d q
   ·exact h y d q
  ·exact h y d q
theorem zwl {env:Env} {x:Str} {c:Addr} (hx:env.cells.lookup x=some c):∀ (ns:List (Str×NameKind)) (cs:List (Str×Addr)),cs.lookup x=some c→(ns.foldl (zec env) cs).lookup x=some c
 | [],cs,e=>e
 | p::ns,cs,e=>by
  refine zwl hx ns (zec env cs p) ?_
  unfold zec
  split
  ·split
   ·rename_i c' ec
    rw [List.lookup_cons]
    split
    ·rename_i he
     have:x=p.1:=by simpa using he
     subst this;rw [hx] at ec;exact ec.symm
    ·exact e
   ·exact e
  ·exact e
theorem zao {env:Env} {x:Str} {c:Addr} (hx:env.cells.lookup x=some c):∀ (ns:List (Str×NameKind)) (cs:List (Str×Addr)),(x,NameKind.free)∈ns→(ns.foldl (zec env) cs).lookup x=some c
 | [],cs,e=>by simp at e
 | p::ns,cs,e=>by
  rcases List.mem_cons.mp e with e | e
  ·subst e
   refine zwl hx ns _ ?_
   unfold zec
   rw [if_pos rfl,hx]
   simp
  ·exact zao hx ns _ e
theorem zyd {scope:Scope} {env:Env} (h:zvd scope env=true):∀ p∈scope.names,p.2 ≠ .cell:=λ p hp=>by
 unfold zvd at h
 simp only [Bool.and_eq_true,List.all_eq_true] at h
 simpa using h.1.1 p hp
theorem zrf {scope:Scope} {env:Env} (h:zvd scope env=true):∀ p∈scope.names,p.2 = .local→scope.names.lookup p.1=some .local:=λ p hp e=>by
 unfold zvd at h
 simp only [Bool.and_eq_true,List.all_eq_true] at h
 have:=h.1.2 p hp
 rw [e] at this
 simpa using this
theorem zqc {scope:Scope} {env:Env} (h:zvd scope env=true):∀ p∈scope.names,p.2 = .free→env.kindOf p.1=some .cell ∨ env.kindOf p.1=some .free:=λ p hp e=>by
 unfold zvd at h
 simp only [Bool.and_eq_true,List.all_eq_true] at h
 have:=h.2 p hp
 rw [e] at this
 simpa [Env.kindOf] using this
theorem zic {env:Env}:∀ {names:List (Str×NameKind)} {x:Str} {k:NameKind},
  (names.map λ (n,k)=>if (k == NameKind.free && env.scope.kind == .function && env.kindOf n == some .cell) then (n,NameKind.cell) else (n,k)).lookup x=some k →
   names.lookup x=some k ∨ (names.lookup x=some .free∧k = .cell)
 | [],_,_,h=>by simp at h
 | (n,j)::r,x,k,h=>by
  have ih:=@zic env r x k
  rw [List.map_cons] at h
  by_cases hx:(x == n)=true
  ·rw [List.lookup_cons,hx]
   by_cases hc:(j == NameKind.free && env.scope.kind == .function && env.kindOf n == some .cell)=true
   ·simp only [hc,if_true] at h
    rw [List.lookup_cons,hx] at h
    have hj:j = .free:=by
     simp only [Bool.and_eq_true] at hc
     simpa using hc.1.1
    exact .inr ⟨by simp [hj],(Option.some.inj h).symm⟩
   ·simp only [hc,if_false] at h
    have h':List.lookup x ((n,j)::List.map (λ x=>if (x.snd == NameKind.free && env.scope.kind == ScopeKind.function && env.kindOf x.fst == some NameKind.cell)=true then (x.fst,NameKind.cell) else (x.fst,x.snd)) r)=some k:=by simpa using h
    rw [List.lookup_cons,hx] at h'
    exact .inl h'
  ·have hx':(x == n)=false:=by simpa using hx
   rw [List.lookup_cons,hx']
   apply ih
   by_cases hc:(j == NameKind.free && env.scope.kind == .function && env.kindOf n == some .cell)=true
   ·simp only [hc,if_true] at h
    rw [List.lookup_cons,hx'] at h
    exact h
   ·have h':List.lookup x ((n,j)::List.map (λ x=>if (x.snd == NameKind.free && env.scope.kind == ScopeKind.function && env.kindOf x.fst == some NameKind.cell)=true then (x.fst,NameKind.cell) else (x.fst,x.snd)) r)=some k:=by simpa [hc] using h
    rw [List.lookup_cons,hx'] at h'
    exact h'
theorem zad {env:Env}:∀ {names:List (Str×NameKind)} {x:Str},names.lookup x=some .free →
  ∃ k,(names.map λ (n,k)=>if (k == NameKind.free && env.scope.kind == .function && env.kindOf n == some .cell) then (n,NameKind.cell) else (n,k)).lookup x=some k∧(k = .cell ∨ k = .free)
 | [],_,h=>by simp at h
 | (n,j)::r,x,h=>by
  have ih:=@zad env r x
  by_cases hx:(x == n)=true
  ·rw [List.lookup_cons,hx] at h
   have hj:j = .free:=Option.some.inj h
   subst hj
   by_cases hc:(env.scope.kind == .function && env.kindOf n == some .cell)=true
   ·refine ⟨.cell,?_,.inl rfl⟩
    show List.lookup x ((if (NameKind.free == NameKind.free && env.scope.kind == .function && env.kindOf n == some .cell)=true then (n,NameKind.cell) else (n,NameKind.free))::_)=_
    rw [if_pos (by simpa using hc),List.lookup_cons,hx]
   ·refine ⟨.free,?_,.inr rfl⟩
    show List.lookup x ((if (NameKind.free == NameKind.free && env.scope.kind == .function && env.kindOf n == some .cell)=true then (n,NameKind.cell) else (n,NameKind.free))::_)=_
    rw [if_neg (by simpa using hc),List.lookup_cons,hx]
  ·have hx':(x == n)=false:=by simpa using hx
   rw [List.lookup_cons,hx'] at h
   obtain ⟨k,e,hk⟩:=ih h
   refine ⟨k,?_,hk⟩
   rw [List.map_cons]
   by_cases hc:(j == NameKind.free && env.scope.kind == .function && env.kindOf n == some .cell)=true
   ·simp only [hc,if_true,List.lookup_cons,hx']
    exact e
   ·show List.lookup x ((if (j == NameKind.free && env.scope.kind == .function && env.kindOf n == some .cell)=true then (n,NameKind.cell) else (n,j))::_)=_
    rw [if_neg hc,List.lookup_cons,hx']
    exact e
noncomputable def Cx.comp (X:Cx) (scope:Scope) (C:Addr) (s₀:Shared) (H₀:Hp) (fp:List Addr) (N':List Str) (E':Value→Shared→Prop):Cx :=
 { X with N:=N',s₀:=s₀,H₀:=H₀,env:=compEnvC scope (clOf scope X.env) C X.env,outer:=X.stack,ex:=fp,fn:=λ _=>false,pn:=[],xe:=E' }
noncomputable def caps (cap:List Nat) (σ:St):St:=cap.map λ j=>(σ[j]?).join
noncomputable def zdo (X:Cx) (scope:Scope) (N':List Str) (nt:Nat) (cap:List Nat):Bool :=
 (N'.length == nt+cap.length) && ((List.range cap.length).all λ j=>match cap[j]?,N'[nt+j]? with
  | some i,some x=>X.N[i]? == some x && scope.names.lookup x == some .free
  | _,_=>false)
section
variable {X:Cx}
theorem zrl {scope:Scope} {N':List Str} {nt:Nat} {cap:List Nat} (h:zdo X scope N' nt cap=true):N'.length=nt+cap.length∧∀ j i,cap[j]? = some i→∃ x,N'[nt+j]? = some x∧X.N[i]? = some x∧scope.names.lookup x=some .free:=by
 unfold zdo at h
 simp only [Bool.and_eq_true,List.all_eq_true,beq_iff_eq] at h
 refine ⟨h.1,λ j i e=>?_⟩
 have hj:j<cap.length:=(List.getElem?_eq_some_iff.mp e).1
 have q:=h.2 j (List.mem_range.mpr hj)
 rw [e] at q
 cases q2:N'[nt+j]? with
 | none=>rw [q2] at q;simp at q
 | some x =>
  rw [q2] at q
  simp only [Bool.and_eq_true,beq_iff_eq] at q
  exact ⟨x,rfl,q.1,q.2⟩
theorem zyi {pins:List (Addr×Obj)} {σ:St} {H:Hp} {s3:Shared} {scope:Scope} {fp:List Addr} {N':List Str} {nt:Nat} {cap:List Nat} {h4:Heap} {t4:Nat} {E':Value→Shared→Prop} {m:Str→Option Value}
  (I:Inv X pins σ H s3) (hk:scope.kind = .function) (hb:zvd scope X.env=true) (hc:zdo X scope N' nt cap=true) (hf:∀ b∈fp,FpOk X pins H b) (hfl:∀ b∈fp,b<s3.heap.objs.size)
  (hn:h4.Ns s3.heap.objs.size m) (kp:∀ b o,s3.heap.get? b=some o→h4.get? b=some o) :
  Inv (X.comp scope s3.heap.objs.size s3 H fp N' E') [] (List.replicate nt none++caps cap σ) H { s3 with heap:=h4,toks:=t4 }:=by
 obtain ⟨hlen,hcap⟩:=zrl hc
 have cin:∀ x c,(clOf scope X.env).lookup x=some c→X.env.cells.lookup x=some c:=λ x c e=>zyr scope.names [] (λ y d q=>by simp at q) e
 have kin:∀ x,((X.comp scope s3.heap.objs.size s3 H fp N' E').env.kindOf x=some .cell ∨ (X.comp scope s3.heap.objs.size s3 H fp N' E').env.kindOf x=some .free)→scope.names.lookup x=some .free:=λ x hx=>by
  have one:∀ k,(k=NameKind.cell ∨ k=NameKind.free)→(X.comp scope s3.heap.objs.size s3 H fp N' E').env.kindOf x=some k→scope.names.lookup x=some .free:=λ k hk' e=>by
   rcases zic (env:=X.env) (names:=scope.names) (x:=x) (k:=k) e with z | z
   ·rcases hk' with rfl | rfl
    ·exact absurd rfl (zyd hb _ (PySem.mem_of_lookup z))
    ·exact z
   ·exact z.1
  rcases hx with hx | hx
  ·exact one _ (.inl rfl) hx
  ·exact one _ (.inr rfl) hx
 have has:∀ x,scope.names.lookup x=some .free→∃ c,X.env.cells.lookup x=some c∧(clOf scope X.env).lookup x=some c:=λ x hx=>by
  have hm:=PySem.mem_of_lookup hx
  obtain ⟨c,e⟩:=I.ok.has x (zqc hb _ hm rfl)
  exact ⟨c,e,zao e _ _ hm⟩
 refine ⟨⟨I.ok.mod,hk,I.ok.glob,I.ok.blt,Nat.le_refl _,λ x y c e1 e2=>I.ok.inj x y c (cin x c e1) (cin y c e2),λ x hx=>?_,λ x c z _=>absurd z Bool.false_ne_true,I.ok.hd,I.ok.frames,.inl rfl,λ b hb'=>⟨Nat.ne_of_lt (hfl b hb'),λ x c e=>(hf b hb').2.2.2.2.1 x c (cin x c e)⟩,
  I.bs,Nat.le_trans I.ok.bsz I.sz,λ b o e hb'=>?_,λ b hb' hs=>?_,I.stack,I.stkFree⟩,rfl,I.bare,Un.kept kp,⟨m,hn,λ i x v h1 h2 h3=>?_⟩,λ x c e=>?_,I.hok.fresh (Nat.le_refl _),λ x c e=>I.freeC x c (cin x c e),λ p hp=>absurd hp (by simp [Cx.comp]),I.hok.kept kp,?_⟩
 ·obtain ⟨c,_,e⟩:=has x (kin x hx)
  exact ⟨c,e⟩
 ·rcases (hf b hb').2.2.2.1 with z | z
  ·exact I.ok.noex b o e z
  ·exact absurd (Nat.lt_of_lt_of_le (Heap.lt_size e) (Nat.le_trans I.ok.bsz z)) (Nat.lt_irrefl _)
 ·rcases List.mem_cons.mp (I.stkSub b hs) with z | z
  ·exact (hf b hb').2.1 z
  ·exact (hf b hb').2.2.1 z
 ·have hge:nt≤i:=by
   by_cases hlt:i<nt
   ·rw [List.getElem?_append_left (by simpa using hlt),List.getElem?_replicate] at h2
    split at h2 <;> cases h2
   ·omega
  obtain ⟨j,rfl⟩:∃ j,i=nt+j:=⟨i - nt,by omega⟩
  rw [List.getElem?_append_right (by simp),List.length_replicate,Nat.add_sub_cancel_left] at h2
  unfold caps at h2
  rw [List.getElem?_map] at h2
  cases ej:cap[j]? with
  | none=>rw [ej] at h2;cases h2
  | some i' =>
   rw [ej] at h2
   have h2':(σ[i']?).join=some v:=Option.some.inj h2
   obtain ⟨x',e1,e2,e3⟩:=hcap j i' ej
   have:x'=x:=by
    have h1':N'[nt+j]? = some x:=h1
    rw [e1] at h1';exact Option.some.inj h1'
   subst this
   have hσ:σ[i']? = some (some v):=by
    cases q:σ[i']? with
    | none=>rw [q] at h2';cases h2'
    | some o=>rw [q] at h2';exact congrArg some h2'
   have hkx:=zqc hb _ (PySem.mem_of_lookup e3) rfl
   obtain ⟨m',hn',hl'⟩:=I.loc
   obtain ⟨u,ru,lk⟩:=hl' i' x' v e2 hσ (hkx.elim (λ z=>.inr (.inl z)) λ z=>.inr (.inr z))
   refine ⟨u,ru,.inr ⟨?_,?_⟩⟩
   ·obtain ⟨k,ek,hk'⟩:=zad (env:=X.env) e3
    rcases hk' with rfl | rfl
    ·exact .inl ek
    ·exact .inr ek
   ·rcases lk with ⟨kl,_⟩ | ⟨_,c,ec,icell⟩
    ·rcases hkx with z | z <;> (rw [kl] at z;cases z)
    ·exact ⟨c,zao ec _ _ (PySem.mem_of_lookup e3),icell.keeps kp⟩
 ·obtain ⟨v,z⟩:=I.cell x c (cin x c e)
  exact ⟨v,z.keeps kp⟩
 ·show (List.replicate nt none++caps cap σ).length=N'.length
  rw [hlen]
  simp [caps]
end
end L2
namespace L2
open PySem PySem.Spec PyProof.Rows
section
variable {prog:Program} {w:World} {A:Around} {E:Value→Shared→Prop} {R:Result→Shared→Prop} {s:Shared}
theorem zpf {elt target iter:Expr} {ifs:List Expr} {scope:Scope} {pos:Pos} {it acc:Value} {env:Env} (I:Nat→Shared→Prop)
  (turn:∀ n s,I n s→wpAny (model prog w) A (pyNext it) (λ r s₁=>match r with
   | none=>R (.ok .next) s₁
   | some v=>wpAny (model prog w) A (letOwnedTupleGo target it v) (λ _ s₁'=>wpAny (model prog w) A (assign target env v) (λ _ s₂ =>
     wpAny (model prog w) A (forIn ifs true λ c r=>if r=true then do let ok ← isTrue c env (eval c env);pure (ForInStep.yield ok) else pure (ForInStep.yield r)) (λ ok s₃ =>
      if ok=true then wpAny (model prog w) A (eval elt env) (λ x s₄ =>
       wpAny (model prog w) A (call (.builtin "list.append") [acc,x]) (λ _ s₅=>∃ m,m<n∧I m s₅) (notedBy (model prog w) A env λ e s'=>R (.error e) s') s₄) (notedBy (model prog w) A env λ e s'=>R (.error e) s') s₃
      else ∃ m,m<n∧I m s₃) (notedBy (model prog w) A env λ e s'=>R (.error e) s') s₂) (notedBy (model prog w) A env λ e s'=>R (.error e) s') s₁') (notedBy (model prog w) A env λ e s'=>R (.error e) s') s₁) (notedBy (model prog w) A env λ e s'=>R (.error e) s') s)
  (n:Nat) (h:I n s):codeAny (model prog w) A (.compLoop (.ListComp elt [⟨target,iter,ifs,0⟩] scope pos) 0 it acc env) R s:=by
 refine codeAny_loop rfl I (λ n s hI=>?_) n h
 show wpAny _ A ((compTurn (.ListComp elt [⟨target,iter,ifs,0⟩] scope pos) 0 it acc env).onRaise (λ x=>do noteFrame x env;theTreesLotGoes x)) _ _ s
 refine wpAny_noted ?_
 rw [compTurn_list]
 refine wpAny_bind (wpAny_standAt (wpAny_bind (wpAny_mono (turn n s hI) (λ r s₁ h₁=>?_) λ _ _ h'=>h')))
 cases r with
 | none=>exact wpAny_pure h₁
 | some v =>
  refine wpAny_bind (wpAny_mono h₁ (λ _ s₁' h₁'=>?_) λ _ _ h'=>h')
  refine wpAny_bind (wpAny_mono h₁' (λ _ s₂ h₂=>wpAny_bind (wpAny_mono h₂ (λ ok s₃ h₃=>?_) λ _ _ h'=>h')) λ _ _ h'=>h')
  cases ok with
  | false=>exact wpAny_pure ⟨rfl,h₃⟩
  | true =>
   exact wpAny_bind (wpAny_bind (wpAny_mono h₃ (λ x s₄ h₄=>wpAny_bind (wpAny_mono h₄ (λ _ s₅ h₅=>wpAny_pure (wpAny_pure ⟨rfl,h₅⟩)) λ _ _ h'=>h')) λ _ _ h'=>h'))
end
structure PIf (X:Cx) (ifs:List Expr) (t:TT):Prop where
 run :
 ∀ (pins:List (Addr×Obj)) (s:Shared) (σ:St) (H:Hp) (Q:Bool→Hp→Prop),Inv X pins σ H s→t σ H Q →
  wpAny (model X.prog X.w) X.A (forIn ifs true λ c r=>if r=true then do let ok ← isTrue c X.env (eval c X.env);pure (ForInStep.yield ok) else pure (ForInStep.yield r)) (TP X pins σ Q) X.xe s
noncomputable instance {X:Cx} {ifs:List Expr} {t:TT}:CoeFun (PIf X ifs t) (λ _ =>
 ∀ (pins:List (Addr×Obj)) (s:Shared) (σ:St) (H:Hp) (Q:Bool→Hp→Prop),Inv X pins σ H s→t σ H Q →
  wpAny (model X.prog X.w) X.A (forIn ifs true λ c r=>if r=true then do let ok ← isTrue c X.env (eval c X.env);pure (ForInStep.yield ok) else pure (ForInStep.yield r)) (TP X pins σ Q) X.xe s
 ):=⟨λ h=>h.run⟩
noncomputable def tYes:TT:=λ _ H Q=>Q true H
noncomputable def zmr (J:It) (D:Addr) (nt:Nat) (cap:List Nat) (g:TG) (ti:TT) (te:TE) (σ:St) (H1:Hp) (Q:VK):Prop:=∃ W:Nat→Nat→List V→Hp→Prop,(∃ m,W 0 m [] (upd H1 D (.lst []))) ∧
 ∀ i m ys H2,W i m ys H2→H2 D=some (.lst ys)∧((J.stop i H2∧Q (.ref D) H2) ∨ (J.go i H2∧ys.length<sizeLine∧∀ x H3,J.yld i H2 x H3→g x (List.replicate nt none++caps cap σ) H3 λ σ4 H4=>ti σ4 H4 λ b H5 =>
  if b=true then te σ4 H5 λ y H6=>H6 D=some (.lst ys)∧∃ m',m'<m∧W (i+1) m' (ys++[y]) (upd H6 D (.lst (ys++[y]))) else ∃ m',m'<m∧W (i+1) m' ys H5))
noncomputable def zsv (wi:TI) (nt:Nat) (cap:List Nat) (g:TG) (ti:TT) (te:TE):TE:=λ σ H Q=>wi σ H λ J H1=>∀ D,H1 D=none→zmr J D nt cap g ti te σ H1 Q
noncomputable def zci (nt:Nat) (g:TG):Prop:=∀ (x:V) (c:St) (H:Hp) (Q:St→Hp→Prop),g x (List.replicate nt none++c) H Q →
 g x (List.replicate nt none++c) H λ σ' H'=>Q σ' H'∧∀ (j:Nat) v,(List.replicate nt none++c)[j]? = some (some v)→σ'[j]? = some (some v)
theorem gk1:zci 1 (zcq 0):=λ x c H Q h=>⟨h,λ j v e=>by
 cases j with
 | zero=>simp at e
 | succ j=>simpa using e⟩
theorem gk2 {K:W.Frag}:zci 2 (gTup K 2 (zpr (zcq 0) (zpr (zcq 1) gNil))):=λ x c H Q h=>by
 obtain ⟨a,xs,e1,hq,hl,v,r,e2,v',r',e3,e4,h⟩:=h
 refine ⟨a,xs,e1,hq,hl,v,r,e2,v',r',e3,e4,h,λ j v e=>?_⟩
 match j,e with
 | 0,e=>simp [List.replicate] at e
 | 1,e=>simp [List.replicate] at e
 | j+2,e=>simpa [List.replicate,List.set] using e
section
variable {X:Cx}
theorem ztc:PIf X [] tYes := .mk <| λ _ _ _ H _ I h=>wpAny_tests_nil ⟨H,I,h⟩
theorem zfg {pins pins':List (Addr×Obj)} {σ σ':St} {H H':Hp} {s3 s':Shared} {scope:Scope} {fp:List Addr} {N':List Str} {E':Value→Shared→Prop}
  (I3:Inv X pins σ H s3) (hf:∀ b∈fp,FpOk X pins H b) (I':Inv (X.comp scope s3.heap.objs.size s3 H fp N' E') pins' σ' H' s'):Inv X pins σ H' s':=by
 refine I3.call' (ch:=fp) I'.os I'.base I'.hok I'.bare λ b hb=>?_
 obtain ⟨f0,f1,f2,f3,f4,f5⟩:=hf b hb
 exact ⟨f3,f1,f4,f5⟩
theorem zhg {elt tg iter:Expr} {ifs:List Expr} {scope:Scope} {pos:Pos} {N':List Str} {nt:Nat} {cap:List Nat} {wi:TI} {g:TG} {ti:TT} {te:TE}
  (EK:Addr→Shared→Hp→List Addr→(Value→Shared→Prop)→Prop)
  (hE:∀ (pins:List (Addr×Obj)) (σ:St) (s3:Shared) (H3:Hp) (fp:List Addr) (Q:VK) (D:Addr),Inv X pins σ H3 s3→(∀ b∈fp,FpOk X pins H3 b) →
   EK s3.heap.objs.size s3 H3 fp (notedBy (model X.prog X.w) X.A (compEnvC scope (clOf scope X.env) s3.heap.objs.size X.env) λ e s'=>compPost (model X.prog X.w) X.A X.xe none (EP X pins σ Q) (.ref D) s3.heap.objs.size (.error e) s'))
  (hc:X.calm=true) (hi:PI X tg iter wi)
  (hg:∀ C s₀ H₀ fp E',EK C s₀ H₀ fp E'→PG (X.comp scope C s₀ H₀ fp N' E') tg g)
  (hif:∀ C s₀ H₀ fp E',EK C s₀ H₀ fp E'→PIf (X.comp scope C s₀ H₀ fp N' E') ifs ti)
  (he:∀ C s₀ H₀ fp E',EK C s₀ H₀ fp E'→PE (X.comp scope C s₀ H₀ fp N' E') elt te)
  (hk:scope.kind = .function) (hb:zvd scope X.env=true) (hcap:zdo X scope N' nt cap=true)
  (hgk:zci nt g) (hs:∀ x,foldedSetIterable iter X.env x=pure x):PE X (.ListComp elt [⟨tg,iter,ifs,0⟩] scope pos) (zsv wi nt cap g ti te) := .mk <| by
 intro pins s σ H Q I h
 rw [eval_ListComp]
 have hclos:closureFor scope X.env=pure (clOf scope X.env):=zgj λ p hp e=>I.ok.has p.1 (zqc hb p hp e)
 refine wpAny_comprehension_free (use:=none) rfl hs hclos hk (zrf hb) (thn (hi pins s σ H _ I h) λ v s1 h1=>thn h1 λ itv s2 h2=>?_)
 obtain ⟨it,fp,tn,J,H2,e,I2,T,st2,f2,q2⟩:=h2
 subst e
 refine wpAny_newObj_type (wpAny_newFunctionEnv (zyd hb) (by intro y hy;simp at hy) (λ h₁ hns₁ hsb₁=>?_) hk)
 have I3:=I2.lnew (ys:=[]) (its:=[]) (t':=s2.toks) .nil (Nat.zero_le _)
 have hfl:∀ b∈fp,b<s2.heap.objs.size:=λ b hb'=>let ⟨o,e,_⟩:=T.obj 0 _ st2 b hb';Heap.lt_size e
 obtain ⟨W,⟨m0,w0⟩,turn⟩:=q2 s2.heap.objs.size (I2.hok.fresh (Nat.le_refl _))
 have nD:∀ b∈fp,b≠s2.heap.objs.size:=λ b hb'=>Nat.ne_of_lt (hfl b hb')
 have f3:∀ b∈fp,FpOk X pins (upd H2 s2.heap.objs.size (.lst [])) b:=λ b hb'=>⟨by rw [zva (nD b hb')];exact (f2 b hb').1,(f2 b hb').2⟩
 obtain ⟨s3,hs3⟩:∃ s3:Shared,s3={ s2 with heap:=s2.heap.push { cls := .type "list",data := .seq ([]:List Value).toArray },toks:=s2.toks }:=⟨_,rfl⟩
 have hs3':s3.heap=s2.heap.push { cls := .type "list",data := .seq ([]:List Value).toArray }:=by rw [hs3]
 rw [← hs3] at I3
 have hsz:s3.heap.objs.size=s2.heap.objs.size+1:=by rw [hs3',Heap.size_push]
 have hfl3:∀ b∈fp,b<s3.heap.objs.size:=λ b hb'=>by rw [hsz];exact Nat.lt_succ_of_lt (hfl b hb')
 have hC:(s2.heap.push { cls:=Value.type "list",dict:=none,data:=Data.seq ([]:List Value).toArray }).objs.size=s3.heap.objs.size:=by rw [hs3']
 dsimp only at hns₁ hsb₁ ⊢
 rw [hC] at hns₁ hsb₁ ⊢
 rw [← hs3'] at hsb₁
 have kp:∀ b o,s3.heap.get? b=some o→h₁.get? b=some o:=λ b o e=>hsb₁.extBut b o (Nat.ne_of_lt (Heap.lt_size e)) (Heap.get?_push_of_some _ e)
 have hEE:=hE pins σ s3 _ fp Q s2.heap.objs.size I3 f3
 generalize hE':(notedBy (model X.prog X.w) X.A (compEnvC scope (clOf scope X.env) s3.heap.objs.size X.env) λ e s'=>compPost (model X.prog X.w) X.A X.xe none (EP X pins σ Q) (.ref s2.heap.objs.size) s3.heap.objs.size (.error e) s')=E' at hEE
 have I4:=zyi (t4:=s2.toks+([]:List (Str×Value)).length) (E':=E') I3 hk hb hcap f3 hfl3 hns₁ kp
 have st4:tn 0 h₁:=T.keep 0 _ _ st2 λ b hb' o e=>kp b o (by rw [hs3'];exact Heap.get?_push_of_some _ e)
 obtain ⟨s4,hs4⟩:∃ s4:Shared,s4={ s3 with heap:=h₁,toks:=s2.toks+([]:List (Str×Value)).length }:=⟨_,rfl⟩
 rw [← hs4] at I4
 have st4':tn 0 s4.heap:=by rw [hs4];exact st4
 have cin:∀ x c,(clOf scope X.env).lookup x=some c→X.env.cells.lookup x=some c:=λ x c e=>zyr scope.names [] (λ y d q=>by simp at q) e
 have stat:∀ {H':Hp},(∀ b∈fp,H' b=none)→∀ b∈fp,FpOk (X.comp scope s3.heap.objs.size s3 (upd H2 s2.heap.objs.size (.lst [])) fp N' E') [] H' b:=λ hn b hb'=>by
  refine ⟨hn b hb',Nat.ne_of_lt (hfl3 b hb'),λ z=>?_,.inl hb',λ x c e=>(f3 b hb').2.2.2.2.1 x c (cin x c e),λ p hp=>absurd hp (by simp [Cx.comp])⟩
  rcases List.mem_cons.mp (I3.stkSub b z) with z | z
  ·exact (f3 b hb').2.1 z
  ·exact (f3 b hb').2.2.1 z
 have loop:codeAny (model X.prog X.w) X.A (.compLoop (.ListComp elt [⟨tg,iter,ifs,0⟩] scope pos) 0 (.ref it) (.ref s2.heap.objs.size) (compEnvC scope (clOf scope X.env) s3.heap.objs.size X.env))
   (compPost (model X.prog X.w) X.A X.xe none (EP X pins σ Q) (.ref s2.heap.objs.size) s3.heap.objs.size) s4:=by
  refine zpf (λ n s'=>∃ i ys H',Inv (X.comp scope s3.heap.objs.size s3 (upd H2 s2.heap.objs.size (.lst [])) fp N' E') [] (List.replicate nt none++caps cap σ) H' s'∧tn i s'.heap∧(∀ b∈fp,H' b=none)∧W i n ys H') ?_ m0
   ⟨0,[],_,I4,st4',λ b hb'=>(f3 b hb').1,w0⟩
  rintro n s5 ⟨i,ys,H5,I5,st5,fr5,w5⟩
  rw [hE']
  obtain ⟨hD5,alt⟩:=turn i n ys H5 w5
  rcases alt with ⟨stop,qn⟩ | ⟨go,hyl,step⟩
  ·refine thn (T.done (X.comp scope s3.heap.objs.size s3 (upd H2 s2.heap.objs.size (.lst [])) fp N' E') rfl rfl rfl hc i [] s5 _ H5 E' I5 (stat fr5) st5 stop) λ r s6 ⟨hr,I6⟩=>?_
   subst hr
   obtain ⟨m6,hn6,_⟩:=I6.loc
   refine ⟨m6,hn6,λ h' hsb'=>?_⟩
   have I7:=zfg I3 f3 I6
   refine ⟨.ref s2.heap.objs.size,H5,?_,rfl,qn⟩
   refine I7.turnedL (ch:=[s3.heap.objs.size]) (t':=s6.toks) (λ b hb'=>?_) λ b u hb' e=>(hsb'.2 b λ z=>hb' (by simp [z])).trans e
   have eb:b=s3.heap.objs.size:=by simpa using hb'
   subst eb
   exact I3.fpOk (Nat.le_refl _) I6.free
  ·refine thn (T.item (X.comp scope s3.heap.objs.size s3 (upd H2 s2.heap.objs.size (.lst [])) fp N' E') rfl rfl rfl hc i [] s5 _ H5 E' I5 (stat fr5) st5 go) λ r s6 ⟨u,hr,h6⟩=>?_
   subst hr
   refine thn h6 λ _ s7 ⟨x,H7,I7,r7,y7,st7,fr7⟩=>?_
   have I7':=I7.pinned (stat fr7) (T.obj _ _ st7)
   have again:∀ {σ8:St} {H8:Hp} {ys':List V} {s8:Shared},Inv (X.comp scope s3.heap.objs.size s3 (upd H2 s2.heap.objs.size (.lst [])) fp N' E') ([]++zri fp s7.heap) σ8 H8 s8→(∃ m',m'<n∧W (i+1) m' ys' H8)→(∀ (j:Nat) v,(List.replicate nt none++caps cap σ)[j]? = some (some v)→σ8[j]? = some (some v)) →
     ∃ m,m<n∧∃ i ys H',Inv (X.comp scope s3.heap.objs.size s3 (upd H2 s2.heap.objs.size (.lst [])) fp N' E') [] (List.replicate nt none++caps cap σ) H' s8∧tn i s8.heap∧(∀ b∈fp,H' b=none)∧W i m ys H':=fun {σ8 H8 ys' s8} I8 ⟨m',hm,w8⟩ hσ=>by
    refine ⟨m',hm,i+1,ys',H8,I8.unpinned.weak (by rw [I8.len,I5.len]) hσ,T.keep _ _ _ st7 λ b hb o e=>(I8.pin (b,o) (List.mem_append_right _ (List.mem_append_right _ (zjc hb e)))).1,λ b hb=>?_,w8⟩
    obtain ⟨o,e,d⟩:=T.obj _ _ st7 b hb
    exact (I8.pin (b,o) (List.mem_append_right _ (List.mem_append_right _ (zjc hb e)))).2.1
   refine thn (hg _ _ _ _ _ hEE _ s7 _ H7 x u _ I7' r7 (hgk x _ H7 _ (step x H7 y7))) λ _ s8 ⟨σ8,H8,I8,q8,hσ⟩=>?_
   refine thn (hif _ _ _ _ _ hEE _ s8 σ8 H8 _ I8 q8) λ ok s9 ⟨H9,I9,q9⟩=>?_
   cases ok with
   | false =>
    rw [if_neg Bool.false_ne_true] at q9 ⊢
    exact again I9 q9 hσ
   | true =>
    rw [if_pos rfl] at q9 ⊢
    refine thn (he _ _ _ _ _ hEE _ s9 σ8 H9 _ I9 q9) λ y s10 ⟨vy,H10,I10,r10,hD10,hm10⟩=>?_
    exact thn (zmk (X:=X.comp scope s3.heap.objs.size s3 (upd H2 s2.heap.objs.size (.lst [])) fp N' E') _ s10 σ8 H10 (.ref s2.heap.objs.size) [vy] (.ref s2.heap.objs.size) [y] (λ _ H'=>H'=upd H10 s2.heap.objs.size (.lst (ys++[vy]))) I10 rfl (.cons r10 .nil) ⟨_,_,_,rfl,rfl,hD10,hyl,rfl⟩) λ _ s11 ⟨_,H11,I11,_,e11⟩=>by
     subst e11
     exact again I11 hm10 hσ
 have e4:({ s2 with heap:=h₁,toks:=s2.toks+([]:List (Str×Value)).length }:Shared)=s4:=by rw [hs4,hs3]
 show codeAny _ _ _ _ { s2 with heap:=h₁,toks:=s2.toks+([]:List (Str×Value)).length }
 rw [e4]
 exact codeAny_compStart_list loop (T.self X.A 0 s4 _ _ st4' loop)
theorem zsl {elt tg iter:Expr} {ifs:List Expr} {scope:Scope} {pos:Pos} {wi:TI} {g:TG} {ti:TT} {te:TE} (N':List Str) (nt:Nat) (cap:List Nat)
  (hc:X.calm=true) (hi:PI X tg iter wi) (hgk:zci nt g)
  (hg:∀ C s₀ H₀ fp E',PG (X.comp scope C s₀ H₀ fp N' E') tg g)
  (hif:∀ C s₀ H₀ fp E',PIf (X.comp scope C s₀ H₀ fp N' E') ifs ti)
  (he:∀ C s₀ H₀ fp E',PE (X.comp scope C s₀ H₀ fp N' E') elt te)
  (hk:scope.kind = .function:=by rfl) (hb:zvd scope X.env=true:=by rfl) (hcap:zdo X scope N' nt cap=true:=by rfl)
  (hs:∀ x,foldedSetIterable iter X.env x=pure x:=by intro _;rfl):PE X (.ListComp elt [⟨tg,iter,ifs,0⟩] scope pos) (zsv wi nt cap g ti te) :=
 zhg (λ _ _ _ _ _=>True) (λ _ _ _ _ _ _ _ _ _=>trivial) hc hi (λ C s₀ H₀ fp E' _=>hg C s₀ H₀ fp E') (λ C s₀ H₀ fp E' _=>hif C s₀ H₀ fp E') (λ C s₀ H₀ fp E' _=>he C s₀ H₀ fp E') hk hb hcap hgk hs
end
theorem zon {x:Str} {nt:Nat} {cap:List Nat} {g:TG} {te:TE} {σ:St} {H1:Hp} {Q:VK} {D:Addr} (f:Nat→V) (hx:x.cps.size≤sizeLine)
  (step:∀ i c H2 (R:VK),x.cps[i]? = some c→(∀ y,y=f i→R y H2)→g (.str ⟨#[c]⟩) (List.replicate nt none++caps cap σ) H2 λ σ4 H4=>te σ4 H4 R)
  (fin:Q (.ref D) (upd H1 D (.lst ((List.range x.cps.size).map f)))) :
  zmr (Its x) D nt cap g tYes te σ H1 Q:=by
 refine ⟨λ i m ys H2=>m=x.cps.size - i∧i≤x.cps.size∧ys=(List.range i).map f∧H2=upd H1 D (.lst ys),⟨_,rfl,Nat.zero_le _,rfl,rfl⟩,?_⟩
 rintro i m ys H2 ⟨rfl,hi,rfl,rfl⟩
 refine ⟨upd_same,?_⟩
 by_cases hlt:i<x.cps.size
 ·refine .inr ⟨hlt,by simp;omega,λ v H3 ⟨e,c,hc,ev⟩=>?_⟩
  subst e ev
  have hst:=step i c _ (λ y H6=>H6 D=some (.lst ((List.range i).map f))∧∃ m',m'<x.cps.size - i∧(m'=x.cps.size - (i+1)∧i+1≤x.cps.size∧(List.range i).map f++[y]=(List.range (i+1)).map f∧upd H6 D (.lst ((List.range i).map f++[y]))=upd H1 D (.lst ((List.range i).map f++[y])))) hc
   (λ y ey=>⟨upd_same,_,by omega,rfl,hlt,by rw [List.range_succ,List.map_append,ey];rfl,zpq⟩)
  simp only [tYes,if_true]
  exact hst
 ·have e:i=x.cps.size:=by omega
  subst e
  exact .inl ⟨rfl,fin⟩
end L2
namespace L2
open PySem PySem.Spec PyProof.Rows
section
variable {X:Cx}
noncomputable def rSlS:V→Option Int→Option Int→Hp→VK→Prop:=λ x lo hi H Q=>∃ z,x = .str z∧z.length≤sizeLine∧Q (.str (Txt.slice z lo hi)) H
theorem zxv:SlR X rSlS:=by
 intro pins s σ H x v vl vu lo hi sl Q I rx hs pl pu h
 obtain ⟨z,rfl,hz,q⟩:=h
 obtain ⟨t,rfl⟩:=rx
 refine ⟨"str",_,F.slot_str_getitem.lookup,typeIs_str _ _ _,?_⟩
 cases pl with
 | none =>
  cases pu with
  | none=>exact wpAny_getItem_str_slice (l:=none) (u:=none) (st:=none) hs rfl (post_val_or_str ⟨Nat.le_trans (Txt.slice_le z _ _) hz,λ t' k=>⟨.str (Txt.slice z _ _),H,I.tok k,⟨t',rfl⟩,q⟩⟩)
  | int j u=>exact wpAny_getItem_str_slice (l:=none) (u:=some (j,u)) (st:=none) hs rfl (post_val_or_str ⟨Nat.le_trans (Txt.slice_le z _ _) hz,λ t' k=>⟨.str (Txt.slice z _ _),H,I.tok k,⟨t',rfl⟩,q⟩⟩)
 | int i u' =>
  cases pu with
  | none=>exact wpAny_getItem_str_slice (l:=some (i,u')) (u:=none) (st:=none) hs rfl (post_val_or_str ⟨Nat.le_trans (Txt.slice_le z _ _) hz,λ t' k=>⟨.str (Txt.slice z _ _),H,I.tok k,⟨t',rfl⟩,q⟩⟩)
  | int j u=>exact wpAny_getItem_str_slice (l:=some (i,u')) (u:=some (j,u)) (st:=none) hs rfl (post_val_or_str ⟨Nat.le_trans (Txt.slice_le z _ _) hz,λ t' k=>⟨.str (Txt.slice z _ _),H,I.tok k,⟨t',rfl⟩,q⟩⟩)
theorem zti:∀ {ys:List Str} {us:List Value},Vals (ys.map V.str) us→StrsAre us ys:=by
 intro ys
 induction ys with
 | nil=>intro us r;cases r;exact .nil
 | cons y ys ih =>
  intro us r
  cases r with
  | cons h t =>
   obtain ⟨k,rfl⟩:=h
   exact .cons y k (ih t)
noncomputable def znx (K:W.Frag):V→List V→Hp→VK→Prop:=λ x xs H Q=>∃ z p ys,x = .str z∧xs=[.ref p]∧SqL K H p (ys.map V.str)∧(ys.map (·.length)).sum+ys.length * z.length≤16777216∧Q (.str (Txt.join z ys)) H
theorem zcg:MtR X "str.join" (znx X.K):=by
 intro pins s σ H x xs v us Q I rx rv h
 obtain ⟨z,p,ys,rfl,rfl,hq,hl,q⟩:=h
 obtain ⟨t,rfl⟩:=rx
 obtain ⟨u,rfl,ru⟩:=rv.one
 cases ru
 obtain ⟨its,r,pl,_⟩:=I.list hq
 exact join_list pl.isList (zti r) hl λ t' k=>⟨.str (Txt.join z ys),H,I.tok k,⟨t',rfl⟩,q⟩
theorem zih:∀ {bs:List Bool} {us:List Value},Vals (bs.map V.bl) us→LSm.BoolsAre us bs:=by
 intro bs
 induction bs with
 | nil=>intro us r;cases r;exact .nil
 | cons b bs ih =>
  intro us r
  cases r with
  | cons h t =>
   cases h
   exact .cons b (ih t)
theorem zun (hc:X.calm=true):zlf X (.builtin "all") (λ xs H Q=>∃ (p:Addr) (bs:List Bool),xs=[.ref p]∧SqL X.K H p (bs.map V.bl)∧Q (.bl (bs.all id)) H):=by
 intro pins s σ H xs us Q I rv h
 obtain ⟨p,bs,rfl,hq,q⟩:=h
 obtain ⟨u,rfl,ru⟩:=rv.one
 cases ru
 obtain ⟨its,r,pl,_⟩:=I.list hq
 have hl:=pl.isList
 have hb:=zih r
 have hlt:p<s.heap.objs.size:=by obtain ⟨_,e,_⟩:=hl;exact Heap.lt_size e
 refine call_all_walk (wpAny_pyIter_list hl ?_)
 refine ⟨s.heap.objs.size,[s.heap.objs.size,p],[s.heap.objs.size],its.toArray.size,_,_,λ i=>(bs[i]?).getD true,rfl,Walks.list (A:=X.A.in1) (I.ok.hd hc) _ p (Nat.ne_of_lt hlt) its.toArray,
  ⟨⟨_,Heap.get?_push_size _ rfl,rfl,rfl⟩,hl.push _⟩,λ i v s' Q' E' hP hQ=>?_,λ h' tk hk=>?_⟩
 ·obtain ⟨b,e,rfl⟩:=hb.get i v (by simpa using hP)
  simp only [e,Option.getD_some] at hQ
  exact wpAny_truthy_bool hQ
 ·have e:((List.range its.toArray.size).all λ i=>(bs[i]?).getD true)=bs.all id:=by
   rw [List.size_toArray,hb.length];exact LSm.range_all bs
  rw [e]
  exact ⟨.bl (bs.all id),H,I.kept (LSm.kept_iter hk),rfl,q⟩
end
end L2
namespace L2
open PySem PySem.Spec PyProof.Rows
noncomputable def okHO:HO→Prop
 | .dT _=>False
 | .frz _ (.lst _)=>True
 | .frz _ _=>False
 | _=>True
noncomputable def Plain (H:Hp):Prop:=∀ a o,H a=some o→okHO o
theorem Plain.upd {H:Hp} {l:Addr} {o:HO} (p:Plain H) (h:okHO o):Plain (upd H l o):=λ a u e=>by
 by_cases ha:a=l
 ·subst ha;rw [upd_same] at e;cases e;exact h
 ·rw [zva ha] at e;exact p a u e
theorem Plain.lst {H:Hp} {l:Addr} {xs:List V} (p:Plain H):Plain (L2.upd H l (.lst xs)):=p.upd trivial
theorem Plain.tup {H:Hp} {l:Addr} {xs:List V} (p:Plain H):Plain (L2.upd H l (.tup xs)):=p.upd trivial
theorem Only.plain {H:Hp} (h:Only H):Plain H:=λ a o e=>by
 rcases h a with z | ⟨o',xs,z⟩
 ·rw [z] at e;cases e
 ·rw [z] at e;cases e;exact trivial
structure Cut (H H' H'':Hp):Prop where
 sub:∀ b o,H'' b=some o→H' b=some o
 old:∀ b o,H b=some o→H'' b=H' b
 ins:∀ a C dx fs,H'' a=some (.ins C dx fs)→H'' dx=some (.own a)
 plain:Plain H''
theorem Cut.un {fs:List Addr} {H H' H'':Hp} {h h':Heap} (c:Cut H H' H'') (u:Un fs [] H H' h h'):Un fs [] H H'' h h' where
 keep:=u.keep
 slot:=u.slot
 free:=λ b o e n hx=>by
  have:=u.free b o e n hx
  cases q:H'' b with
  | none=>rfl
  | some z=>rw [c.sub b z q] at this;cases this
 there:=u.there
 tups:=λ b xs e=>by rw [c.old b _ e];exact u.tups b xs e
 frzs:=λ b o z e=>by rw [c.old b _ e];exact u.frzs b o z e
 tbls:=λ b ps e=>by rw [c.old b _ e];exact u.tbls b ps e
theorem Cut.hok {P:Program} {w:World} {H H' H'':Hp} {h:Heap} (c:Cut H H' H'') (k:HOk P w H' h):HOk P w H'' h:=λ a o e=>by
 have q:=k a o (c.sub a o e)
 cases o with
 | ins C dx fs =>
  obtain ⟨d,r⟩:=q
  exact ⟨c.ins a C dx fs e,r⟩
 | dT kvs=>exact (c.plain a _ e).elim
 | frz ob u =>
  have z:=c.plain a _ e
  cases u with
  | lst xs=>exact q
  | _=>exact z.elim
 | lst xs=>exact q
 | tup xs=>exact q
 | dK kvs=>exact q
 | set S n=>exact q
 | own x=>exact q
 | xd fs=>exact q
 | met f x=>exact q
 | rng lo hi=>exact q
 | tbl ps=>exact q
 | ext φ=>exact q
section
variable {P:Program} {w:World} {K:W.Frag} {mg:Str→Option Value} {base:Heap} {CX:CXT} {k:Nat} {f:Addr} {fd:FuncData} {ps:List Str}
theorem FnOk.cut {sp:Sp} (F:FnOk P w K mg base CX k f fd ps sp) :
  FnOk P w K mg base CX k f fd ps (λ vs H Q E=>sp vs H (λ v H'=>∃ H'',((∀ a C dx fs,H a=some (.ins C dx fs)→H dx=some (.own a))→Cut H H' H'')∧Q v H'') E) :=
 ⟨λ vs H Q E h=>F.len vs H _ E h,λ A outer s H args us vs Q E hr he hb hv h=>by
  refine codeAny_mono (F.run A outer s H args us vs _ E hr he hb hv h) λ r s' q=>?_
  cases r with
  | error e=>exact q
  | ok fl =>
   cases fl with
   | ret u =>
    obtain ⟨v,H',os,bare,un,hok,rv,H'',hc,q⟩:=q
    have c:=hc λ a C dx fs e=>(he.hok a _ e).1
    exact ⟨v,H'',os,bare,c.un un,c.hok hok,rv,q⟩
   | _=>exact q⟩
noncomputable def zhh {α:Type} (Pre:α→List V→Prop) (Post:α→V→Prop):Sp:=λ vs H Q _=>Plain H∧∃ a,Pre a vs∧∀ v,Post a v→Q v H
noncomputable def zjy {α:Type} (Pre:α→List V→Prop) (Post:α→V→Prop):Sp:=λ vs H Q _=>Plain H∧∃ a,Pre a vs∧∀ v H',Post a v→Same H H'→Q v H'
theorem FnOk.pure {α:Type} {Pre:α→List V→Prop} {Post:α→V→Prop} (F:FnOk P w K mg base CX k f fd ps (zjy Pre Post)):FnOk P w K mg base CX k f fd ps (zhh Pre Post) :=
 F.cut.imp λ vs H Q E ⟨hp,a,ha,q⟩=>⟨hp,a,ha,λ v H' hv hs=>⟨H,λ hi=>⟨hs,λ b o e=>by rw [e,hs b o e],hi,hp⟩,q v hv⟩⟩
end
theorem Same.upd {H H':Hp} {l:Addr} {o:HO} (s:Same H H') (hl:H l=none):Same H (L2.upd H' l o):=λ b z e=>by
 rw [zva (zab e hl)];exact s b z e
theorem zfa {H:Hp} {l:Addr} {o:HO} (hl:H l=none):Same H (upd H l o):=(Same.refl H).upd hl
theorem znb {p:Prop} [Decidable p] {A B:Prop} (h1:p→A) (h2:¬ p→B):if decide p=true then A else B:=by
 by_cases h:p
 ·rw [if_pos (decide_eq_true h)];exact h1 h
 ·rw [if_neg (by simpa using h)];exact h2 h
theorem ztr {p:Prop} [Decidable p] {A B:Prop} (h1:¬ p→A) (h2:p→B):if (!decide p)=true then A else B:=by
 by_cases h:p
 ·rw [if_neg (by simpa using h)];exact h2 h
 ·rw [if_pos (by simpa using h)];exact h1 h
theorem zxx {b:Bool} {A B:Prop} (h1:b=true→A) (h2:b=false→B):if b=true then A else B:=by
 cases b
 ·rw [if_neg Bool.false_ne_true];exact h2 rfl
 ·rw [if_pos rfl];exact h1 rfl
theorem join {α:Type} {ok G:α→Prop} {C:Prop} (h1:(∀ z,ok z→G z)→C) (h2:∀ z,ok z→G z):C:=h1 h2
theorem zla (x y:Str):(x++y).length=x.length+y.length:=Array.size_append
theorem zmq {ns:List Int} {lo hi:Option Int} {i:Nat} {x:V} (h:(cutV (ns.map V.int) lo hi)[i]? = some x):∃ n,x=V.int n:=by
 have hm:=List.mem_of_getElem? h
 unfold cutV at hm
 have hm:=List.mem_of_mem_drop (List.mem_of_mem_take hm)
 obtain ⟨n,_,e⟩:=List.mem_map.mp hm
 exact ⟨n,e.symm⟩
end L2
namespace L2
open PySem PySem.Spec PyProof.Rows
structure Fly (new:Addr→Prop) (H:Hp) (x C:Addr) (h:Heap):Prop where
 ob:∃ oe vs,h.get? x=some oe∧oe.cls = .ref C∧oe.dict=none∧oe.data = .fields vs∧1<vs.size ∧
  (vs[1]? = some .none ∨ ∃ T oT ts,vs[1]? = some (.ref T)∧T≠x∧h.get? T=some oT∧oT.data = .fields ts∧3<ts.size∧new T∧H T=none)
 new:new x
 free:H x=none
theorem Fly.imp {n n':Addr→Prop} {H:Hp} {x C:Addr} {h:Heap} (f:Fly n H x C h) (k:∀ b,n b→n' b):Fly n' H x C h:=by
 obtain ⟨⟨oe,vs,a,b,c,d,e,g⟩,hn,hf⟩:=f
 refine ⟨⟨oe,vs,a,b,c,d,e,g.imp id ?_⟩,k _ hn,hf⟩
 rintro ⟨T,oT,ts,a,b,c,d,e,f,g⟩
 exact ⟨T,oT,ts,a,b,c,d,e,k _ f,g⟩
theorem zml (o:Obj) (f:Array Value→Array Value):(o.mapFields f).dict=o.dict:=by
 obtain ⟨c,d,dt,sl⟩:=o
 cases dt <;> rfl
section
variable {M:Model} {A:Around} {E:Value→Shared→Prop} {s:Shared}
theorem zmf {env env':Env} (h:env.frame=env'.frame):PySem.frameOf env=PySem.frameOf env':=by
 unfold PySem.frameOf
 rw [h]
theorem zfe {env env':Env} {e:Value} (h:env.frame=env'.frame):noteFrame e env=noteFrame e env':=by
 unfold noteFrame
 rw [zmf h,h]
structure Kept (x T:Addr) (frames:List Addr) (h h':Heap):Prop where
 keep:∀ b o,b≠x→b≠T→b∉frames→h.get? b=some o→h'.get? b=some o
 slot:∀ b o,b≠x→b≠T→h.get? b=some o→∃ sl,h'.get? b=some { o with slots:=sl }
theorem zsg {base:Heap} {env:Env} {outer:List Env} {L x:Addr} {oe:Obj} {vs:Array Value} {head:Value} {hadNext:Bool} {Q:Unit→Shared→Prop}
  (hfr:A.frames=some (env::outer)) (hl:s.heap.FunFrames base (env::outer)) (hf:env.frame=some L)
  (he:s.heap.get? x=some oe) (hd:oe.data = .fields vs) (hz:1<vs.size)
  (h:∀ h' T,(∃ oe' vs',h'.get? x=some oe'∧oe'.cls=oe.cls∧oe'.dict=oe.dict∧oe'.data = .fields vs'∧1<vs'.size∧vs'[1]? = some (.ref T))→(∃ oT ts,h'.get? T=some oT∧oT.data = .fields ts∧3<ts.size)→s.heap.objs.size≤T →
   Kept x x (frs (env::outer)) s.heap h'→Q () { s with heap:=h' }) :
  wpAny M A (do let a ← PySem.frameOf env;let pl ← entryPlaceOf L hadNext;let b ← EntryCells.newEntry head a .none (rawInt L) .none pl;setField (.ref x) 1 b) Q E s:=by
 have xnf:x∉(env::outer).filterMap (·.frame):=λ hm=>by
  obtain ⟨_,o,ho,hnf⟩:=hl.mem hm
  rw [he] at ho
  cases ho
  exact hnf vs hd
 refine wpAny_bind (wpAny_frameOf_fun hfr hl hf λ h1 g1=>?_)
 refine wpAny_bind (wpAny_entryPlaceOf λ pl hpl=>?_)
 unfold EntryCells.newEntry newFields
 refine wpAny_bind (wpAny_newObj_type ?_ (hpl.sizeOk5 _ _ _ _ _))
 have e1:h1.get? x=some oe:=(g1.2.1 x xnf).trans he
 have lt1:x<h1.objs.size:=Heap.lt_size e1
 have e2:=Heap.get?_push_of_some (h:=h1) { cls := .type "traceback",dict:=none,data := .fields ([head,.ref L,.none,rawInt L,.none]++(if pl.isEmpty then List.replicate 6 Value.none else pl)).toArray } e1
 have dm:=Obj.data_mapFields hd (·.setIfInBounds 1 (Value.ref h1.objs.size))
 refine wpAny_setField e2 hd hz (h _ h1.objs.size ⟨_,_,Heap.get?_update_self _ e2 (Obj.isFreed_of_fields dm),Obj.cls_mapFields _ _,zml _ _,dm,by simpa using hz,by simp [hz]⟩
  ⟨_,_,(Heap.get?_update_other _ _ (Nat.ne_of_lt lt1)).trans (Heap.get?_push_size _ rfl),rfl,by simp only [List.size_toArray,List.length_append,List.length_cons];omega⟩ (by rw [g1.1];exact Nat.le_refl _) ⟨λ b o bx _ bf eb=>?_,λ b o bx _ eb=>?_⟩)
 ·rw [Heap.get?_update_other _ _ (Ne.symm bx)]
  exact Heap.get?_push_of_some _ ((g1.2.1 b bf).trans eb)
 ·obtain ⟨sl,q⟩:=g1.2.2 b o eb
  exact ⟨sl,by rw [Heap.get?_update_other _ _ (Ne.symm bx)];exact Heap.get?_push_of_some _ q⟩
end
section
variable {X:Cx} {σ:St} {H:Hp} {s:Shared} {x C:Addr}
noncomputable def Cx.new (X:Cx) (b:Addr):Prop:=(∀ o,X.s₀.heap.get? b=some o→b∈X.ex)∧∀ p∈X.pn,p.1≠b
theorem Inv.stepN {h':Heap} {t':Nat} {ch:List Addr} (I:Inv X [] σ H s) (hch:∀ b∈ch,X.new b∧H b=none∧b≠X.env.locals∧∀ y c,X.env.cells.lookup y=some c→c≠b)
  (keep:∀ b o,b∉ch→b∉frs X.stack→s.heap.get? b=some o→h'.get? b=some o) (slot:∀ b o,b∉ch→s.heap.get? b=some o→∃ sl,h'.get? b=some { o with slots:=sl }) :
  Inv X [] σ H { s with heap:=h',toks:=t' }:=by
 have old:∀ b o,X.s₀.heap.get? b=some o→b∉X.ex→b∉ch:=λ b o e hx hb=>hx ((hch b hb).1.1 o e)
 have neL:∀ b o,X.s₀.heap.get? b=some o→b≠X.env.locals:=λ b o e=>Nat.ne_of_lt (Nat.lt_of_lt_of_le (Heap.lt_size e) I.ok.above)
 have trk:∀ b u,H b=some u→b∉ch:=λ b u e hb=>by have:=(hch b hb).2.1;rw [e] at this;cases this
 have trs:∀ b u,H b=some u→b∉frs X.stack:=λ b u e hb=>by have:=I.stkFree b hb;rw [e] at this;cases this
 have nfs:∀ b,b≠X.env.locals→b∉X.fs→b∉frs X.stack:=λ b h1 h2 z=>(List.mem_cons.mp (I.stkSub b z)).elim h1 h2
 have cellK:∀ y c,X.env.cells.lookup y=some c→∀ v,s.heap.IsCell c v→h'.IsCell c v:=λ y c e v ⟨o,ho,hd⟩=>by
  obtain ⟨sl,q⟩:=slot c o (λ z=>(hch c z).2.2.2 y c e rfl) ho
  exact ⟨_,q,hd⟩
 refine ⟨I.ok,I.os,I.bare,⟨λ b o e n hb hx=>?_,λ b o e n hb hx=>?_,I.base.free,λ b o e hx=>?_,I.base.tups,I.base.frzs,I.base.tbls⟩,?_,λ y c e=>?_,I.free,I.freeC,λ p hp=>?_,λ b u e=>?_,I.len⟩
 ·exact keep b o (old b o e hx) (nfs b (neL b o e) hb) (I.base.keep b o e n hb hx)
 ·obtain ⟨sl,q⟩:=I.base.slot b o e n hb hx
  obtain ⟨sl',q'⟩:=slot b _ (old b o e hx) q
  exact ⟨sl',q'⟩
 ·obtain ⟨o',q⟩:=I.base.there b o e hx
  obtain ⟨sl,q'⟩:=slot b o' (old b o e hx) q
  exact ⟨_,q'⟩
 ·obtain ⟨m,⟨o,es,ep,ho,r⟩,hl⟩:=I.loc
  obtain ⟨sl,q⟩:=slot _ o (λ z=>(hch _ z).2.2.1 rfl) ho
  refine ⟨m,⟨_,es,ep,q,r⟩,λ i y v e1 e2 e3=>?_⟩
  obtain ⟨u,ru,lk⟩:=hl i y v e1 e2 e3
  exact ⟨u,ru,lk.imp id λ ⟨k,c,e,z⟩=>⟨k,c,e,cellK y c e _ z⟩⟩
 ·obtain ⟨v,z⟩:=I.cell y c e
  exact ⟨v,cellK y c e v z⟩
 ·obtain ⟨e,n,ne,nf,d⟩:=I.pin p hp
  have hp':p∈X.pn:=by simpa using hp
  exact ⟨keep p.1 p.2 (λ z=>(hch p.1 z).1.2 p hp' rfl) (nfs p.1 ne nf) e,n,ne,nf,d⟩
 ·refine (I.hok b u e).stay (λ c v hc q=>?_) (λ _ q=>q) λ _ _ q=>q
  rcases hc with rfl | hc
  ·exact keep c v (trk c u e) (trs c u e) q
  ·exact keep c v (trk c _ hc) (trs c _ hc) q
theorem Inv.fieldsNe (I:Inv X [] σ H s) {b:Addr} {o:Obj} {vs:Array Value} (e:s.heap.get? b=some o) (d:o.data = .fields vs):b≠X.env.locals∧(∀ y c,X.env.cells.lookup y=some c→c≠b)∧b∉frs X.stack:=by
 refine ⟨λ z=>?_,λ y c ec z=>?_,λ z=>?_⟩
 ·obtain ⟨m,⟨o',es,ep,ho,r,_⟩,_⟩:=I.loc
  rw [← z,e] at ho
  cases ho
  rw [d] at r
  cases r
 ·obtain ⟨v,o',ho,hd⟩:=I.cell y c ec
  rw [z,e] at ho
  cases ho
  rw [d] at hd
  cases hd
 ·obtain ⟨_,o',ho,hnf⟩:=I.stack.mem z
  rw [e] at ho
  cases ho
  exact hnf vs d
theorem Inv.kept2 {h':Heap} {T:Addr} (I:Inv X [] σ H s) (F:Fly X.new H x C s.heap) (hT:T=x ∨ ∃ oe vs oT ts,s.heap.get? x=some oe∧oe.data = .fields vs∧vs[1]? = some (.ref T)∧s.heap.get? T=some oT∧oT.data = .fields ts)
  (k:Kept x T (frs X.stack) s.heap h'):Inv X [] σ H { s with heap:=h' }:=by
 obtain ⟨oe,vs,e,_,_,d,_,tb⟩:=F.ob
 have one:X.new x∧H x=none∧x≠X.env.locals∧∀ y c,X.env.cells.lookup y=some c→c≠x:=⟨F.new,F.free,(I.fieldsNe e d).1,(I.fieldsNe e d).2.1⟩
 have two:X.new T∧H T=none∧T≠X.env.locals∧∀ y c,X.env.cells.lookup y=some c→c≠T:=by
  rcases hT with rfl | ⟨oe',vs',oT,ts,e',d',v',eT,dT⟩
  ·exact one
  ·rw [e] at e'
   cases e'
   rw [d] at d'
   cases d'
   rcases tb with z | ⟨T',oT',ts',v,_,_,_,_,hn,hf⟩
   ·rw [z] at v';cases v'
   ·rw [v] at v'
    cases v'
    exact ⟨hn,hf,(I.fieldsNe eT dT).1,(I.fieldsNe eT dT).2.1⟩
 refine I.stepN (ch:=[x,T]) (λ b hb=>?_) (λ b o hb hs q=>k.keep b o (λ z=>hb (by simp [z])) (λ z=>hb (by simp [z])) hs q) λ b o hb q=>k.slot b o (λ z=>hb (by simp [z])) (λ z=>hb (by simp [z])) q
 have:b=x ∨ b=T:=by simpa using hb
 rcases this with rfl | rfl
 ·exact one
 ·exact two
structure Cx.Top (X:Cx):Prop where
 top:∃ env outer L,X.stack=env::outer∧env.frame=some L∧X.env.frame=some L
theorem Cx.newAt {X:Cx} {σ:St} {H:Hp} {s:Shared} (I:Inv X [] σ H s) {T:Addr} (h:s.heap.objs.size≤T):X.new T:=by
 refine ⟨λ o q=>?_,λ p hp z=>?_⟩
 ·exact absurd (Nat.lt_of_lt_of_le (Heap.lt_size q) (Nat.le_trans I.sz h)) (Nat.lt_irrefl _)
 ·have:=Heap.lt_size (I.pin p (List.mem_append_left _ hp)).1
  rw [z] at this
  exact absurd (Nat.lt_of_lt_of_le this h) (Nat.lt_irrefl _)
theorem zof {E:Value→Shared→Prop} {Q:Unit→Shared→Prop} (I:Inv X [] σ H s) (tp:X.Top) (F:Fly X.new H x C s.heap)
  (h:∀ h',Inv X [] σ H { s with heap:=h' }→Fly X.new H x C h'→(∃ oe vs T,h'.get? x=some oe∧oe.data = .fields vs∧vs[1]? = some (.ref T))→Q () { s with heap:=h' }) :
  wpAny (model X.prog X.w) X.A (noteFrame (.ref x) X.env) Q E s:=by
 obtain ⟨env,outer,L,hst,hf,hfe⟩:=tp.top
 have hfr:X.A.frames=some (env::outer):=by rw [I.ok.frames,hst]
 have hl:s.heap.FunFrames X.base (env::outer):=by rw [← hst];exact I.stack
 obtain ⟨oe,vs,e,ec,ed,d,z,tb⟩:=id F.ob
 rw [zfe (show X.env.frame=env.frame by rw [hfe,hf])]
 unfold noteFrame
 simp only [hf]
 rcases tb with v | ⟨T,oT,ts,v,nx,eT,dT,zT,hn,hfT⟩
 ·refine wpAny_bind (wpAny_field e d v ?_)
  rw [if_neg (by decide)]
  refine zsg hfr hl hf e d z λ h' T ⟨oe',vs',a1,a2,a3,a4,a5,a6⟩ ⟨oT,ts,b1,b2,b3⟩ hz k=>?_
  rw [← hst] at k
  refine h h' (I.kept2 F (.inl rfl) k) ⟨⟨oe',vs',a1,a2.trans ec,a3.trans ed,a4,a5,.inr ⟨T,oT,ts,a6,?_,b1,b2,b3,Cx.newAt I hz,I.hok.fresh hz⟩⟩,F.new,F.free⟩ ⟨_,_,_,a1,a4,a6⟩
  exact Nat.ne_of_gt (Nat.lt_of_lt_of_le (Heap.lt_size e) hz)
 ·refine wpAny_bind (wpAny_field e d v ?_)
  rw [if_pos (show (Value.ref T != Value.none)=true from by simp)]
  have v3:ts[3]? = some ts[3]:=by simp [zT]
  refine wpAny_bind (wpAny_field eT dT v3 ?_)
  by_cases hq:(ts[3] == rawInt L)=true
  ·rw [if_pos hq]
   exact wpAny_pure (h s.heap I F ⟨_,_,_,e,d,v⟩)
  ·rw [if_neg hq]
   refine wpAny_bind (wpAny_setField eT dT zT ?_)
   have oth:∀ b,b≠T→(s.heap.update T (Obj.mapFields (·.setIfInBounds 3 Value.none))).get? b=s.heap.get? b:=λ b hb=>Heap.get?_update_other _ _ (Ne.symm hb)
   have e2:(s.heap.update T (Obj.mapFields (·.setIfInBounds 3 Value.none))).get? x=some oe:=(oth x (Ne.symm nx)).trans e
   have hl2:(s.heap.update T (Obj.mapFields (·.setIfInBounds 3 Value.none))).FunFrames X.base (env::outer):=hl.of_keeps λ b o ho hnf=>⟨o,(oth b λ q=>by rw [q,eT] at ho;cases ho;exact hnf ts dT).trans ho,rfl⟩
   refine zsg (s:={ s with heap:=s.heap.update T (Obj.mapFields (·.setIfInBounds 3 Value.none)) }) hfr hl2 hf e2 d z λ h' T' ⟨oe',vs',a1,a2,a3,a4,a5,a6⟩ ⟨oT',ts',b1,b2,b3⟩ hz k=>?_
   rw [← hst] at k
   have hz':s.heap.objs.size≤T':=by
    have e3:(s.heap.update T (Obj.mapFields (·.setIfInBounds 3 Value.none))).objs.size=s.heap.objs.size:=Heap.size_after_update ..
    have hz2:(s.heap.update T (Obj.mapFields (·.setIfInBounds 3 Value.none))).objs.size≤T':=hz
    omega
   have k':Kept x T (frs X.stack) s.heap h':=⟨λ b o b1 b2 b3 q=>k.keep b o b1 b1 b3 ((oth b b2).trans q),λ b o b1 b2 q=>k.slot b o b1 b1 ((oth b b2).trans q)⟩
   refine h h' (I.kept2 F (.inr ⟨_,_,_,_,e,d,v,eT,dT⟩) k') ⟨⟨oe',vs',a1,a2.trans ec,a3.trans ed,a4,a5,.inr ⟨T',oT',ts',a6,?_,b1,b2,b3,Cx.newAt I hz',I.hok.fresh hz'⟩⟩,F.new,F.free⟩ ⟨_,_,_,a1,a4,a6⟩
   exact Nat.ne_of_gt (Nat.lt_of_lt_of_le (Heap.lt_size e) hz')
theorem zkc {A:Around} {E:Value→Shared→Prop} {Q:Unit→Shared→Prop} {f:Option Addr} (I:Inv X [] σ H s) (F:Fly X.new H x C s.heap) (ht:∃ oe vs T,s.heap.get? x=some oe∧oe.data = .fields vs∧vs[1]? = some (.ref T))
  (h:∀ h',Inv X [] σ H { s with heap:=h' }→Fly X.new H x C h'→(∃ oe vs T,h'.get? x=some oe∧oe.data = .fields vs∧vs[1]? = some (.ref T))→Q () { s with heap:=h' }) :
  wpAny (model X.prog X.w) A (setFlight (.ref x) f) Q E s:=by
 obtain ⟨oe,vs,e,ec,ed,d,z,tb⟩:=id F.ob
 obtain ⟨oe',vs',T,e',d',v⟩:=ht
 rw [e] at e'
 cases e'
 rw [d] at d'
 cases d'
 rcases tb with v' | ⟨T',oT,ts,v',nx,eT,dT,zT,hn,hfT⟩
 ·rw [v'] at v;cases v
 rw [v'] at v
 cases v
 unfold setFlight
 refine wpAny_bind (wpAny_field e d v' ?_)
 rw [if_pos (show (Value.ref T != Value.none)=true from by simp)]
 refine wpAny_setField eT dT zT ?_
 have oth:∀ b,b≠T→(s.heap.update T (Obj.mapFields (·.setIfInBounds 3 (f.elim Value.none λ f=>rawInt f)))).get? b=s.heap.get? b:=λ b hb=>Heap.get?_update_other _ _ (Ne.symm hb)
 have dm:=Obj.data_mapFields dT (·.setIfInBounds 3 (f.elim Value.none λ f=>rawInt f))
 have e2:=(oth x (Ne.symm nx)).trans e
 refine h _ (I.kept2 F (.inr ⟨_,_,_,_,e,d,v',eT,dT⟩) ⟨λ b o _ b2 _ q=>(oth b b2).trans q,λ b o _ b2 q=>⟨o.slots,(oth b b2).trans q⟩⟩)
  ⟨⟨oe,vs,e2,ec,ed,d,z,.inr ⟨T,_,_,v',nx,Heap.get?_update_self _ eT (Obj.isFreed_of_fields dm),dm,by simpa using zT,hn,hfT⟩⟩,F.new,F.free⟩ ⟨_,_,_,e2,d,v'⟩
end
end L2
namespace L2
open PySem PySem.Spec PyProof.Rows
noncomputable def CX1 (P:Program) (w:World) (base:Heap):CXT:=λ outer H s E e s'=>∃ (x C:Addr) (H':Hp),e = .ref x∧s'.os=s.os∧AllBare s'.gens∧Un (frs outer) [] H H' s.heap s'.heap∧HOk P w H' s'.heap ∧
 Fly (λ b=>s.heap.get? b=none) H' x C s'.heap∧E (.ref C) none H'
noncomputable def Wants (X:Cx) (E:XK):Prop:=∀ (σ:St) (H':Hp) (s':Shared) (x C:Addr),Inv X [] σ H' s'→Fly X.new H' x C s'.heap→E (.ref C) none H'→X.xe (.ref x) s'
theorem zjs {X:Cx} {pins:List (Addr×Obj)} {σ:St} {H:Hp} {s:Shared} (I:Inv X pins σ H s) {b:Addr} (h:s.heap.get? b=none):X.new b:=by
 refine ⟨λ o e=>?_,λ p hp z=>?_⟩
 ·by_cases hx:b∈X.ex
  ·exact hx
  ·obtain ⟨o',q⟩:=I.base.there b o e hx
   rw [h] at q
   cases q
 ·have:=(I.pin p (List.mem_append_left _ hp)).1
  rw [z,h] at this
  cases this
theorem Inv.nopins {X:Cx} {pins:List (Addr×Obj)} {σ:St} {H:Hp} {s:Shared} (I:Inv X pins σ H s):Inv X [] σ H s:=I.pins_of λ p hp=>absurd hp (by simp)
theorem Wants.passes {X:Cx} {E:XK} (W:Wants X E):zel (CX1 X.prog X.w X.base) X E:=λ pins σ H s e s' I ⟨x,C,H',ee,os,bare,un,hok,F,q⟩=>by
 subst ee
 have J:Inv X pins σ H' s':=I.call' (ch:=[]) os un hok bare λ b z=>absurd z (by simp)
 exact W σ H' s' x C J.nopins (F.imp λ b hb=>zjs I hb) q
theorem zxb {P:Program} {w:World} {base:Heap} {X:Cx}:zel (CX1 P w base) X E0:=λ _ _ _ _ _ _ _ ⟨_,_,_,_,_,_,_,_,_,q⟩=>q.elim
theorem zia {P:Program} {w:World} {K:W.Frag} {mg:Str→Option Value} {base:Heap} {N:List Str} {qual:Str} {scope:Scope} {f:Addr} {cd:Value} {A:Around} {outer:List Env} {s:Shared} {H:Hp} {E:XK} :
  Wants (cxOf (CX1 P w base) P w K mg base N qual scope f cd A outer s H E) E:=λ σ H' s' x C I F q=>by
 refine wpAny_bind (zof I ⟨⟨_,_,_,rfl,rfl,rfl⟩⟩ F λ h1 I1 F1 t1=>?_)
 refine zkc I1 F1 t1 λ h2 I2 F2 _=>?_
 refine ⟨x,C,H',rfl,I2.os,I2.bare,I2.base,I2.hok,F2.imp λ b hb=>?_,q⟩
 cases e:s.heap.get? b with
 | none=>rfl
 | some o=>exact absurd (hb.1 o e) (by simp [cxOf])
section
variable {P:Program} {w:World} {K:W.Frag} {mg:Str→Option Value} {base:Heap}
theorem Fun.okX {x qual:Str} {st:Stmt} {f:Addr} {fd:FuncData} {N ps:List Str} {k:Nat} {sp:Sp} (F:Fun K x qual st f fd) (S:FnScope N ps (zga st)) (len:∀ vs H Q E,sp vs H Q E→vs.length=ps.length)
  (hbody:∀ (cdv:Value) (A:Around) (outer:List Env) (s:Shared) (H:Hp) (vs:List V) (Q:VK) (E:XK),Room k (A.deeper (envOfC qual (zga st) s.heap.objs.size f cdv))→sp vs H Q E →
   ∃ t,PSs (cxOf (CX1 P w base) P w K mg base N qual (zga st) f cdv A outer s H E) (zgd st) t∧t { nx:=λ _ H'=>Q .non H',rt:=Q } (ztk N vs) H):FnOk P w K mg base (CX1 P w base) (k+1) f fd ps sp:=by
 obtain ⟨oc,od,kV,doc,pm,an,cdv,ct,osl,rfl,lk,hcd⟩:=F.ex
 exact zxw lk hcd S len λ A outer s H vs Q E hr hsp=>hbody cdv A outer s H vs Q E hr hsp
theorem Fun.okN {x qual:Str} {st:Stmt} {f:Addr} {fd:FuncData} {N ps:List Str} {k:Nat} {sp:Sp} (F:Fun K x qual st f fd) (S:FnScope N ps (zga st)) (len:∀ vs H Q E,sp vs H Q E→vs.length=ps.length)
  (hbody:∀ (cdv:Value) (A:Around) (outer:List Env) (s:Shared) (H:Hp) (vs:List V) (Q:VK) (E:XK),Room k (A.deeper (envOfC qual (zga st) s.heap.objs.size f cdv))→sp vs H Q E →
   ∃ t,PSs (cxOf (CX1 P w base) P w K mg base N qual (zga st) f cdv A outer s H E).nox (zgd st) t∧t { nx:=λ _ H'=>Q .non H',rt:=Q } (ztk N vs) H):FnOk P w K mg base (CX1 P w base) (k+1) f fd ps sp :=
 F.okX S len λ cdv A outer s H vs Q E hr hsp=>let ⟨t,h,q⟩:=hbody cdv A outer s H vs Q E hr hsp; ⟨t,h.nox,q⟩
end
abbrev bmV:List Value:=[.type "ValueError",.type "Exception",.type "BaseException",.type "object"]
structure XCls (K:W.Frag) (C:Addr):Prop where
 ex:W.excIn K C bmV "ValueError.__new__" = true
 ga:W.findIn K (.ref C) "__getattribute__" = some (some (.builtin "BaseException.__getattribute__"))
 gn:W.findIn K (.ref C) "__getattr__" = some none
 be:W.subIn K (.ref C) (.type "BaseException")=some true
 hd:W.hasDictIn K C=true
 ca:W.findIn K (.ref C) "__class__" = some (some (.builtin "object.__class__"))
 mo:W.mroIn K C (.type "object")=some true
 gs:W.specialIn K (.builtin "object.__class__") "__get__" = some (some (.builtin "getset_descriptor.__get__"))
 tk:W.takesIn K (.builtin "object.__class__")=some true
theorem XCls.obj {K:W.Frag} {C:Addr} {h:Heap} (c:XCls K C) (X:K.In h):∃ bm N nm q bs hdct sn sub ab col dd k0 k1 k2 k3 k5 mN,
  h.get? C=some (excClassObj nm q C N bs bm hdct sn sub ab col dd k0 k1 k2 k3 k5 "ValueError.__new__")∧h.Ns N mN∧mN "__init__" = none∧OwnTail h bmV bm ∧
  ∀ b r,W.mroIn K C b=some r→(Value.ref C::bm).contains b=r:=by
 have q:=c.ex
 unfold W.excIn at q
 split at q
 ·rename_i dd cd sl ho
  split at q
  ·rename_i C' bm k0 k1 k2 k3 n k5 hm hs
   simp only [Bool.and_eq_true,beq_iff_eq,Bool.not_eq_true'] at q
   obtain ⟨⟨⟨⟨⟨rfl,rfl⟩,hdel⟩,ht⟩,hok⟩,hni⟩:=q
   have hmro:∀ b r,W.mroIn K C' b=some r→(Value.ref C'::bm).contains b=r:=λ b r e=>by
    unfold W.mroIn W.clsIn at e
    rw [ho] at e
    simp only [Option.bind_some,hm] at e
    simpa using e
   obtain ⟨nm,bs,mro,ns,qn,hd,sn,sub,ab,col,del⟩:=cd
   dsimp only at hm hdel hok hni
   subst hm hdel
   have hsl:sl = #[k0,k1,k2,k3,some (.builtin "ValueError.__new__"),k5]:=by
    obtain ⟨l⟩:=sl
    simp only at hs
    rw [hs]
   subst hsl
   exact ⟨bm,ns,nm,qn,bs,hd,sn,sub,ab,col,dd,k0,k1,k2,k3,k5,_,X _ _ ho,.of_isNs (W.isNs_of_in X hok),W.nsMap_none_of_in X hok hni,W.tail_of_in X ht,hmro⟩
  ·cases q
 ·cases q
section
variable {X:Cx}
noncomputable def zos (C:Addr) (E:XK) (ta:TA):TS:=λ _ σ H=>ta σ H λ vs H1=>vs.length≤sizeLine∧E (.ref C) none H1
theorem zgb {C:Addr} {E:XK} {n:Str} {e:Expr} {es:List Expr} {ta:TA} {np cpos pos:Pos} (xc:XCls X.K C) (W:Wants X E) (hc:X.calm=true) (hg:Gl X n) (hm:X.mg n=some (.ref C)) (ha:PA X (e::es) ta)
  (hs:starEach (e::es) X.env=(false,eval e X.env)::starEach es X.env:=by rfl) (hp:(backTo cpos (starEach es X.env)).any (·.1)=false:=by rfl) (hdb:(n == ("__debug__" : Str))=false:=by decide) :
  PS X (.Raise (some (.Call (.Name n np) (e::es) [] cpos)) none pos) (zos C E ta) := .mk <| by
 intro pins s σ H D I h
 obtain ⟨bm,N,nm,q,bs,hdct,sn,sub,ab,col,dd,k0,k1,k2,k3,k5,mN,hC,hN,hni,T,_⟩:=xc.obj I.mod.kin
 refine wpAny_Raise_call_subT (C:=C) (nm:=nm) (q:=q) (N:=N) (bs:=bs) (bm:=bm) (hdct:=hdct) (sn:=sn) (sub:=sub) (ab:=ab) (col:=col) (dd:=dd) (k0:=k0) (k1:=k1) (k2:=k2) (k3:=k3) (k5:=k5)
  PySem.F.excBase_ValueError (mN:=mN) (T.hasType (by decide)) (I.ok.hd hc) (by rw [hs];show (false || (backTo cpos (starEach es X.env)).any (·.1))=false;rw [hp];rfl) hni (zve I hg hm ⟨rfl,?_⟩ hdb)
 have hA:=ha cpos pins s σ H _ I h
 rw [hs] at hA ⊢
 refine Calls.evalArgs_plain (thn hA λ us s1 ⟨vs,H1,I1,r1,hl,hE⟩=>⟨rfl,by rw [← r1.length];exact hl,I1.bk _ _ hC,hN.keeps I1.bk,T.keeps I1.bk,λ h' x mk=>?_⟩)
 obtain ⟨t,e1,_,_⟩:=mk.there
 have J:Inv X [] σ H1 { s1 with heap:=h' }:=(I1.kept (t':=s1.toks) mk.keeps).nopins
 refine W σ H1 _ x C J ⟨⟨_,_,e1,rfl,rfl,rfl,by simp,.inl rfl⟩,zjs I1 mk.new,?_⟩ hE
 cases z:H1 x with
 | none=>rfl
 | some o =>
  have:=(I1.hok x o z)
  have lt:∃ ob,s1.heap.get? x=some ob:=by
   cases o with
   | lst xs=>obtain ⟨_,_,_,_,e⟩:=this;exact ⟨_,e⟩
   | tup xs=>obtain ⟨_,_,_,p⟩:=this;obtain ⟨ob,e,_⟩:=p;exact ⟨_,e⟩
   | dK kvs=>obtain ⟨_,_,_,_,o,_,_,e,_⟩:=this;exact ⟨_,e⟩
   | dT kvs=>obtain ⟨_,_,_,_,o,_,_,e,_⟩:=this;exact ⟨_,e⟩
   | set S n=>obtain ⟨o,_,_,_,e,_⟩:=this;exact ⟨_,e⟩
   | ins C dx fs=>obtain ⟨_,_,_,e,_⟩:=this;exact ⟨_,e⟩
   | own y=>exact this
   | xd fs=>obtain ⟨_,⟨_,_,_,e,_⟩,_⟩:=this;exact ⟨_,e⟩
   | rng lo hi=>obtain ⟨_,_,_,e⟩:=this;exact ⟨_,e⟩
   | frz ob u=>obtain ⟨e,_⟩:=this;exact ⟨_,e⟩
   | tbl ps=>exact ⟨_,(show s1.heap.get? x=some _ from this)⟩
   | met f y=>exact ⟨_,(show s1.heap.get? x=some _ from this)⟩
   | ext φ=>obtain ⟨_,e,_⟩:=this;exact e
  obtain ⟨ob,e⟩:=lt
  rw [mk.new] at e
  cases e
end
end L2
namespace L2
open PySem PySem.Spec PyProof.Rows
noncomputable def excO (x C:Addr):HO := .ext λ h=>∃ o,h.get? x=some o∧o.cls = .ref C∧o.dict=none∧W.notCls o=true
noncomputable def Cx.tryC (X:Cx) (E':Value→Shared→Prop) (pn':List (Addr×Obj)):Cx:={ X with xe:=E',pn:=X.pn++pn' }
noncomputable def Cx.hand (X:Cx) (x:Addr):Cx:={ X with A:=X.A.mark (some (.ref x)),calm:=false,xe:=λ _ _=>False }
section
variable {X:Cx} {pins:List (Addr×Obj)} {σ:St} {H:Hp} {s:Shared} {x C D:Addr}
theorem Inv.toTry (I:Inv X pins σ H s) (E':Value→Shared→Prop):Inv (X.tryC E' pins) [] σ H s :=
 ⟨⟨I.ok.mod,I.ok.kind,I.ok.glob,I.ok.blt,I.ok.above,I.ok.inj,I.ok.has,I.ok.cab,I.ok.hd,I.ok.frames,I.ok.stk,I.ok.exf,I.ok.bs,I.ok.bsz,I.ok.noex,I.ok.exfs,I.ok.funs,I.ok.frf⟩,I.os,I.bare,I.base,I.loc,I.cell,I.free,I.freeC,λ p hp=>I.pin p (by simpa [Cx.tryC] using hp),I.hok,I.len⟩
theorem Inv.ofTry {E':Value→Shared→Prop} (I:Inv (X.tryC E' pins) [] σ H s):Inv X pins σ H s :=
 ⟨⟨I.ok.mod,I.ok.kind,I.ok.glob,I.ok.blt,I.ok.above,I.ok.inj,I.ok.has,I.ok.cab,I.ok.hd,I.ok.frames,I.ok.stk,I.ok.exf,I.ok.bs,I.ok.bsz,I.ok.noex,I.ok.exfs,I.ok.funs,I.ok.frf⟩,I.os,I.bare,I.base,I.loc,I.cell,I.free,I.freeC,λ p hp=>I.pin p (by simpa [Cx.tryC] using hp),I.hok,I.len⟩
theorem Inv.toHand (I:Inv X pins σ H s) (x:Addr):Inv (X.hand x) pins σ H s :=
 ⟨⟨I.ok.mod,I.ok.kind,I.ok.glob,I.ok.blt,I.ok.above,I.ok.inj,I.ok.has,I.ok.cab,λ z=>absurd z Bool.false_ne_true,I.ok.frames,I.ok.stk,I.ok.exf,I.ok.bs,I.ok.bsz,I.ok.noex,I.ok.exfs,I.ok.funs,I.ok.frf⟩,I.os,I.bare,I.base,I.loc,I.cell,I.free,I.freeC,I.pin,I.hok,I.len⟩
theorem Inv.ofHand {y:Addr} (I:Inv (X.hand y) pins σ H s) (hd:X.calm=true→X.A.handled=none):Inv X pins σ H s :=
 ⟨⟨I.ok.mod,I.ok.kind,I.ok.glob,I.ok.blt,I.ok.above,I.ok.inj,I.ok.has,I.ok.cab,hd,I.ok.frames,I.ok.stk,I.ok.exf,I.ok.bs,I.ok.bsz,I.ok.noex,I.ok.exfs,I.ok.funs,I.ok.frf⟩,I.os,I.bare,I.base,I.loc,I.cell,I.free,I.freeC,I.pin,I.hok,I.len⟩
theorem Inv.track (I:Inv X pins σ H s) (hn:∀ o,X.s₀.heap.get? x=some o→x∈X.ex) (hp:∀ p∈X.pn++pins,p.1≠x) (hf:H x=none)
  (ob:∃ oe vs,s.heap.get? x=some oe∧oe.cls = .ref C∧oe.dict=none∧oe.data = .fields vs):Inv X pins σ (upd H x (excO x C)) s:=by
 obtain ⟨oe,vs,e,ec,ed,d⟩:=ob
 obtain ⟨n1,n2,n3⟩:=I.nopins.fieldsNe e d
 have ne:∀ b u,H b=some u→b≠x:=λ b u q=>zab q hf
 refine ⟨I.ok,I.os,I.bare,⟨I.base.keep,I.base.slot,λ b o q n hx=>?_,I.base.there,λ b xs q=>?_,λ b o u q=>?_,λ b ps q=>?_⟩,I.loc,I.cell,?_,λ y c q=>?_,λ p hp'=>?_,λ b u q=>?_,I.len⟩
 ·rw [zva (λ z=>hx (by subst z;exact hn o q))];exact I.base.free b o q n hx
 ·have:=I.base.tups b xs q;rw [zva (ne b _ this)];exact this
 ·have:=I.base.frzs b o u q;rw [zva (ne b _ this)];exact this
 ·obtain ⟨m,q'⟩:=I.base.tbls b ps q;exact ⟨m,by rw [zva (ne b _ q')];exact q'⟩
 ·rw [zva (Ne.symm n1)];exact I.free
 ·rw [zva (n2 y c q)];exact I.freeC y c q
 ·obtain ⟨a,b,c⟩:=I.pin p hp'
  exact ⟨a,by rw [zva (hp p hp')];exact b,c⟩
 ·by_cases hb:b=x
  ·subst hb
   rw [upd_same] at q
   cases q
   refine ⟨⟨oe,e,ec,ed,?_⟩,⟨oe,e⟩,λ h1 h2 ⟨o,a1,a2⟩ k=>⟨o,k o a1,a2⟩⟩
   unfold W.notCls
   rw [d]
  ·rw [zva hb] at q
   exact (I.hok b u q).stay (λ _ _ _ z=>z) (λ c z=>by rw [zva (ne c _ z)];exact z) λ c xs z=>by rw [zva (ne c _ z)];exact z
theorem Inv.goes {i:Nat} {n:Str} {h':Heap} {t':Nat} {v:Option Value} {m:Str→Option Value} (I:Inv X pins σ H s) (hN:X.N.Nodup) (hi:X.N[i]? = some n) (hm:s.heap.Ns X.env.locals m)
  (hl:∀ (j:Nat) (y:Str) (u:V),X.N[j]? = some y→σ[j]? = some (some u)→Vis X.env.scope y→∃ w,RelV u w∧Look X.env s.heap m y w)
  (hn:h'.Ns X.env.locals (λ y=>if y=n then v else m y)) (hs:Heap.SameBut X.env.locals s.heap h'):Inv X pins (σ.set i none) H { s with heap:=h',toks:=t' }:=by
 have neL:∀ b o,X.s₀.heap.get? b=some o→b≠X.env.locals:=λ b o e=>Nat.ne_of_lt (Nat.lt_of_lt_of_le (Heap.lt_size e) I.ok.above)
 have cl:∀ y c,X.env.cells.lookup y=some c→∀ w,s.heap.IsCell c w→h'.IsCell c w:=λ y c e w z=>z.sameBut hs (I.cne y c e)
 refine ⟨I.ok,I.os,I.bare,⟨λ b o e k hb hx=>(hs.2 b (neL b o e)).trans (I.base.keep b o e k hb hx),λ b o e k hb hx=>?_,I.base.free,λ b o e hx=>?_,I.base.tups,I.base.frzs,I.base.tbls⟩,⟨_,hn,λ j y u e1 e2 e3=>?_⟩,λ y c e=>?_,I.free,I.freeC,λ p hp=>?_,λ b u e=>?_,by rw [List.length_set];exact I.len⟩
 ·obtain ⟨sl,q⟩:=I.base.slot b o e k hb hx;exact ⟨sl,(hs.2 b (neL b o e)).trans q⟩
 ·obtain ⟨o',q⟩:=I.base.there b o e hx;exact ⟨o',(hs.2 b (neL b o e)).trans q⟩
 ·by_cases hj:j=i
  ·subst hj
   rw [List.getElem?_set] at e2
   simp at e2
  ·rw [List.getElem?_set_ne (Ne.symm hj)] at e2
   obtain ⟨w,r,q⟩:=hl j y u e1 e2 e3
   refine ⟨w,r,?_⟩
   rcases q with ⟨k,e⟩ | ⟨k,c,e,z⟩
   ·have ny:y≠n:=λ z=>hj (zxf hN e1 (by rw [z];exact hi))
    exact .inl ⟨k,by simp only [if_neg ny];exact e⟩
   ·exact .inr ⟨k,c,e,cl y c e _ z⟩
 ·obtain ⟨w,z⟩:=I.cell y c e;exact ⟨w,cl y c e w z⟩
 ·obtain ⟨e,k,ne,nf,d⟩:=I.pin p hp
  exact ⟨(hs.2 p.1 ne).trans e,k,ne,nf,d⟩
 ·refine (I.hok b u e).stay (λ c w hc q=>(hs.2 c ?_).trans q) (λ _ q=>q) λ _ _ q=>q
  rintro rfl
  rcases hc with rfl | hc
  ·rw [I.free] at e;cases e
  ·rw [I.free] at hc;cases hc
theorem zzk {M:Model} {A:Around} {E:Value→Shared→Prop} {K:W.Frag} {oe:Obj} {b:Bool} {Q:Bool→Shared→Prop} (X:K.In s.heap) (xd:XCls K D) (xc:XCls K C) (hs:W.mroIn K C (.ref D)=some b)
  (he:s.heap.get? x=some oe) (hcls:oe.cls = .ref C) (hq:Q b s):wpAny M A (excMatches (.ref x) (.ref D)) Q E s:=by
 obtain ⟨bm,N,nm,q,bs,hdct,sn,sub,ab,col,dd,k0,k1,k2,k3,k5,mN,hD,_,_,T,_⟩:=xd.obj X
 obtain ⟨bm',N',nm',q',bs',hdct',sn',sub',ab',col',dd',l0,l1,l2,l3,l5,mN',hC,_,_,T',hmC⟩:=xc.obj X
 have hcB:(Value.ref D::bm).contains (.type "BaseException")=true:=by rw [List.contains_cons,T.hasType (b:=true) (by decide),Bool.or_true]
 have hcC:=hmC _ _ hs
 have f:=tc_notTuple
 obtain ⟨h,g,d,t,os⟩:=s
 unfold excMatches
 repeat (first | (with_reducible refine wpAny_loadPart_at he ?_;rw [hcls]) | with_reducible refine wpAny_loadPart_at hD ?_ | (with_reducible refine wpAny_isSubtype_exc hD ?_;rw [hcB]) | (with_reducible refine wpAny_isSubtype_exc hC ?_;rw [hcC]) | wp_step)
 cases b <;> (wp_walk;exact hq)
noncomputable def zsi (CX:CXT) (X:Cx) (σ:St) (E:XK):Prop:=∀ (pins:List (Addr×Obj)) (H:Hp) (s:Shared) (e:Value) (s':Shared),Inv X pins σ H s→CX X.stack H s E e s'→X.xe e s'
theorem zwh {CX:CXT} {k:Nat} {f:Addr} {fd:FuncData} {ps:List Str} {sp:Sp} {dvs:List V} {ds:List Value} {E:XK} {y:Str} {p pos:Pos} {e:Expr} {es:List Expr} {t:TA} {σ₀:St}
  (F:FnOk X.prog X.w X.K X.mg X.base CX k f fd ps sp) (hr:Room k X.A) (hg:Gl X y) (hm:X.mg y=some (.ref f)) (hk:W.keepIn X.K (.ref f)=true) (hb:Binds X.K fd ps ds) (hd:Vals dvs ds) (hx:zsi CX X σ₀ E)
  (ha:PA X (e::es) t) (hdb:(y == ("__debug__" : Str))=false:=by decide) (he:starEach (e::es) X.env=(false,eval e X.env)::starEach es X.env:=by rfl) (hpl:(backTo pos (starEach es X.env)).any (·.1)=false:=by rfl) :
  PE X (.Call (.Name y p) (e::es) [] pos) (λ σ H Q=>σ=σ₀∧zsw sp dvs E t σ H Q) := .mk <| by
 rintro pins s σ H Q I ⟨rfl,h⟩
 refine wpAny_Call_Name_kw (zve I hg hm ?_ hdb)
 refine W.callWith_K (h₀:=X.base) I.ok.mod.kin hk (thn (ha pos pins s σ H _ I h) λ us s1 ⟨vs,H1,I1,r,q⟩=>⟨I1.kIn,?_⟩) he hpl
 have r2:Vals (vs++dvs) (us++ds):=r.append hd
 have hl:(us++ds).length=ps.length:=by rw [← r2.length];exact F.len _ _ _ _ q
 refine wpAny_call (codeAny_mono (F.run X.A X.stack s1 H1 ⟨us,[]⟩ (us++ds) (vs++dvs) Q E hr I1.env0 (hb s1 us I1.kIn hl) r2 q) λ r s' hq=>?_)
 cases r with
 | error e=>exact hx pins H1 s1 e s' I1 hq
 | ok fl =>
  cases fl with
  | ret u=>exact I1.after hq
  | next=>exact False.elim hq
  | brk=>exact False.elim hq
  | cont=>exact False.elim hq
end
end L2
namespace L2
open PySem PySem.Spec PyProof.Rows
noncomputable def ExcAt (x C:Addr) (h:Heap):Prop:=∃ o,h.get? x=some o∧o.cls = .ref C∧o.dict=none∧W.notCls o=true
theorem ExcAt.inst {x C:Addr} {h:Heap} (p:ExcAt x C h):∃ ox,W.InstAt h x ox C none:=by
 obtain ⟨o,a,b,c,d⟩:=p
 refine ⟨o,a,b,d,?_⟩
 rw [c]
 trivial
theorem znl {M:Model} {A:Around} {E:Value→Shared→Prop} {s:Shared} {K:W.Frag} {x C:Addr} {ox:Obj} {nameV:Value} {Q:Unit→Shared→Prop} (X:K.In s.heap) (I:W.InstAt s.heap x ox C none)
  (be:W.subIn K (.ref C) (.type "BaseException")=some true) (h:Q () s):wpAny M A (checkBuiltinCall "BaseException.__getattribute__" ⟨[.ref x,nameV],[]⟩) Q E s:=by
 have hk:builtinKind "BaseException.__getattribute__" = some .slot:=by decide +kernel
 have hsplit:splitId "BaseException.__getattribute__" = some ("BaseException", "__getattribute__"):=by decide +kernel
 have ha:=F.args_bexc_ga (.ref x) nameV
 have L0:=I.type (M:=M)
 have L1:=W.looks_subIn (M:=M) X be
 simp only [checkBuiltinCall,hk,hsplit]
 refine wpAny_bind ?_
 unfold isInstance
 refine wpAny_bind (L0.at (L1.at ?_))
 repeat wp_step
 exact h
theorem zik {prog:Program} {w:World} {A:Around} {E:Value→Shared→Prop} {s:Shared} {K:W.Frag} {x C:Addr} {ox:Obj} {tk:Tok} {P:Fin→Shared→Prop} (X:K.In s.heap) (I:W.InstAt s.heap x ox C none)
  (hf:W.findObj K C none "__class__" = some (.bind (.builtin "getset_descriptor.__get__") (.builtin "object.__class__"))) (mo:W.mroIn K C (.type "object")=some true) (h:P (.done (.ret (.ref C))) s) :
  wpAny (model prog w) A (Builtin.«object.__getattribute__» ⟨[.ref x,.str "__class__" tk],[]⟩) P E s:=by
 have L0:=I.type (M:=model prog w)
 have L1:=W.looks_find (M:=model prog w) X I hf
 refine wpAny_bind (wpAny_pure (wpAny_bind (wpAny_pure (wpAny_bind (L0.at (wpAny_bind (L1.at ?_)))))))
 show wpAny _ _ (holding [Value.builtin "object.__class__"] (call (.builtin "getset_descriptor.__get__") [.builtin "object.__class__",.ref x,.ref C]) >>= ret) _ _ _
 exact wpAny_bind (wpAny_holding (wpAny_call (W.class_get (ox:=ox) (od:=none) X I mo (wpAny_pure h))))
theorem zpk {prog:Program} {w:World} {A:Around} {E:Value→Shared→Prop} {s:Shared} {K:W.Frag} {x C:Addr} {ox:Obj} {Q:Option Value→Shared→Prop} (xc:XCls K C) (X:K.In s.heap) (I:W.InstAt s.heap x ox C none)
  (h:Q (some (.ref C)) { s with toks:=s.toks+1 }):wpAny (model prog w) A (getAttr? (.ref x) "__class__") Q E s:=by
 have hf:W.findObj K C none "__class__" = some (.bind (.builtin "getset_descriptor.__get__") (.builtin "object.__class__")):=by
  obtain ⟨cd,hc,_⟩:=W.any_some xc.hd
  unfold W.findObj
  rw [hc,Option.bind_some,xc.ca,Option.bind_some]
  simp only [xc.gs,xc.tk,Option.bind_some]
 obtain ⟨hh,g,d,t,os⟩:=s
 have L0:=I.type (M:=model prog w)
 have L1:=W.looks_findIn (M:=model prog w) X xc.ga
 have L2:=W.looks_findIn (M:=model prog w) X xc.gn
 have f3:=F.attr_ValueError.ga.bind (.ref x)
 unfold getAttr? getAttrBy? getAttrBy
 refine wpAny_bind (wpAny_mkText (wpAny_bind (wpAny_attempt (wpAny_holding (wpAny_bind (L0.at (wpAny_bind (L1.at ?_))))))))
 show wpAny _ _ (getAttrByItsOwn _ _ _ _ _ _) _ _ _
 unfold getAttrByItsOwn
 refine wpAny_bind ?_
 show wpAny _ _ (typeLookup (.ref C) "__getattr__") _ _ _
 refine L2.at (wpAny_bind (wpAny_attempt (wpAny_holding ?_)))
 show wpAny _ _ (boundAndCalled _ _ _) _ _ _
 unfold boundAndCalled
 rw [f3]
 refine wpAny_bind (wpAny_pure ?_)
 exact wpAny_call (codeAny_call_builtin F.attr_ValueError.ga.plain F.entry_bexc_ga (znl (s:=⟨hh,g,d,t+1,os⟩) X I xc.be (zik (s:=⟨hh,g,d,t+1,os⟩) X I hf xc.mo (W.handed_on rfl (wpAny_pure h)))))
theorem zkj {K:W.Frag} {x C:Addr} (xc:XCls K C):W.KitX K (.ref x) (.ref C) (ExcAt x C) where
 ty:=λ _ _ _ p=>let ⟨_,I⟩:=p.inst;I.type
 it:=λ M h X _=>by
  obtain ⟨cdD,hcD,_⟩:=W.any_some xc.hd
  unfold W.clsIn at hcD
  split at hcD
  ·rename_i c' d' cd' sl' ho
   intro A' Q' E' s' k q
   unfold isType loadHead
   exact wpAny_bind (wpAny_loadPart (k _ _ (X _ _ ho)) (wpAny_pure q))
  ·cases hcD
 ne:=λ h tp dd its n sl X htp=>by
  obtain ⟨cdD,hcD,_⟩:=W.any_some xc.hd
  refine Bool.eq_false_iff.mpr λ q=>?_
  have e:C=tp:=Value.ref.inj (beq_iff_eq.mp q)
  subst e
  unfold W.clsIn at hcD
  split at hcD
  ·rename_i c' d' cd' sl' ho
   cases (X _ _ ho).symm.trans htp
  ·cases hcD
 ca:=fun {prog w A E Q s} X p h=>by
  obtain ⟨ox,I⟩:=p.inst
  exact zpk xc X I h
noncomputable def clsV:V→Option Value
 | .ref a=>some (.ref a)
 | .ty n=>some (.type n)
 | _=>none
theorem zgi {v:V} {u c:Value} (r:RelV v u) (e:clsV v=some c):u=c:=by
 cases v with
 | ref a=>cases e;exact r
 | ty n=>cases e;exact r
 | _=>cases e
section
variable {X:Cx}
theorem zwe:zlf X (.builtin "isinstance") (λ xs H Q=>∃ x C v c b,xs=[.ref x,v]∧H x=some (excO x C)∧XCls X.K C∧clsV v=some c∧W.kitOne X.K (.ref C) c=some b∧Q (.bl b) H):=by
 intro pins s σ H xs us Q I rv h
 obtain ⟨x,C,v,c,b,rfl,hx,xc,hv,hk,q⟩:=h
 obtain ⟨u,u',rfl,ru,rv'⟩:=rv.two
 cases (show u=Value.ref x from ru)
 have e:=zgi rv' hv
 subst e
 have p:ExcAt x C s.heap:=(show ObjOk X.prog X.w H s.heap x (excO x C) from I.hok x _ hx).1
 exact W.kia_one (zkj xc) I.kIn p hk (λ z=>nomatch z) λ tk=>⟨.bl b,H,I.tok tk,rfl,q⟩
theorem zpj:∀ {vs:List V} {cs us:List Value},vs.map clsV=cs.map some→Vals vs us→us=cs
 | [],cs,us,e,r=>by
  cases r
  cases cs with
  | nil=>rfl
  | cons c cs=>cases e
 | v::vs,cs,us,e,r=>by
  cases r with
  | cons h t =>
   cases cs with
   | nil=>cases e
   | cons c cs =>
    simp only [List.map_cons,List.cons.injEq] at e
    rw [zgi h e.1,zpj e.2 t]
theorem zkh:zlf X (.builtin "isinstance") (λ xs H Q=>∃ x C tp vs cs b,xs=[.ref x,.ref tp]∧H x=some (excO x C)∧XCls X.K C∧H tp=some (.tup vs)∧vs.map clsV=cs.map some∧W.kitAny X.K (.ref C) cs=some b∧Q (.bl b) H):=by
 intro pins s σ H xs us Q I rv h
 obtain ⟨x,C,tp,vs,cs,b,rfl,hx,xc,ht,hv,hk,q⟩:=h
 obtain ⟨u,u',rfl,ru,rv'⟩:=rv.two
 cases (show u=Value.ref x from ru)
 cases (show u'=Value.ref tp from rv')
 have p:ExcAt x C s.heap:=(show ObjOk X.prog X.w H s.heap x (excO x C) from I.hok x _ hx).1
 obtain ⟨_,its,r,o,e,ec,n,ed⟩:=(show ObjOk X.prog X.w H s.heap tp (.tup vs) from I.hok tp _ ht)
 have ei:=zpj hv r
 subst ei
 obtain ⟨c,d,dt,sl⟩:=o
 dsimp only at ec ed
 subst ec ed
 exact W.kia_tup (zkj xc) I.kIn p e hk (λ z=>nomatch z) λ tk=>⟨.bl b,H,I.tok tk,rfl,q⟩
theorem zmj:zlf X (.builtin "isinstance") (λ xs H Q=>∃ a ys,xs=[.ref a,.ty "tuple"]∧SqT X.K H a ys∧Q (.bl true) H):=by
 intro pins s σ H xs us Q I rv h
 obtain ⟨a,ys,rfl,ha,q⟩:=h
 obtain ⟨u,u',rfl,ru,rv'⟩:=rv.two
 cases (show u=Value.ref a from ru)
 cases (show u'=Value.type "tuple" from rv')
 obtain ⟨its,r,p,_⟩:=I.tuple ha
 obtain ⟨o,h1,h2,_⟩:=p
 exact W.kia_one (K:=X.K) W.kitx_tuple I.kIn ⟨o,h1,h2⟩ (show W.kitOne X.K (.type "tuple") (.type "tuple")=some true from rfl) (λ z=>nomatch z) λ tk=>⟨.bl true,H,I.tok tk,rfl,q⟩
theorem zpi:zlf X (.builtin "isinstance") (λ xs H Q=>∃ i,xs=[.int i,.ty "int"]∧Q (.bl true) H):=by
 intro pins s σ H xs us Q I rv h
 obtain ⟨i,rfl,q⟩:=h
 obtain ⟨u,u',rfl,ru,rv'⟩:=rv.two
 obtain ⟨t,rfl⟩:=(show ∃ t,u=Value.int i t from ru)
 cases (show u'=Value.type "int" from rv')
 exact W.kia_one (K:=X.K) W.kitx_int I.kIn True.intro (show W.kitOne X.K (.type "int") (.type "int")=some true from rfl) (λ z=>nomatch z) λ tk=>⟨.bl true,H,I.tok tk,rfl,q⟩
end
section
variable {X:Cx}
theorem zoi {pins:List (Addr×Obj)} {σ:St} {s3:Shared} {H3:Hp} {fp:List Addr} {scope:Scope} {N':List Str} {E:XK} {Q:VK} {D:Addr} (I3:Inv X pins σ H3 s3) (hf:∀ b∈fp,FpOk X pins H3 b) (tp:X.Top) (W:Wants X E) :
  Wants (X.comp scope s3.heap.objs.size s3 H3 fp N' (notedBy (model X.prog X.w) X.A (compEnvC scope (clOf scope X.env) s3.heap.objs.size X.env) λ e s'=>compPost (model X.prog X.w) X.A X.xe none (EP X pins σ Q) (.ref D) s3.heap.objs.size (.error e) s')) E:=by
 intro σ' H' s' x C I F q
 obtain ⟨E',hE⟩:∃ E',E'=(notedBy (model X.prog X.w) X.A (compEnvC scope (clOf scope X.env) s3.heap.objs.size X.env) λ e s'=>compPost (model X.prog X.w) X.A X.xe none (EP X pins σ Q) (.ref D) s3.heap.objs.size (.error e) s'):=⟨_,rfl⟩
 rw [← hE] at I F
 have tp':(X.comp scope s3.heap.objs.size s3 H3 fp N' E').Top:=by
  obtain ⟨env,outer,L,a,b,c⟩:=tp.top
  exact ⟨env,outer,L,a,b,c⟩
 show (notedBy (model X.prog X.w) X.A (compEnvC scope (clOf scope X.env) s3.heap.objs.size X.env) λ e s'=>compPost (model X.prog X.w) X.A X.xe none (EP X pins σ Q) (.ref D) s3.heap.objs.size (.error e) s') (.ref x) s'
 refine zof (X:=X.comp scope s3.heap.objs.size s3 H3 fp N' E') I tp' F λ h1 I1 F1 t1=>?_
 obtain ⟨m,hn,_⟩:=I1.loc
 refine ⟨m,hn,λ h2 hs cenv hc=>?_⟩
 have new:∀ b,(X.comp scope s3.heap.objs.size s3 H3 fp N' E').new b→X.new b:=λ b hb=>by
  refine ⟨λ o e=>?_,λ p hp z=>?_⟩
  ·by_cases hx:b∈X.ex
   ·exact hx
   ·obtain ⟨o',q'⟩:=I3.base.there b o e hx
    rcases (hf b (hb.1 o' q')).2.2.2.1 with z | z
    ·exact z
    ·exact absurd (Nat.lt_of_lt_of_le (Heap.lt_size e) z) (Nat.lt_irrefl _)
  ·have e:=(I3.pin p (List.mem_append_left _ hp)).1
   rw [z] at e
   exact (hf b (hb.1 _ e)).2.2.2.2.2 p (List.mem_append_left _ hp) z
 have J1:Inv X pins σ H' { s' with heap:=h1 }:=zfg I3 hf I1
 have xC:∀ (b:Addr) (o:Obj) (vs:Array Value),h1.get? b=some o→o.data = .fields vs→b≠s3.heap.objs.size:=λ b o vs e d=>(I1.fieldsNe (show ({ s' with heap:=h1 }:Shared).heap.get? b=some o from e) d).1
 have J2:Inv X [] σ H' { s' with heap:=h2 }:=by
  refine (J1.turnedL (ch:=[s3.heap.objs.size]) (t':=s'.toks) (λ b hb'=>?_) λ b u hb' e=>(hs.2 b λ z=>hb' (by simp [z])).trans e).nopins
  have eb:b=s3.heap.objs.size:=by simpa using hb'
  subst eb
  exact I3.fpOk (Nat.le_refl _) I1.free
 have F2:Fly X.new H' x C h2:=by
  obtain ⟨⟨oe,vs,a1,a2,a3,a4,a5,a6⟩,b,c⟩:=F1.imp new
  refine ⟨⟨oe,vs,(hs.2 x (xC x oe vs a1 a4)).trans a1,a2,a3,a4,a5,a6.imp id ?_⟩,b,c⟩
  rintro ⟨T,oT,ts,t1,t2,t3,t4,t5⟩
  exact ⟨T,oT,ts,t1,t2,(hs.2 T (xC T oT ts t3 t4)).trans t3,t4,t5⟩
 obtain ⟨oe,vs,T,e1,d1,v1⟩:=t1
 have e2:h2.get? x=some oe:=(hs.2 x (xC x oe vs e1 d1)).trans e1
 unfold PySem.passOn
 refine wpAny_bind (wpAny_field e2 d1 v1 ?_)
 rw [if_neg (by simp)]
 refine wpAny_bind (zkc (X:=X) (s:={ s' with heap:=h2 }) J2 F2 ⟨_,_,_,e2,d1,v1⟩ λ h3 J3 F3 _=>?_)
 exact wpAny_throw (W σ H' _ x C J3 F3 q)
theorem znc {elt tg iter:Expr} {ifs:List Expr} {scope:Scope} {pos:Pos} {wi:TI} {g:TG} {ti:TT} {te:TE} (E:XK) (N':List Str) (nt:Nat) (cap:List Nat) (W:Wants X E) (tp:X.Top)
  (hc:X.calm=true) (hi:PI X tg iter wi) (hgk:zci nt g)
  (hg:∀ C s₀ H₀ fp E',PG (X.comp scope C s₀ H₀ fp N' E') tg g)
  (hif:∀ C s₀ H₀ fp E',PIf (X.comp scope C s₀ H₀ fp N' E') ifs ti)
  (he:∀ C s₀ H₀ fp E',Wants (X.comp scope C s₀ H₀ fp N' E') E→PE (X.comp scope C s₀ H₀ fp N' E') elt te)
  (hk:scope.kind = .function:=by rfl) (hb:zvd scope X.env=true:=by rfl) (hcap:zdo X scope N' nt cap=true:=by rfl)
  (hs:∀ x,foldedSetIterable iter X.env x=pure x:=by intro _;rfl):PE X (.ListComp elt [⟨tg,iter,ifs,0⟩] scope pos) (zsv wi nt cap g ti te) :=
 zhg (λ C s₀ H₀ fp E'=>Wants (X.comp scope C s₀ H₀ fp N' E') E) (λ pins σ s3 H3 fp Q D I hf=>zoi I hf tp W) hc hi (λ C s₀ H₀ fp E' _=>hg C s₀ H₀ fp E') (λ C s₀ H₀ fp E' _=>hif C s₀ H₀ fp E') (λ C s₀ H₀ fp E' w=>he C s₀ H₀ fp E' w) hk hb hcap hgk hs
end
theorem zyn {l:W.OpenLaw} {n k:Nat} {q:Program} {loose:List Str} {XP:(Str→Option Value)→Heap→Prop} {YP:World→Heap→Prop} {d:DefRec} {K:Params→W.Frag} {sp:World→Sp} {x:Str}
  (hn:l.most=some n) (hn2:n≤sizeLine) (hdf:d.params.defaults=[]) (hr:Room k callerA) (hY:∀ (w:World) (h:Heap),YP w h→(K w.params).In h)
  (F:∀ (w:World) (mg:Str→Option Value) (fa:Addr) (h:Heap),(K w.params).In h→h.Ns mainGlobals mg→mg d.name=some (.ref fa) →
   ∃ fd:FuncData,(∀ (s:Shared) (u:Value),BindsTo s fd ⟨[u],[]⟩ [(x,u)])∧∀ base:Heap,(K w.params).In base→base.Ns mainGlobals mg→FnOk l.prog w (K w.params) mg base (CX1 l.prog w base) k fa fd [x] (sp w))
  (hsp:∀ (w:World) (H:Hp) (a:Addr) (ns:List Int),ns.length≤n→Only H→SqL (K w.params) H a (ns.map V.int)→sp w [.ref a] H (λ v _=>v = .bl true) λ _ _ _=>False) :
  W.WalkO q loose XP YP l.row.toRowW d [] (λ f vs=>PySem.call f vs):=by
 refine walk_of (x:=x) (K:=K) (CX:=λ _ _ _ _ _ _ _=>False) (sp:=λ w vs H Q E=>sp w vs H Q λ _ _ _=>False) hn hn2 hdf hr hY (λ w mg fa h a b c=>?_) (λ w H a ns h1 h2 h3=>hsp w H a ns h1 h2 h3) λ _ _ _ _ _ z=>z
 obtain ⟨fd,hb,hF⟩:=F w mg fa h a b c
 refine ⟨fd,hb,λ base h1 h2=>?_⟩
 have G:=hF base h1 h2
 refine ⟨λ vs H Q E h=>G.len vs H Q _ h,λ A outer s H args us vs Q E hr he hbi hv h=>codeAny_mono (G.run A outer s H args us vs Q _ hr he hbi hv h) λ r s' z=>?_⟩
 cases r with
 | error e=>obtain ⟨_,_,_,_,_,_,_,_,_,z⟩:=z;exact z
 | ok fl=>cases fl <;> exact z
end L2
namespace L2
open PySem PySem.Spec PyProof.Rows PySem.NumText
section
variable {P:Program} {w:World} {K:W.Frag} {mg:Str→Option Value} {base:Heap} {CX:CXT} {k:Nat} {f:Addr} {fd:FuncData} {ps:List Str}
noncomputable def zxl {α:Type} (Pre:α→List V→Hp→Prop) (Post:α→V→Prop):Sp:=λ vs H Q _=>Plain H∧∃ a,Pre a vs H∧∀ v,Post a v→Q v H
noncomputable def zat {α:Type} (Pre:α→List V→Hp→Prop) (Post:α→V→Prop):Sp:=λ vs H Q _=>Plain H∧∃ a,Pre a vs H∧∀ v H',Post a v→Same H H'→Q v H'
theorem FnOk.pureH {α:Type} {Pre:α→List V→Hp→Prop} {Post:α→V→Prop} (F:FnOk P w K mg base CX k f fd ps (zat Pre Post)):FnOk P w K mg base CX k f fd ps (zxl Pre Post) :=
 F.cut.imp λ vs H Q E ⟨hp,a,ha,q⟩=>⟨hp,a,ha,λ v H' hv hs=>⟨H,λ hi=>⟨hs,λ b o e=>by rw [e,hs b o e],hi,hp⟩,q v hv⟩⟩
end
theorem zqk (lo hi:Option Int) (n:Nat):Builtin.Str.strSliceIndices lo hi 1 n=sliceRange ((HT.sIx n 0 lo:Nat):Int) ((HT.sIx n n hi:Nat):Int) 1:=by
 unfold Builtin.Str.strSliceIndices
 simp only [show (1:Int) > 0 by decide,if_true]
 congr 1
 ·cases lo with
  | none=>rfl
  | some i=>simp only [HT.sIx];by_cases h:i<0 <;> simp only [h,if_true,if_false] <;> omega
 ·cases hi with
  | none=>rfl
  | some i=>simp only [HT.sIx];by_cases h:i<0 <;> simp only [h,if_true,if_false] <;> omega
theorem zfi (x:Str) (lo hi:Option Int):(Txt.slice x lo hi).cps.toList=(x.cps.toList.drop (HT.sIx x.length 0 lo)).take (HT.sIx x.length x.length hi - HT.sIx x.length 0 lo):=by
 have hl:x.cps.toList.length=x.length:=Array.length_toList
 unfold Txt.slice
 rw [zqk,sliceRange_one,pick_run]
 split
 ·rename_i h
  simp only [List.length_map,List.length_range,Bool.and_eq_true,beq_iff_eq] at h
  have h1:=HT.sIx_le x.length x.length (Nat.le_refl _) hi
  have h2:HT.sIx x.length x.length hi - HT.sIx x.length 0 lo=x.length:=h.2
  rw [h2]
  rcases Nat.eq_zero_or_pos x.length with e | e
  ·have:x.cps.toList=[]:=by rw [← List.length_eq_zero_iff,hl];exact e
   rw [this]
   simp
  ·have h3:HT.sIx x.length 0 lo=0:=by omega
   rw [h3,List.drop_zero,List.take_of_length_le (by omega)]
 ·rfl
theorem zob (a b:Str):V.str a=V.str b↔a.cps.toList=b.cps.toList:=⟨λ h=>by cases h;rfl,λ h=>by rw [ext_toList h]⟩
theorem zwi (x:Str):(Txt.slice x (some 1) none).cps.toList=x.cps.toList.tail:=by
 rw [zfi]
 have hl:x.cps.toList.length=x.length:=Array.length_toList
 simp only [HT.sIx]
 cases e:x.cps.toList with
 | nil=>simp
 | cons c cs =>
  rw [e] at hl
  simp only [List.length_cons] at hl
  have:min (Int.toNat 1) x.length=1:=by simp;omega
  simp only [show ¬ ((1:Int)<0) by decide,if_false,this,List.drop_succ_cons,List.drop_zero,List.tail_cons]
  rw [List.take_of_length_le (by omega)]
theorem zph (x:Str):Txt.startswith x "-" = decide (x.cps.toList.head? = some 45):=by
 unfold Txt.startswith Builtin.Str.subAt
 have e1:("-" : Str).cps = #[45]:=rfl
 have e2:("-" : Str).length=1:=rfl
 rw [e1,e2]
 cases x with
 | mk a =>
  cases a with
  | mk l =>
   cases l with
   | nil=>rfl
   | cons c cs =>
    have h:((List.toArray (c::cs)).extract 0 (0+1) == #[45])=decide (c=45):=by
     have:(List.toArray (c::cs)).extract 0 (0+1) = #[c]:=by simp
     rw [this]
     by_cases hc:c=45
     ·subst hc;rfl
     ·rw [decide_eq_false hc]
      simp [hc]
    rw [h]
    simp [Str.length]
theorem zvk {x:Str} {c:Nat} {cs:List Nat} (h:x.cps.toList=c::cs):atI x.cps.toList 0=some c:=by
 have:=zaf (xs:=x.cps.toList) (j:=0) (v:=c) (by rw [h];rfl)
 simpa using this
noncomputable abbrev DIG:Str := "0123456789"
noncomputable def znh (c:Nat):Bool:=decide (48≤c) && decide (c≤57)
theorem zop (c:Nat):decide (c∈DIG.cps.toList)=znh c:=by
 have e:DIG.cps.toList=[48,49,50,51,52,53,54,55,56,57]:=by decide +kernel
 rw [e]
 unfold znh
 rw [← Bool.decide_and,decide_eq_decide]
 simp only [List.mem_cons,List.not_mem_nil,or_false]
 omega
theorem zrq (c:Nat):(!(Builtin.Str.occurrences DIG ⟨#[c]⟩ 0 DIG.length 1).isEmpty)=znh c:=by rw [PySem.StrLaws.found_one,zop]
theorem zfj (cs:List Nat):cs.all znh=true↔AllDigits cs:=by
 rw [List.all_eq_true]
 refine forall_congr' λ c=>imp_congr Iff.rfl ?_
 unfold znh
 simp
noncomputable def ztd (cs:List Nat):Option Int :=
 if cs.head? = some 45 then
  (if cs.tail.length<1 ∨ 30<cs.tail.length ∨ cs.tail.all znh=false ∨ cs.tail.head? = some 48 then none else some (-((digitsVal cs.tail:Nat):Int)))
 else (if cs.length<1 ∨ 30<cs.length ∨ cs.all znh=false ∨ (cs.head? = some 48∧1<cs.length) then none else some ((digitsVal cs:Nat):Int))
section
variable {X:Cx}
noncomputable def zyq:V→List V→Hp→VK→Prop:=λ x xs H Q=>∃ z y,x = .str z∧xs=[.str y]∧Q (.bl (Txt.startswith z y)) H
theorem zze:MtR X "str.startswith" zyq:=by
 intro pins s σ H x xs v us Q I rx rv h
 obtain ⟨z,y,rfl,rfl,q⟩:=h
 obtain ⟨t,rfl⟩:=rx
 obtain ⟨u,rfl,ru⟩:=rv.one
 obtain ⟨t',rfl⟩:=ru
 exact SC.startswith ⟨.bl _,H,I,rfl,q⟩
theorem zzf:zlf X (.type "int") (λ xs H Q=>∃ z n,xs=[.str z]∧z.length≤640∧PySem.intText? z=some n∧Q (.int n) H):=by
 intro pins s σ H xs us Q I rv h
 obtain ⟨z,n,rfl,hl,hn,q⟩:=h
 obtain ⟨u,rfl,ru⟩:=rv.one
 obtain ⟨t,rfl⟩:=ru
 exact W.KIN.call_text hn hl ⟨.int _,H,I.tok _,⟨_,rfl⟩,q⟩
end
theorem log2_lt {i:Int} {k:Nat} (h:i.natAbs<2 ^ k) (hk:0<k):i.natAbs.log2<k:=by
 rcases Nat.eq_zero_or_pos i.natAbs with e | e
 ·rw [e];simpa using hk
 ·exact (Nat.log2_lt (by omega)).mpr h
theorem zfm {i:Int} {k:Nat} (hk:0<k) (h:i.natAbs<10 ^ k):(Str.ofString (toString i)).length≤k+1:=by
 have:=int_text_length_le10 hk h
 have e:(Str.ofString (toString i)).length=(toString i).length:=PySem.ofString_length _
 omega
theorem zow {i:Int} (h1 : -(10 ^ 40)<i) (h2:i<10 ^ 40):i.natAbs<10 ^ 40:=by omega
theorem zco {i:Int} (h1 : -(10 ^ 40)<i) (h2:i<10 ^ 40):i.natAbs.log2<1920:=log2_lt (Nat.lt_trans (zow h1 h2) (Nat.lt_of_lt_of_le (show (10:Nat) ^ 40<2 ^ 200 by decide) (Nat.pow_le_pow_right (by decide) (by decide)))) (by decide)
theorem zjl {i:Int} (h1 : -(10 ^ 40)<i) (h2:i<10 ^ 40):(Str.ofString (toString i)).length≤41:=zfm (by decide) (zow h1 h2)
theorem zim {α:Type} {xs:List α} {i:Int} (h0:0≤i) (h1:i<xs.length):∃ v,atI xs i=some v∧v∈xs:=by
 obtain ⟨j,rfl⟩:∃ j:Nat,i=j:=⟨i.toNat,by omega⟩
 have hj:j<xs.length:=by omega
 exact ⟨xs[j],zaf (by simp [List.getElem?_eq_getElem hj]),List.getElem_mem hj⟩
end L2
namespace L2
open PySem PySem.Spec PyProof.Rows PySem.NumText
theorem zug:∀ {l:List (Str×Tok)} {ys:List Str},l.map (·.1)=ys→Vals (ys.map V.str) (strValues l):=by
 intro l
 induction l with
 | nil=>intro ys e;cases e;exact .nil
 | cons p l ih=>intro ys e;cases e;exact .cons ⟨p.2,rfl⟩ (ih rfl)
open Builtin.Str in
theorem zql {prog:Program} {w:World} {A:Around} {E:Value→Shared→Prop} {s:Shared} {x y:Str} {t u:Tok} {Q:Value→Shared→Prop} (hy:(y.length == 0)=false)
  (hq:∀ l tk,l.map (·.1)=Txt.split x y→Q (.ref s.heap.objs.size) { s with heap:=s.heap.push { cls := .type "list",data := .seq (strValues l).toArray },toks:=tk })
  (hsz:x.length≤sizeLine) (hsz2:(partsBetween x (occurrences x y 0 x.length (x.length+1)) y.length).length≤sizeLine) :
  wpAny (model prog w) A (call (.builtin "str.split") [.str x t,.str y u]) Q E s:=by
 cases h1:(decide (x.length<y.length) || decide (strKind x<strKind y))
 ·cases hf:(occurrences x y 0 x.length (x.length+1)).isEmpty
  ·refine call_meets F.slot_str_split (typeIs_str _ _ _) F.entry_str_split (F.args_str_split_2 _ _) (meets_str_split_sep x y t u h1 hy hf hsz hsz2) ?_
   show wants Q E _ { s with toks:=_,heap:=s.heap.push { cls := .type "list",data := .seq (strsFrom s.toks (partsBetween x (occurrences x y 0 x.length (x.length+1)) y.length)).toArray } }
   rw [strsFrom_eq]
   exact hq (numbered s.toks _) _ ((numbered_texts _ _).trans ((if_neg (ne_true_of_eq_false h1)).trans (if_neg (ne_true_of_eq_false hf))).symm)
  ·exact call_meets F.slot_str_split (typeIs_str _ _ _) F.entry_str_split (F.args_str_split_2 _ _) (meets_str_split_not_found x y t u h1 hy hf)
    (hq [(x,t)] _ ((if_neg (ne_true_of_eq_false h1)).trans (if_pos hf)).symm)
 ·exact call_meets F.slot_str_split (typeIs_str _ _ _) F.entry_str_split (F.args_str_split_2 _ _) (meets_str_split_cannot_occur x y t u h1)
   (hq [(x,t)] _ (if_pos h1).symm)
section
variable {X:Cx}
noncomputable def zft:V→List V→Hp→VK→Prop:=λ x xs H Q=>∃ z y,x = .str z∧xs=[.str y]∧(y.length == 0)=false∧z.length≤10000∧∀ l,H l=none→Q (.ref l) (upd H l (.lst ((Txt.split z y).map V.str)))
theorem zdi:MtR X "str.split" zft:=by
 intro pins s σ H x xs v us Q I rx rv h
 obtain ⟨z,y,rfl,rfl,hy,hz,q⟩:=h
 obtain ⟨t,rfl⟩:=rx
 obtain ⟨u,rfl,ru⟩:=rv.one
 obtain ⟨t',rfl⟩:=ru
 have hl:(10000:Nat)+2≤sizeLine:=by rw [sizeLine_eq];decide
 refine zql hy (λ l tk e=>?_) (by omega) ?_
 ·refine ⟨.ref s.heap.objs.size,_,I.laid (t':=tk) (o := .lst ((Txt.split z y).map V.str)) (λ b ob q=>Heap.get?_push_of_some _ q) (Nat.le_refl _) ?_,rfl,q _ (I.hok.fresh (Nat.le_refl _))⟩
  refine ⟨?_,_,0,zug e,Heap.get?_push_size _ rfl⟩
  have:=split_le z y
  rw [List.length_map]
  omega
 ·rw [len_partsBetween]
  have:=StrLaws.occ_length_le z y 0 z.length (z.length+1)
  omega
noncomputable def gLst (K:W.Frag) (n:Nat) (t:TGs):TG:=λ v σ H Q=>∃ a xs,v = .ref a∧SqL K H a xs∧xs.length=n∧t xs σ H Q
theorem zmo {pos:Pos} {es:List Expr} {k:Nat} {t:TGs} {n:Nat} (hc:X.calm=true) (h:PGs X es t)
  (hn:(assignEach es X.env).length=n:=by rfl) (hst:(assignEach es X.env).findIdx? (·.1)=none:=by rfl):PG X (.Tuple es k pos) (gLst X.K n t) := .mk <| by
 intro pins s σ H v u Q I r hw
 obtain ⟨a,xs,e1,hq,hl,hw⟩:=hw
 subst e1
 cases r
 obtain ⟨its,rv,ht,hz⟩:=I.list hq
 rw [assign_Tuple]
 refine wpAny_bind (wpAny_standAt ?_)
 unfold unpack
 have hn':(assignEach es X.env).length=its.toArray.size:=by simp [hn,← hl,rv.length]
 rw [hn',hst]
 refine wpAny_bind (wpAny_holding (W.kun_itemsOf (I.ok.hd hc) ht.isList λ h' hx=>?_))
 have I1:Inv X pins σ H { s with heap:=h' }:=I.kept (t':=s.toks) λ b o e=>hx b o (Nat.ne_of_lt (Heap.lt_size e)) e
 exact h pins _ σ H xs _ Q I1 (by simpa using rv) hw
end
theorem Same.seqT {K:W.Frag} {H H':Hp} {a:Addr} {xs:List V} (e:Same H H') (h:SqT K H a xs):SqT K H' a xs:=by
 rcases h with h | h
 ·rcases h with h | ⟨o,h⟩
  ·exact .inl (.inl (e _ _ h))
  ·exact .inl (.inr ⟨o,e _ _ h⟩)
 ·exact .inr h
theorem zjd {J:It} {n:Nat} {nt:Nat} {cap:List Nat} {g:TG} {te:TE} {σ:St} {H1:Hp} {Q:VK} {D:Addr} (val:Nat→V) (R:Nat→V→Hp→Prop) (hD:H1 D=none) (hP:Plain H1) (hx:n≤sizeLine)
  (hJ:∀ i H2,Same H1 H2→(i<n→J.go i H2)∧(J.stop n H2)∧∀ x H3,i<n→J.yld i H2 x H3→H3=H2∧x=val i)
  (mono:∀ i y H H',R i y H→(∀ b o,b≠D→H b=some o→H' b=some o)→(∃ zs,H D=some (.lst zs))→R i y H')
  (step:∀ (i:Nat) H2 (T:VK),i<n→Plain H2→Same H1 H2→(∀ y H6,R i y H6→Same H2 H6→Plain H6→T y H6)→g (val i) (List.replicate nt none++caps cap σ) H2 λ σ4 H4=>te σ4 H4 T)
  (fin:∀ ys H2,ys.length=n→(∀ (i:Nat) y,ys[i]? = some y→R i y H2)→H2 D=some (.lst ys)→Same H1 H2→Plain H2→Q (.ref D) H2) :
  zmr J D nt cap g tYes te σ H1 Q:=by
 refine ⟨λ i m ys H2=>m=n - i∧i≤n∧ys.length=i∧H2 D=some (.lst ys)∧Same H1 H2∧Plain H2∧∀ (j:Nat) y,ys[j]? = some y→R j y H2,⟨_,rfl,Nat.zero_le _,rfl,upd_same,zfa hD,hP.lst,λ j y e=>by simp at e⟩,?_⟩
 rintro i m ys H2 ⟨rfl,hi,hl,hd,hs,hp,hr⟩
 refine ⟨hd,?_⟩
 obtain ⟨j1,j2,j3⟩:=hJ i H2 hs
 by_cases hlt:i<n
 ·refine .inr ⟨j1 hlt,by omega,λ v H3 hy=>?_⟩
  obtain ⟨rfl,rfl⟩:=j3 v H3 hlt hy
  simp only [tYes,if_true]
  refine step i _ _ hlt hp hs λ y H6 hR hs6 hp6=>⟨hs6 _ _ hd,_,by omega,rfl,hlt,by simp [hl],upd_same,?_,hp6.lst,?_⟩
  ·exact (hs.trans hs6).upd hD
  ·intro j z e
   have up:∀ b o,b≠D→H6 b=some o→(upd H6 D (.lst (ys++[y]))) b=some o:=λ b o hb e=>by rw [zva hb];exact e
   rcases Nat.lt_or_ge j ys.length with hj | hj
   ·rw [List.getElem?_append_left hj] at e
    refine mono j z H6 _ (mono j z _ H6 (hr j z e) (λ b o _ e=>hs6 b o e) ⟨_,hd⟩) up ⟨_,hs6 _ _ hd⟩
   ·rw [List.getElem?_append_right hj] at e
    have hj0:j - ys.length=0:=by
     rcases Nat.eq_zero_or_pos (j - ys.length) with h0 | h0
     ·exact h0
     ·rw [List.getElem?_eq_none (by simp;omega)] at e;cases e
    rw [hj0] at e
    simp at e
    subst e
    have:j=i:=by omega
    subst this
    exact mono j y H6 _ hR up ⟨_,hs6 _ _ hd⟩
 ·have e:i=n:=by omega
  subst e
  exact .inl ⟨j2,fin ys H2 hl hr hd hs hp⟩
theorem zcn {K:W.Frag} {a:Addr} {xs:List V} {H1:Hp} (h:SqL K H1 a xs):∀ i H2,Same H1 H2→(i<xs.length→(Itl K a).go i H2)∧((Itl K a).stop xs.length H2)∧∀ x H3,i<xs.length→(Itl K a).yld i H2 x H3→H3=H2∧x=xs.getD i .non:=λ i H2 e=>by
 refine ⟨λ hi=>⟨xs,xs[i],e.seq h,by simp [hi]⟩,⟨xs,e.seq h,Nat.le_refl _⟩,λ x H3 hi y=>⟨y.1,?_⟩⟩
 have:=y.2 xs (e.seq h)
 rw [List.getD_eq_getElem?_getD,this];rfl
theorem zoq {K:W.Frag} {a:Addr} {xs:List V} {H1:Hp} (h:SqT K H1 a xs):∀ i H2,Same H1 H2→(i<xs.length→(Itt K a).go i H2)∧((Itt K a).stop xs.length H2)∧∀ x H3,i<xs.length→(Itt K a).yld i H2 x H3→H3=H2∧x=xs.getD i .non:=λ i H2 e=>by
 refine ⟨λ hi=>⟨xs,xs[i],e.seqT h,by simp [hi]⟩,⟨xs,e.seqT h,Nat.le_refl _⟩,λ x H3 hi y=>⟨y.1,?_⟩⟩
 have:=y.2 xs (e.seqT h)
 rw [List.getD_eq_getElem?_getD,this];rfl
mutual
noncomputable def DV (K:W.Frag) (H:Hp):PyData→V→Prop
 | .none,v=>v = .non
 | .bool b,v=>v = .bl b
 | .int i,v=>v = .int i
 | .str x,v=>v = .str x
 | .list xs,v=>∃ a vs,v = .ref a∧SqL K H a vs∧DVs K H xs vs
 | .tuple xs,v=>∃ a vs,v = .ref a∧SqT K H a vs∧DVs K H xs vs
 | .dict _,_=>False
noncomputable def DVs (K:W.Frag) (H:Hp):List PyData→List V→Prop
 | [],vs=>vs=[]
 | d::ds,vs=>∃ v r,vs=v::r∧DV K H d v∧DVs K H ds r
end
mutual
theorem DV.same {K:W.Frag} {H H':Hp} (e:Same H H'):∀ (d:PyData) (v:V),DV K H d v→DV K H' d v
 | .none,v,h=>h
 | .bool b,v,h=>h
 | .int i,v,h=>h
 | .str x,v,h=>h
 | .list xs,v,⟨a,vs,h1,h2,h3⟩=>⟨a,vs,h1,e.seq h2,DVs.same e xs vs h3⟩
 | .tuple xs,v,⟨a,vs,h1,h2,h3⟩=>⟨a,vs,h1,e.seqT h2,DVs.same e xs vs h3⟩
 | .dict _,v,h=>h.elim
theorem DVs.same {K:W.Frag} {H H':Hp} (e:Same H H'):∀ (ds:List PyData) (vs:List V),DVs K H ds vs→DVs K H' ds vs
 | [],vs,h=>h
 | d::ds,vs,⟨v,r,h1,h2,h3⟩=>⟨v,r,h1,DV.same e d v h2,DVs.same e ds r h3⟩
end
section
variable {X:Cx} {pins:List (Addr×Obj)} {σ:St} {H:Hp} {s:Shared}
mutual
theorem DV.reads (I:Inv X pins σ H s):∀ (d:PyData) (v:V) (u:Value),DV X.K H d v→RelV v u→∃ as,Reads s.heap u d as
 | .none,v,u,h,r=>by cases (show v=V.non from h);cases r;exact ⟨_,.none⟩
 | .bool b,v,u,h,r=>by cases (show v=V.bl b from h);cases r;exact ⟨_,.bool b⟩
 | .int i,v,u,h,r=>by cases (show v=V.int i from h);obtain ⟨t,rfl⟩:=r;exact ⟨_,.int i t⟩
 | .str x,v,u,h,r=>by cases (show v=V.str x from h);obtain ⟨t,rfl⟩:=r;exact ⟨_,.str x t⟩
 | .list xs,v,u,h,r=>by
  obtain ⟨a,vs,rfl,h2,h3⟩:=h
  cases r
  obtain ⟨its,rv,pl,_⟩:=I.list h2
  obtain ⟨o,ho,hc,n,hd⟩:=pl.isList
  obtain ⟨as,ra⟩:=DVs.reads I xs vs its h3 rv
  exact ⟨_,.list ho hc hd (by simpa using ra)⟩
 | .tuple xs,v,u,h,r=>by
  obtain ⟨a,vs,rfl,h2,h3⟩:=h
  cases r
  obtain ⟨its,rv,pl,_⟩:=I.tuple h2
  obtain ⟨o,ho,hc,n,hd⟩:=pl
  obtain ⟨as,ra⟩:=DVs.reads I xs vs its h3 rv
  exact ⟨_,.tuple ho hc hd (by simpa using ra)⟩
 | .dict _,v,u,h,r=>h.elim
theorem DVs.reads (I:Inv X pins σ H s):∀ (ds:List PyData) (vs:List V) (us:List Value),DVs X.K H ds vs→Vals vs us→∃ as,ReadsAll s.heap us ds as
 | [],vs,us,h,r=>by cases (show vs=[] from h);cases r;exact ⟨_,.nil⟩
 | d::ds,vs,us,h,r=>by
  obtain ⟨v,rest,rfl,h2,h3⟩:=h
  cases r with
  | cons r rr =>
   obtain ⟨as,ra⟩:=DV.reads I d _ _ h2 r
   obtain ⟨bs,rb⟩:=DVs.reads I ds _ _ h3 rr
   exact ⟨_,.cons ra rb⟩
end
end
section
variable {X:Cx}
noncomputable def rNeD (K:W.Frag):R2:=λ x y H Q=>∃ d e,DV K H d x∧DV K H e y∧SeqAt.shaped d=true∧SeqAt.shaped e=true∧Q (.bl (!PyData.eqv d e)) H
theorem zmp (hu:X.A.units+64<cLine):OpR X (compareOp .NotEq) (rNeD X.K):=by
 intro pins s σ H x y v u Q I rx ry h
 obtain ⟨d,e,hd,he,sd,se,q⟩:=h
 obtain ⟨as,ra⟩:=DV.reads I d x v hd rx
 obtain ⟨bs,rb⟩:=DV.reads I e y u he ry
 exact SeqAt.compareNe_shaped ra rb sd se hu ⟨.bl _,H,I,rfl,q⟩
end
noncomputable def zlc {α:Type} (Pre:α→List V→Hp→Prop) (Post:α→V→Hp→Prop) (Exc:α→Addr→Prop):Sp:=λ vs H Q E=>Plain H∧∃ a,Pre a vs H∧(∀ v H',Post a v H'→Same H H'→Plain H'→Q v H')∧(∀ C H',Exc a C→Same H H'→Plain H'→E (.ref C) none H')
noncomputable def zib {α β:Type} (f:α→Option β):List α→Option (List β)
 | []=>some []
 | x::xs=>match f x with
  | none=>none
  | some y=>match zib f xs with
   | none=>none
   | some ys=>some (y::ys)
theorem zpc {α β:Type} {f:α→Option β}:∀ {xs:List α} {x:α},x∈xs→f x=none→zib f xs=none:=by
 intro xs
 induction xs with
 | nil=>intro x h;cases h
 | cons a xs ih =>
  intro x h e
  unfold zib
  rcases List.mem_cons.mp h with rfl | h
  ·rw [e]
  ·rw [ih h e]
   cases f a <;> rfl
theorem zde {α β:Type} {f:α→Option β}:∀ {xs:List α} {ys:List β},xs.length=ys.length→(∀ (i:Nat) x,xs[i]? = some x→∃ y,ys[i]? = some y∧f x=some y)→zib f xs=some ys:=by
 intro xs
 induction xs with
 | nil =>
  intro ys hl h
  cases ys with
  | nil=>rfl
  | cons _ _=>simp at hl
 | cons a xs ih =>
  intro ys hl h
  cases ys with
  | nil=>simp at hl
  | cons b ys =>
   obtain ⟨y,e1,e2⟩:=h 0 a rfl
   have e1:b=y:=by simpa using e1
   subst e1
   have:=ih (ys:=ys) (by simpa using hl) λ i x e=>h (i+1) x (by simpa using e)
   unfold zib
   rw [e2,this]
theorem znk {α:Type} {xs:List α} {f:α→V} {ys:List V} (hl:ys.length=xs.length) (h:∀ (i:Nat) y,ys[i]? = some y→∃ x,xs[i]? = some x∧y=f x):ys=xs.map f:=by
 apply List.ext_getElem?
 intro i
 rw [List.getElem?_map]
 cases e:ys[i]? with
 | none =>
  have:xs[i]? = none:=by rw [List.getElem?_eq_none_iff] at e ⊢;omega
  rw [this];rfl
 | some y =>
  obtain ⟨x,e1,e2⟩:=h i y e
  rw [e1,e2];rfl
theorem zpl {α:Type} {R:Nat→α→Prop} {f:α→V}:∀ {ys:List V} ,(∀ (i:Nat) y,ys[i]? = some y→∃ x,y=f x∧R i x)→∃ xs:List α,ys=xs.map f∧∀ (i:Nat) x,xs[i]? = some x→R i x:=by
 intro ys
 induction ys generalizing R with
 | nil=>intro _;exact ⟨[],rfl,λ i x e=>by simp at e⟩
 | cons y ys ih =>
  intro h
  obtain ⟨x,e,r⟩:=h 0 y rfl
  obtain ⟨xs,e2,r2⟩:=ih (R:=λ i x=>R (i+1) x) λ i z e=>h (i+1) z (by simpa using e)
  refine ⟨x::xs,by rw [e,e2];rfl,λ i z ez=>?_⟩
  cases i with
  | zero=>simp at ez;subst ez;exact r
  | succ i=>exact r2 i z (by simpa using ez)
end L2
namespace L2
open PySem PySem.Spec PyProof.Rows PySem.NumText
section
variable {X:Cx}
end
end L2
namespace HT
open PySem PySem.Spec PyProof.Rows
section
variable {prog:Program} {w:World} {A:Around} {E:Value→Shared→Prop} {s:Shared}
theorem getItem_tuple_whole {t sl:Addr} {items:Array Value} {vl vu:Value} {lo hi:Option Int} {Q:Value→Shared→Prop} (ht:IsTup s.heap t items) (hs:s.heap.IsSliceOf sl vl vu .none) (pl:IsPart vl lo) (pu:IsPart vu hi)
  (hw:sIx items.size 0 lo=0∧sIx items.size items.size hi=items.size) (h:Q (.ref t) s):wpAny (model prog w) A (getItem (.ref t) (.ref sl)) Q E s:=by
 obtain ⟨os,hos,hcs,hds⟩:=id hs
 have hTs:s.TypeIs (.ref sl) "slice" := ⟨os,hos,hcs⟩
 unfold getItem
 try with_reducible refine wpAny_holding ?_
 first | refine wpAny_bind (wpAny_pure ?_) | skip
 refine wpAny_bind (wpAny_sequenceKey ht.typeIs (by decide) ?_)
 refine wpAny_bind (wpAny_callSpecial?_slot (name:=Str.ofString "__getitem__") ht.typeIs PyProof.Rows.slot_tuple_getitem
  (wpAny_call_entry PyProof.Rows.slot_tuple_getitem ht.typeIs entry_tuple_getitem ?_ (args_tuple_getitem _ _)))
 show wpAny _ _ (Builtin.Tuple.tupleItemsOf (.ref t) >>= _) _ _ s
 refine wpAny_bind (tupleItemsOf_ ht ?_)
 refine wpAny_bind (wpAny_typeOf hTs ?_)
 rw [if_pos (by decide)]
 refine wpAny_bind (zsb hs pl pu ?_)
 have hyes:((((sIx items.size 0 lo:Nat):Int) == 0 && (1:Int) == 1 && (sIx items.size items.size hi - sIx items.size 0 lo) == items.size)=true):=by
  rw [hw.1,hw.2]
  simp
 show wpAny _ _ (if (((sIx items.size 0 lo:Nat):Int) == 0 && (1:Int) == 1 && (sIx items.size items.size hi - sIx items.size 0 lo) == items.size)=true then _ else _) _ _ s
 rw [if_pos hyes]
 refine wpAny_bind ?_
 unfold Builtin.Tuple.tupleIsExact
 refine wpAny_bind (wpAny_typeOf ht.typeIs (wpAny_pure ?_))
 rw [if_pos (by decide)]
 refine wpAny_bind (wpAny_rule ?_)
 refine wpAny_pure ⟨_,rfl,?_⟩
 exact wpAny_pure h
end
end HT
namespace L2
open PySem PySem.Spec PyProof.Rows PySem.NumText
section
variable {X:Cx}
noncomputable def rSlG (K:W.Frag):V→Option Int→Option Int→Hp→VK→Prop:=λ x lo hi H Q=>∃ a xs,x = .ref a∧SqT K H a xs∧∀ p H',SqT K H' p (cutV xs lo hi)→Same H H'→(Plain H→Plain H')→Q (.ref p) H'
theorem zcf:SlR X (rSlG X.K):=by
 intro pins s σ H x v vl vu lo hi sl Q I rx hs pl pu h
 obtain ⟨a,xs,rfl,hx,q⟩:=h
 by_cases hw:HT.sIx xs.length 0 lo=0∧HT.sIx xs.length xs.length hi=xs.length
 ·cases rx
  obtain ⟨its,r,ht,hz⟩:=I.tuple hx
  have hlen:its.toArray.size=xs.length:=by rw [List.size_toArray];exact r.length.symm
  refine ⟨"tuple",_,PyProof.Rows.slot_tuple_getitem.lookup,ht.typeIs,?_⟩
  refine HT.getItem_tuple_whole ht hs pl pu (by rw [hlen];exact hw) ⟨.ref a,H,I,rfl,q _ _ ?_ (Same.refl _) id⟩
  unfold cutV
  rw [hw.1,hw.2]
  simpa using hx
 ·exact zpt pins s σ H (.ref a) v vl vu lo hi sl Q I rx hs pl pu ⟨a,xs,rfl,hx,hw,λ p hp=>q _ _ (SqT.of upd_same) (zfa hp) λ z=>z.tup⟩
noncomputable def zvx (K:W.Frag):R2:=λ x y H Q=>∃ a b xs ys,x = .ref a∧y = .ref b∧SqT K H a xs∧SqT K H b ys∧xs.length+ys.length≤sizeLine∧∀ p H',SqT K H' p (xs++ys)→Same H H'→(Plain H→Plain H')→Q (.ref p) H'
theorem zrg:OpR X (binaryOp .Add) (zvx X.K):=by
 intro pins s σ H x y v u Q I rx ry h
 obtain ⟨a,b,xs,ys,rfl,rfl,ha,hb,hz,q⟩:=h
 by_cases hx:xs=[]
 ·cases rx
  cases ry
  obtain ⟨its,r1,p1,_⟩:=I.tuple ha
  obtain ⟨its2,r2,p2,_⟩:=I.tuple hb
  have e:its=[]:=by subst hx;cases r1;rfl
  subst e
  obtain ⟨⟨cls,dd,data,sl⟩,ho,hc,n,hd⟩:=id p1
  obtain ⟨⟨cls2,dd2,data2,sl2⟩,ho2,hc2,n2,hd2⟩:=id p2
  simp only at hc hd hc2 hd2
  subst hc hd hc2 hd2
  exact concat_meets ⟨_,ho,rfl⟩ ⟨_,ho2,rfl⟩ noFill_tuple_add seq_tuple_add PySem.F.slot_tuple_add PySem.F.entry_tuple_add (PySem.F.args_tuple_add_2 _ _)
   (tuple_addW0 a b #[] its2.toArray n n2 dd dd2 sl sl2 rfl) ⟨ho,ho2,⟨.ref b,H,I,rfl,q _ _ (by subst hx;exact hb) (Same.refl _) id⟩⟩
 ·refine zbp pins s σ H _ _ v u Q I rx ry ⟨a,b,xs,ys,rfl,rfl,ha,hb,hx,hz,λ e=>q _ _ (by subst e;rw [List.append_nil];exact ha) (Same.refl _) id,λ _ p hp=>q _ _ (SqT.of upd_same) (zfa hp) λ z=>z.tup⟩
end
mutual
noncomputable def noL:PyData→Bool
 | .list _=>false
 | .tuple xs=>noLs xs
 | _=>true
noncomputable def noLs:List PyData→Bool
 | []=>true
 | d::ds=>noL d && noLs ds
end
theorem SqT.mono {K:W.Frag} {H H':Hp} {a D:Addr} {xs:List V} (k:∀ b o,b≠D→H b=some o→H' b=some o) (hd:∃ zs,H D=some (.lst zs)) (h:SqT K H a xs):SqT K H' a xs:=by
 obtain ⟨zs,hd⟩:=hd
 rcases h with h | h
 ·rcases h with h | ⟨o,h⟩
  ·exact .inl (.inl (k _ _ (znw h hd (λ e=>nomatch e)) h))
  ·exact .inl (.inr ⟨o,k _ _ (znw h hd (λ e=>nomatch e)) h⟩)
 ·exact .inr h
mutual
theorem DV.mono {K:W.Frag} {H H':Hp} {D:Addr} (k:∀ b o,b≠D→H b=some o→H' b=some o) (hd:∃ zs,H D=some (.lst zs)):∀ (d:PyData) (v:V),noL d=true→DV K H d v→DV K H' d v
 | .none,v,_,h=>h
 | .bool b,v,_,h=>h
 | .int i,v,_,h=>h
 | .str x,v,_,h=>h
 | .list xs,v,n,_=>by cases n
 | .tuple xs,v,n,⟨a,vs,h1,h2,h3⟩=>⟨a,vs,h1,h2.mono k hd,DVs.mono k hd xs vs n h3⟩
 | .dict _,v,_,h=>h.elim
theorem DVs.mono {K:W.Frag} {H H':Hp} {D:Addr} (k:∀ b o,b≠D→H b=some o→H' b=some o) (hd:∃ zs,H D=some (.lst zs)):∀ (ds:List PyData) (vs:List V),noLs ds=true→DVs K H ds vs→DVs K H' ds vs
 | [],vs,_,h=>h
 | d::ds,vs,n,⟨v,r,h1,h2,h3⟩=>by
  have n:noL d=true∧noLs ds=true:=by rw [noLs,Bool.and_eq_true] at n;exact n
  exact ⟨v,r,h1,DV.mono k hd d v n.1 h2,DVs.mono k hd ds r n.2 h3⟩
end
theorem DVs.length {K:W.Frag} {H:Hp}:∀ {ds:List PyData} {vs:List V},DVs K H ds vs→vs.length=ds.length
 | [],vs,h=>by cases (show vs=[] from h);rfl
 | d::ds,vs,⟨v,r,h1,h2,h3⟩=>by subst h1;simp [DVs.length h3]
theorem DVs.get {K:W.Frag} {H:Hp}:∀ {ds:List PyData} {vs:List V} {i:Nat} {d:PyData},DVs K H ds vs→ds[i]? = some d→∃ v,vs[i]? = some v∧DV K H d v
 | [],vs,i,d,h,e=>by simp at e
 | d::ds,vs,0,e',⟨v,r,h1,h2,h3⟩,e=>by subst h1;simp at e;subst e;exact ⟨v,rfl,h2⟩
 | d::ds,vs,i+1,e',⟨v,r,h1,h2,h3⟩,e=>by subst h1;simp at e;obtain ⟨u,hu,q⟩:=DVs.get h3 e;exact ⟨u,by simpa using hu,q⟩
section
variable {X:Cx} {K:W.Frag}
end
end L2
namespace L2
open PySem PySem.Spec PyProof.Rows PySem.NumText
noncomputable abbrev Stp:=Int×Int×Int
noncomputable def stp (s:Stp):PyData := .tuple [.int s.1,.int s.2.1,.int s.2.2]
noncomputable def plc (ss:List Stp):PyData := .tuple (ss.map stp)
noncomputable abbrev sV (s:Stp):List V:=[.int s.1,.int s.2.1,.int s.2.2]
theorem zau {K:W.Frag} {H:Hp} {s:Stp} {v:V} (h:DV K H (stp s) v):∃ t,v = .ref t∧SqT K H t (sV s):=by
 obtain ⟨t,vs,rfl,hq,x,r,rfl,hx,y,r2,rfl,hy,z,r3,rfl,hz,h4⟩:=h
 cases (show x=V.int s.1 from hx)
 cases (show y=V.int s.2.1 from hy)
 cases (show z=V.int s.2.2 from hz)
 cases (show r3=[] from h4)
 exact ⟨t,rfl,hq⟩
theorem zus {K:W.Frag} {H:Hp} {s:Stp} {t:Addr} (h:SqT K H t (sV s)):DV K H (stp s) (.ref t):=⟨t,_,rfl,h,_,_,rfl,rfl,_,_,rfl,rfl,_,_,rfl,rfl,rfl⟩
theorem zmm (s:Stp):noL (stp s)=true:=rfl
theorem zsh:∀ ss:List Stp,noLs (ss.map stp)=true
 | []=>rfl
 | s::ss=>by rw [List.map_cons,noLs,zmm,zsh ss];rfl
theorem ztq (ss:List Stp):noL (plc ss)=true:=zsh ss
theorem zbe:∀ ss:List Stp,PyData.canLayAll0 (ss.map stp)=true
 | []=>rfl
 | s::ss=>by
  rw [List.map_cons,PyData.canLayAll0,zbe ss]
  rfl
theorem zue:∀ ss:List Stp,PyData.depthAll (ss.map stp)≤1
 | []=>Nat.zero_le _
 | s::ss=>by
  rw [List.map_cons,PyData.depthAll]
  have h1:PyData.depth (stp s)=1:=rfl
  have h2:=zue ss
  rw [h1]
  omega
theorem zgr (ss:List Stp):PyData.canLay0 (plc ss)=true:=zbe ss
theorem zif (ss:List Stp):SeqAt.shaped (plc ss)=true:=by
 unfold SeqAt.shaped
 rw [zgr,Bool.true_and]
 have h:PyData.depth (plc ss)=PyData.depthAll (ss.map stp)+1:=rfl
 have:=zue ss
 exact decide_eq_true (by omega)
theorem zuo (a b:Stp):PyData.eqv (stp a) (stp b)=decide (a=b):=by
 obtain ⟨a1,a2,a3⟩:=a
 obtain ⟨b1,b2,b3⟩:=b
 have e:PyData.eqv (stp (a1,a2,a3)) (stp (b1,b2,b3))=(a1 == b1 && (a2 == b2 && (a3 == b3 && true))):=rfl
 rw [e,Bool.eq_iff_iff]
 simp
theorem zrj:∀ a b:List Stp,PyData.eqvAll (a.map stp) (b.map stp)=decide (a=b)
 | [],[]=>rfl
 | [],_::_=>rfl
 | _::_,[]=>rfl
 | x::a,y::b=>by
  rw [List.map_cons,List.map_cons,PyData.eqvAll,zuo,zrj a b,Bool.eq_iff_iff]
  simp
theorem zqo (a b:List Stp):PyData.eqv (plc a) (plc b)=decide (a=b):=zrj a b
theorem zbr {K:W.Frag} {H:Hp} {ss:List Stp} {vs:List V} {i:Nat} (h:DVs K H (ss.map stp) vs) (hi:i<ss.length):∃ t,vs[i]? = some (.ref t)∧SqT K H t (sV ss[i]):=by
 obtain ⟨v,hv,hd⟩:=h.get (i:=i) (d:=stp ss[i]) (by simp [hi])
 obtain ⟨t,rfl,hq⟩:=zau hd
 exact ⟨t,hv,hq⟩
theorem zek {α:Type} {K:W.Frag} {H:Hp} {f:α→PyData}:∀ {ys:List V} {R:Nat→α→Prop},(∀ (i:Nat) y,ys[i]? = some y→∃ x,DV K H (f x) y∧R i x)→∃ xs:List α,xs.length=ys.length∧DVs K H (xs.map f) ys∧∀ (i:Nat) x,xs[i]? = some x→R i x:=by
 intro ys
 induction ys with
 | nil=>intro R _;exact ⟨[],rfl,rfl,λ i x e=>by simp at e⟩
 | cons y ys ih =>
  intro R h
  obtain ⟨x,e,r⟩:=h 0 y rfl
  obtain ⟨xs,e1,e2,r2⟩:=ih (R:=λ i x=>R (i+1) x) λ i z e=>h (i+1) z (by simpa using e)
  refine ⟨x::xs,by simp [e1],⟨y,ys,rfl,e,e2⟩,λ i z ez=>?_⟩
  cases i with
  | zero=>simp at ez;subst ez;exact r
  | succ i=>exact r2 i z (by simpa using ez)
theorem zkd {xs:List V} {i:Int} (h0:0≤i):cutV xs (some i) none=xs.drop i.toNat:=by
 obtain ⟨j,rfl⟩:∃ j:Nat,i=j:=⟨i.toNat,by omega⟩
 unfold cutV
 rw [HT.sIx_none,HT.sIx_nat,Int.toNat_natCast]
 rcases Nat.le_total j xs.length with h | h
 ·rw [Nat.min_eq_left h,List.take_of_length_le (by rw [List.length_drop];exact Nat.le_refl _)]
 ·rw [Nat.min_eq_right h,List.drop_of_length_le h,List.drop_of_length_le (Nat.le_refl _),List.take_nil]
end L2
namespace L2
open PySem PySem.Spec PyProof.Rows PySem.NumText
section
open PySem.SeqAt
open PySem.AutoSeq1 (wpAny_loadPart')
open PySem.MeetsSeq PySem.MeetsSeq2 PySem.MeetsSeq3
end
section
variable {X:Cx} {pins:List (Addr×Obj)} {σ:St} {H:Hp} {s:Shared} {A:Around}
end
section
variable {X:Cx} {K:W.Frag}
end
end L2
namespace L2
open PySem PySem.Spec PyProof.Rows PySem.NumText
section
open PySem.SeqAt
open PySem.AutoSeq1 (wpAny_loadPart')
open PySem.MeetsSeq PySem.MeetsSeq2 PySem.MeetsSeq3
end
section
variable {X:Cx}
end
end L2
namespace L2
open PySem
noncomputable abbrev ST:=SetTable
end L2
namespace L2
open PySem
end L2
namespace L2
open PySem PySem.Spec PyProof.Rows PySem.NumText
section
variable {prog:Program} {w:World}
end
end L2
namespace L2
open PySem PySem.Spec PyProof.Rows PySem.NumText
section
variable {prog:Program} {w:World}
end
end L2
namespace L2
open PySem PySem.Spec PyProof.Rows PySem.NumText
section
variable {prog:Program} {w:World} {A:Around} {E:Value→Shared→Prop} {s:Shared}
end
end L2
namespace L2
open PySem PySem.Spec PyProof.Rows PySem.NumText
section
variable {prog:Program} {w:World} {A:Around} {E:Value→Shared→Prop} {s:Shared}
end
end L2
namespace L2
open PySem PySem.Spec PyProof.Rows PySem.NumText
section
variable {prog:Program} {w:World} {A:Around} {R:Result→Shared→Prop} {I:Addr} {fp wr:List Addr} {G:Array GenState→Array GenState→Prop} {n:Nat} {P:Nat→Value→Prop} {St:Nat→Shared→Prop}
end
section
variable {prog:Program} {w:World} {A:Around} {E:Value→Shared→Prop} {s:Shared}
end
end L2
namespace L2
open PySem PySem.Spec PyProof.Rows PySem.NumText
section
variable {X:Cx}
end
end L2
namespace L2
open PySem PySem.Spec PyProof.Rows PySem.NumText
section
variable {prog:Program} {w:World}
end
end L2
namespace L2
open PySem PySem.Spec PyProof.Rows PySem.NumText
section
variable {X:Cx}
end
section
variable {prog:Program} {w:World} {A:Around} {R:Result→Shared→Prop} {I:Addr} {fp wr:List Addr} {n:Nat} {P:Nat→Value→Prop} {St:Nat→Heap→Prop} {h0:Heap} {kw:List (Str×Value)}
end
section
variable {X:Cx}
end
end L2
namespace L2
open PySem PySem.Spec PyProof.Rows
section
variable {X:Cx} {CX:CXT} {k:Nat} {f C D:Addr} {fd:FuncData} {ps:List Str} {sp:Sp} {dvs:List V} {ds:List Value} {EX:XK} {x m:Str} {p pos apos:Pos} {e o:Expr} {es:List Expr} {ta:TE} {t:TA} {σ₀:St}
noncomputable def zzx (K:W.Frag) (i:Nat) (D:Addr) (tb:St→XK→TS) (th:TS):TS:=λ Dn σ H=>∃ E1:XK,tb σ E1 Dn σ H ∧
 ∀ (C y:Addr) (H1:Hp),E1 (.ref C) none H1→H1 y=none→XCls K C∧W.mroIn K C (.ref D)=some true ∧
  th { nx:=λ σ2 H2=>Dn.nx (σ2.set i none) H2,rt:=λ v H2=>Dn.rt v H2,bk:=λ σ2 H2=>Dn.bk (σ2.set i none) H2,ct:=λ σ2 H2=>Dn.ct (σ2.set i none) H2 } (σ.set i (some (.ref y))) (upd H1 y (excO y C))
theorem zsq {i:Nat} {n dn:Str} {body:List Stmt} {tb:St→XK→TS} {b₀:Stmt} {suite:List Stmt} {th:TS} {p3 p4 pos:Pos} (nd:X.N.Nodup) (xd:XCls X.K D) (hg:Gl X dn) (hm:X.mg dn=some (.ref D)) (tp:X.Top)
  (hb:∀ σ₀ E' pn' E1,zsi (CX1 X.prog X.w X.base) (X.tryC E' pn') σ₀ E1→PSs (X.tryC E' pn') body (tb σ₀ E1))
  (hh:∀ x,PSs (X.hand x) (b₀::suite) th) (hi:X.N[i]? = some n:=by rfl) (hn:X.env.scope.names.lookup n=some .local:=by rfl) (hdb:(dn == ("__debug__" : Str))=false:=by decide) :
  PS X (.Try body [.ExceptHandler (some (.Name dn p3)) (some n) (b₀::suite) p4] [] [] pos) (zzx X.K i D tb th) := .mk <| by
 intro pins s σ H Dn I h
 obtain ⟨E1,hte,hth⟩:=h
 show wpAny (model X.prog X.w) X.A (do standAt pos;tryStmt false (execs body X.env) [.ExceptHandler (some (.Name dn p3)) (some n) (b₀::suite) p4] (execs [] X.env) [] X.env) (SP X pins Dn) X.xe s
 refine wpAny_bind (wpAny_standAt (wpAny_tryStmt_except ?_))
 generalize hE:(λ (e:Value) (s₁:Shared)=>wpAny (model X.prog X.w) X.A (noteFrame e X.env) (λ _ s₂=>wpAny (model X.prog X.w) X.A (setFlight e none) (λ _ s₃ =>
  wpAny (model X.prog X.w) X.A (handleBy e X.env [.ExceptHandler (some (.Name dn p3)) (some n) (b₀::suite) p4]) (SP X pins Dn) X.xe s₃) X.xe s₂) X.xe s₁)=E'
 have hx:zsi (CX1 X.prog X.w X.base) (X.tryC E' pins) σ E1:=by
  rintro pins' H1 s1 _ s' J1 ⟨x,C,H',rfl,os,bare,un,hok,F,q⟩
  have J:Inv (X.tryC E' pins) [] σ H' s':=(J1.call' (ch:=[]) os un hok bare λ b z=>absurd z (by simp)).nopins
  have F':Fly (X.tryC E' pins).new H' x C s'.heap:=F.imp λ b hb=>zjs J1 hb
  have tp':(X.tryC E' pins).Top:=⟨tp.top⟩
  show E' (.ref x) s'
  rw [← hE]
  refine zof (X:=X.tryC E' pins) J tp' F' λ h1 I1 F1 t1=>?_
  refine zkc (X:=X.tryC E' pins) (A:=X.A) I1 F1 t1 λ h2 I2 F2 t2=>?_
  obtain ⟨xc,hmro,hsuite⟩:=hth C x H' q F2.free
  obtain ⟨oe,vs,a1,a2,a3,a4,_,_⟩:=id F2.ob
  refine wpAny_handleBy_cons (codeAny_handlers_test ?_) (by intro q;cases q)
  refine zve (X:=X.hand x) (I2.ofTry.toHand x) hg hm ?_ hdb
  refine zzk (I2.kIn) xd xc hmro a1 a2 ?_
  refine codeAny_handlers_suite_as ?_
  refine zkc (X:=X.tryC E' pins) (A:=X.A.mark (some (.ref x))) I2 F2 t2 λ h3 I3 F3 _=>?_
  obtain ⟨oe3,vs3,c1,c2,c3,c4,_,_⟩:=id F3.ob
  have I4:Inv (X.hand x) pins σ (upd H' x (excO x C)) { s' with heap:=h3 }:=(I3.ofTry.toHand x).track (λ o e=>F3.new.1 o e) (λ p hp=>F3.new.2 p hp) F3.free ⟨_,_,c1,c2,c3,c4⟩
  refine zqf (X:=X.hand x) (v := .ref x) I4 nd hi (.inl hn) rfl (λ s5 I5=>?_) (.inr hn)
  refine wpAny_mono (hh x pins s5 _ _ _ I5 hsuite) (λ fl s6 q6=>?_) λ _ _ z=>z.elim
  show wpAny (model X.prog X.w) X.A (do bindName X.env n .none;unbindBehindTheSuite X.env n p4) (λ _ s₃=>SP X pins Dn fl s₃) X.xe s6
  have hcls:(X.env.scope.kind == .class || (X.env.scope.kind == .module && X.env.locals != X.env.globals))=false:=by rw [I.ok.kind];rfl
  have go:∀ {σ6:St} {H6:Hp} {R:Unit→Shared→Prop},Inv (X.hand x) pins σ6 H6 s6→(∀ s7,Inv X pins (σ6.set i none) H6 s7→R () s7)→wpAny (model X.prog X.w) X.A (do bindName X.env n .none;unbindBehindTheSuite X.env n p4) R X.xe s6:=fun {σ6 H6 R} I6 k=>by
   have I6':Inv X pins σ6 H6 s6:=I6.ofHand I.ok.hd
   obtain ⟨m,hm6,hl6⟩:=I6'.loc
   exact wpAny_nameGoes_keeps hn hm6 hcls λ h' v a b=>k _ (I6'.goes nd hi hm6 hl6 a b)
  cases fl with
  | next=>obtain ⟨σ6,H6,I6,r6⟩:=q6;exact go I6 λ s7 I7=>⟨_,H6,I7,r6⟩
  | brk=>obtain ⟨σ6,H6,I6,r6⟩:=q6;exact go I6 λ s7 I7=>⟨_,H6,I7,r6⟩
  | cont=>obtain ⟨σ6,H6,I6,r6⟩:=q6;exact go I6 λ s7 I7=>⟨_,H6,I7,r6⟩
  | ret u=>obtain ⟨v,σ6,H6,I6,rv,r6⟩:=q6;exact go I6 λ s7 I7=>⟨v,_,H6,I7,rv,r6⟩
 refine thn (hb σ E' pins E1 hx [] s σ H Dn (I.toTry E') hte) λ fl s1 q1=>?_
 cases fl with
 | next=>obtain ⟨σ1,H1,I1,r1⟩:=q1;exact wpAny_execs_nil ⟨σ1,H1,I1.ofTry,r1⟩
 | brk=>obtain ⟨σ1,H1,I1,r1⟩:=q1;exact ⟨σ1,H1,I1.ofTry,r1⟩
 | cont=>obtain ⟨σ1,H1,I1,r1⟩:=q1;exact ⟨σ1,H1,I1.ofTry,r1⟩
 | ret u=>obtain ⟨v,σ1,H1,I1,rv,r1⟩:=q1;exact ⟨v,σ1,H1,I1.ofTry,rv,r1⟩
end
end L2
namespace L2
open PySem PySem.Spec PyProof.Rows PySem.NumText
theorem zkg (x:Str) (c:Nat):(Txt.partition x ⟨#[c]⟩=(x,Str.empty,Str.empty)∧c∉x.cps.toList) ∨ ((Txt.partition x ⟨#[c]⟩).2.1=⟨#[c]⟩∧c∉(Txt.partition x ⟨#[c]⟩).1.cps.toList):=by
 unfold Txt.partition
 rcases StrLaws.occ_head x ⟨#[c]⟩ 1 (Nat.le_refl _) with ⟨e,hn⟩ | ⟨i,r,e,ha,hn⟩
 ·rw [e]
  refine .inl ⟨rfl,?_⟩
  have:=StrLaws.part_free x c 0 x.length (Nat.le_refl _) λ k _ _=>hn k
  rwa [StrLaws.sub_whole] at this
 ·rw [e]
  refine .inr ⟨rfl,?_⟩
  exact StrLaws.part_free x c 0 i (by have:=ha.1;omega) λ k _ hk=>hn k hk
theorem zij {c:Nat}:∀ {a b r s:List Nat},c∉a→c∉b→a++c::r=b++c::s→a=b∧r=s
 | [],[],_,_,_,_,h=>⟨rfl,(List.cons.inj h).2⟩
 | [],y::b,_,_,_,hb,h=>absurd (List.mem_cons.mpr (.inl (List.cons.inj h).1)) hb
 | x::a,[],_,_,ha,_,h=>absurd (List.mem_cons.mpr (.inl (List.cons.inj h).1.symm)) ha
 | x::a,y::b,r,s,ha,hb,h=>by
  have h:=List.cons.inj h
  obtain ⟨e1,e2⟩:=zij (λ z=>ha (List.mem_cons_of_mem _ z)) (λ z=>hb (List.mem_cons_of_mem _ z)) h.2
  exact ⟨by rw [h.1,e1],e2⟩
theorem zhc (c:Nat) (p q:Str) (r:List Str):(Str.join ⟨#[c]⟩ (p::q::r)).cps.toList=p.cps.toList++c::(Str.join ⟨#[c]⟩ (q::r)).cps.toList:=by
 show ((p++(⟨#[c]⟩:Str))++Str.join ⟨#[c]⟩ (q::r)).cps.toList=_
 show ((p.cps ++ #[c])++(Str.join ⟨#[c]⟩ (q::r)).cps).toList=_
 simp
theorem zvb {c:Nat}:∀ (ps qs:List Str),ps≠[]→qs≠[]→(∀ p∈ps,c∉p.cps.toList)→(∀ p∈qs,c∉p.cps.toList)→Str.join ⟨#[c]⟩ ps=Str.join ⟨#[c]⟩ qs→ps=qs
 | [],_,h,_,_,_,_=>absurd rfl h
 | _::_,[],_,h,_,_,_=>absurd rfl h
 | [p],[q],_,_,_,_,h=>by
  have h:p=q:=h
  rw [h]
 | [p],q::q2::r,_,_,hp,_,h=>by
  have h:p=Str.join ⟨#[c]⟩ (q::q2::r):=h
  refine absurd ?_ (hp p List.mem_cons_self)
  rw [h,zhc]
  simp
 | p::p2::r,[q],_,_,_,hq,h=>by
  have h:Str.join ⟨#[c]⟩ (p::p2::r)=q:=h
  refine absurd ?_ (hq q List.mem_cons_self)
  rw [← h,zhc]
  simp
 | p::p2::r,q::q2::t,_,_,hp,hq,h=>by
  have h:(Str.join ⟨#[c]⟩ (p::p2::r)).cps.toList=(Str.join ⟨#[c]⟩ (q::q2::t)).cps.toList:=by rw [h]
  rw [zhc,zhc] at h
  obtain ⟨e1,e2⟩:=zij (hp p List.mem_cons_self) (hq q List.mem_cons_self) h
  have e3:=zvb (p2::r) (q2::t) (by simp) (by simp) (λ z hz=>hp z (List.mem_cons_of_mem _ hz)) (λ z hz=>hq z (List.mem_cons_of_mem _ hz)) (ext_toList e2)
  rw [ext_toList e1,e3]
theorem zcc (x:Str) (c:Nat):Txt.split x ⟨#[c]⟩≠[]:=by
 intro h
 unfold Txt.split at h
 split at h
 ·cases h
 ·split at h
  ·cases h
  ·rw [StrLaws.partsBetween_eq] at h
   obtain ⟨p,q,e⟩:=StrLaws.partsFrom_ne x (⟨#[c]⟩:Str).length 0 (Builtin.Str.occurrences x ⟨#[c]⟩ 0 x.length (x.length+1))
   rw [e] at h
   cases h
theorem zvj {x:Str} {c:Nat} (h:c∉x.cps.toList):Txt.split x ⟨#[c]⟩=[x] :=
 zvb _ _ (zcc x c) (by simp) (StrLaws.split_free x c) (λ p hp=>by rw [List.mem_singleton.mp hp];exact h) (by rw [StrLaws.join_split];rfl)
theorem zzc {a r:Str} {c:Nat} (h:c∉a.cps.toList):Txt.split (a++(⟨#[c]⟩:Str)++r) ⟨#[c]⟩=a::Txt.split r ⟨#[c]⟩:=by
 have hne:=zcc r c
 refine zvb _ _ (zcc _ c) (by simp) (StrLaws.split_free _ c) (λ p hp=>?_) ?_
 ·rcases List.mem_cons.mp hp with rfl | hp
  ·exact h
  ·exact StrLaws.split_free r c p hp
 ·rw [StrLaws.join_split]
  have e:Str.join ⟨#[c]⟩ (Txt.split r ⟨#[c]⟩)=r:=StrLaws.join_split r _
  cases hs:Txt.split r ⟨#[c]⟩ with
  | nil=>exact absurd hs hne
  | cons q t =>
   rw [hs] at e
   show _=(a++(⟨#[c]⟩:Str))++Str.join ⟨#[c]⟩ (q::t)
   rw [e]
theorem zse (x:Str) (c:Nat):(Txt.partition x ⟨#[c]⟩=(x,Str.empty,Str.empty)∧Txt.split x ⟨#[c]⟩=[x]) ∨
  ∃ a r,Txt.partition x ⟨#[c]⟩=(a,⟨#[c]⟩,r)∧Txt.split x ⟨#[c]⟩=a::Txt.split r ⟨#[c]⟩∧x=a++(⟨#[c]⟩:Str)++r∧c∉a.cps.toList:=by
 rcases zkg x c with ⟨e,h⟩ | ⟨e,h⟩
 ·exact .inl ⟨e,zvj h⟩
 ·have hs:=StrLaws.partition_sum x ⟨#[c]⟩
  rw [e] at hs
  refine .inr ⟨(Txt.partition x ⟨#[c]⟩).1,(Txt.partition x ⟨#[c]⟩).2.2,Prod.ext rfl (Prod.ext e rfl),?_,hs.symm,h⟩
  have:=zzc (r:=(Txt.partition x ⟨#[c]⟩).2.2) h
  rwa [hs] at this
section
variable {X:Cx}
noncomputable def zui:V→List V→Hp→VK→Prop:=λ x xs H Q=>∃ z y,x = .str z∧xs=[.str y]∧(y.length == 0)=false∧z.length≤10000∧∀ l,H l=none→Q (.ref l) (upd H l (.tup [.str (Txt.partition z y).1,.str (Txt.partition z y).2.1,.str (Txt.partition z y).2.2]))
theorem zdc:MtR X "str.partition" zui:=by
 intro pins s σ H x xs v us Q I rx rv h
 obtain ⟨z,y,rfl,rfl,hy,hz,q⟩:=h
 obtain ⟨t,rfl⟩:=rx
 obtain ⟨u,rfl,ru⟩:=rv.one
 obtain ⟨t',rfl⟩:=ru
 have hl:(10000:Nat)+2≤sizeLine:=by rw [sizeLine_eq];decide
 have fin:∀ (ta tb tc:Tok) (k:Nat),EP X pins σ Q (.ref s.heap.objs.size) { s with heap:=s.heap.push { cls := .type "tuple",data := .seq [.str (Txt.partition z y).1 ta,.str (Txt.partition z y).2.1 tb,.str (Txt.partition z y).2.2 tc].toArray },toks:=k }:=λ ta tb tc k =>
  ⟨.ref s.heap.objs.size,_,I.laid (t':=k) (o := .tup [.str (Txt.partition z y).1,.str (Txt.partition z y).2.1,.str (Txt.partition z y).2.2]) (λ b ob q=>Heap.get?_push_of_some _ q) (Nat.le_refl _) ⟨by show 3≤sizeLine;omega,_,.cons ⟨ta,rfl⟩ (.cons ⟨tb,rfl⟩ (.cons ⟨tc,rfl⟩ .nil)),⟨_,Heap.get?_push_size _ rfl,rfl,0,rfl⟩⟩,rfl,q _ (I.hok.fresh (Nat.le_refl _))⟩
 refine call_meets F.slot_str_partition (typeIs_str _ _ _) F.entry_str_partition (F.args_str_partition_2 _ _) (meets_str_partition z y t t' hy (by omega)) ?_
 unfold Txt.partition at fin
 revert fin
 cases Builtin.Str.occurrences z y 0 z.length 1 with
 | nil=>intro fin;exact fin _ _ _ _
 | cons i r=>intro fin;exact fin _ _ _ _
noncomputable def PJ (X:Cx) (es:List Expr) (t:Str→TE):Prop :=
 ∀ (out:Str) (pins:List (Addr×Obj)) (s:Shared) (σ:St) (H:Hp) (Q:VK),Inv X pins σ H s→t out σ H Q→wpAny (model X.prog X.w) X.A (joinParts out (evalEach es X.env)) (EP X pins σ Q) X.xe s
theorem znq:PJ X [] (λ out _ H Q=>out.length≤sizeLine∧Q (.str out) H):=λ out pins s σ H Q I h=>joinParts_nil ⟨.str out,H,I.tok _,⟨_,rfl⟩,h.2⟩ h.1
theorem zsj {e:Expr} {es:List Expr} {te:TE} {t:Str→TE} {pos:Pos} (he:PE X e te) (hr:PJ X es t) :
  PJ X (.FormattedValue e (-1) none pos::es) (λ out σ H Q=>te σ H λ x H1=>∃ y,x = .str y∧y.length≤sizeLine∧(out++y).length≤sizeLine∧t (out++y) σ H1 Q):=by
 intro out pins s σ H Q I h
 refine joinParts_cons (FormattedValue_plain (thn (he pins s σ H _ I h) λ v s1 ⟨x,H1,I1,r1,y,e1,l0,l1,q1⟩=>?_))
 subst e1
 obtain ⟨tk,rfl⟩:=r1
 exact formatField_str (λ t' tk=>⟨l1,hr (out++y) pins _ σ H1 Q (I1.tok tk) q1⟩) l0
theorem zsn {y:Str} {k:Nat} {es:List Expr} {t:Str→TE} {pos:Pos} (hr:PJ X es t) :
  PJ X (.Constant (.str y) k pos::es) (λ out σ H Q=>(out++y).length≤sizeLine∧t (out++y) σ H Q):=by
 intro out pins s σ H Q I h
 exact joinParts_cons (Calls.Constant_str ⟨h.1,hr (out++y) pins _ σ H Q (I.tok _) h.2⟩)
theorem zzl {v1 v2:Expr} {rest:List Expr} {t:Str→TE} {pos:Pos} (h:PJ X (v1::v2::rest) t):PE X (.JoinedStr (v1::v2::rest) pos) (t Str.empty) := .mk <| λ pins s σ H Q I q=>JoinedStr_many (h Str.empty pins s σ H Q I q)
end
end L2
namespace L2
open PySem PySem.Spec PyProof.Rows PySem.NumText
theorem zmn {z:Str}:PyData.strOk z=true ↔ ∀ n∈z.cps.toList,n<0x110000:=by
 unfold PyData.strOk
 rw [← Array.all_toList,List.all_eq_true]
 constructor
 ·intro h n hn;exact of_decide_eq_true (h n hn)
 ·intro h n hn;exact decide_eq_true (h n hn)
theorem zsa (a b:Str):(a++b).cps.toList=a.cps.toList++b.cps.toList:=by
 show (a.cps++b.cps).toList=_
 simp
theorem zmd (sep:Str):∀ (ps:List Str) (n:Nat),n∈(Str.join sep ps).cps.toList→n∈sep.cps.toList ∨ ∃ p∈ps,n∈p.cps.toList
 | [],n,h=>by simp [Str.join,Str.empty] at h
 | [q],n,h=>.inr ⟨q,List.mem_cons_self,h⟩
 | q::q2::r,n,h=>by
  have h:n∈((q++sep)++Str.join sep (q2::r)).cps.toList:=h
  rw [zsa,zsa,List.mem_append,List.mem_append] at h
  rcases h with (h | h) | h
  ·exact .inr ⟨q,List.mem_cons_self,h⟩
  ·exact .inl h
  ·rcases zmd sep (q2::r) n h with z | ⟨p,hp,z⟩
   ·exact .inl z
   ·exact .inr ⟨p,List.mem_cons_of_mem _ hp,z⟩
theorem zss (s:String):PyData.strOk (Str.ofString s)=true:=by
 rw [zmn]
 intro n hn
 rw [signs_ofString] at hn
 obtain ⟨c,_,rfl⟩:=List.mem_map.mp hn
 have:=c.valid
 unfold UInt32.isValidChar Nat.isValidChar at this
 show c.val.toNat<1114112
 omega
theorem zog (x:Str):Str.empty++x=x:=ext_toList (by rw [zsa];rfl)
theorem zhi (a b c:Str):(a++b)++c=a++(b++c):=ext_toList (by rw [zsa,zsa,zsa,zsa,List.append_assoc])
theorem zer (c:Nat) (t:Str):(!(Builtin.Str.occurrences t ⟨#[c]⟩ 0 t.length 1).isEmpty)=decide (c∈t.cps.toList):=by
 have hs:=StrLaws.partition_sum t ⟨#[c]⟩
 have h:=zkg t c
 unfold Txt.partition at h hs
 cases e:Builtin.Str.occurrences t ⟨#[c]⟩ 0 t.length 1 with
 | nil =>
  rw [e] at h
  rcases h with ⟨_,h⟩ | ⟨h,_⟩
  ·rw [decide_eq_false h];rfl
  ·have:(0:Nat)=1:=congrArg Str.length h
   cases this
 | cons i r =>
  rw [e] at h hs
  rcases h with ⟨h,_⟩ | ⟨_,_⟩
  ·have:(1:Nat)=0:=congrArg (λ q:Str×Str×Str=>q.2.1.length) h
   cases this
  ·dsimp only at hs
   have:c∈t.cps.toList:=by rw [← hs,zsa,zsa];simp
   rw [decide_eq_true this];rfl
end L2
namespace L2
open PySem PySem.Spec PyProof.Rows PySem.NumText
noncomputable abbrev Ver:=Int×List Stp×Str
noncomputable def ver (v:Ver):PyData := .tuple [.int v.1,plc v.2.1,.str v.2.2]
noncomputable def vdat:Option Ver→PyData
 | none=>.none
 | some v=>ver v
theorem zlp {K:W.Frag} {H:Hp} {v:Ver} {x:V} (h:DV K H (ver v) x):∃ t pv,x = .ref t∧SqT K H t [.int v.1,pv,.str v.2.2]∧DV K H (plc v.2.1) pv:=by
 obtain ⟨t,vs,rfl,hq,a,r,rfl,ha,b,r2,rfl,hb,c,r3,rfl,hc,h4⟩:=h
 cases (show a=V.int v.1 from ha)
 cases (show c=V.str v.2.2 from hc)
 cases (show r3=[] from h4)
 exact ⟨t,b,rfl,hq,hb⟩
theorem zko {K:W.Frag} {H:Hp} {v:Ver} {t:Addr} {pv:V} (h:SqT K H t [.int v.1,pv,.str v.2.2]) (hp:DV K H (plc v.2.1) pv):DV K H (ver v) (.ref t):=⟨t,_,rfl,h,_,_,rfl,rfl,_,_,rfl,hp,_,_,rfl,rfl,rfl⟩
theorem zvm (o:Option Ver):noL (vdat o)=true:=by
 cases o with
 | none=>rfl
 | some v =>
  show (noL (.int v.1) && (noL (plc v.2.1) && (noL (.str v.2.2) && true)))=true
  rw [ztq]
  rfl
end L2
namespace L2
open PySem PySem.Spec PyProof.Rows PySem.NumText PySem.W
section
variable {n:Nat} {s:Shared} {cmp:Nat→Nat→(Bool→Shared→Prop)→Shared→Prop} {lt:Nat→Nat→Bool}
end
end L2
namespace L2
open PySem PySem.Spec PyProof.Rows PySem.NumText PySem.W
section
variable {prog:Program} {w:World} {A:Around} {E:Value→Shared→Prop} {s:Shared} {a:Addr} {vs:List Value} {lt:Nat→Nat→Bool}
end
end L2
namespace L2
open PySem PySem.Spec PyProof.Rows PySem.NumText PySem.W
section
variable {prog:Program} {w:World} {A:Around} {E:Value→Shared→Prop} {s:Shared}
end
section
variable {α:Type} {as:List α} {enc:α→List PyData} {lt:α→α→Bool} {f:FirstTy}
end
end L2
namespace L2
open PySem PySem.Spec PyProof.Rows PySem.NumText PySem.W
section
variable {X:Cx}
end
end L2
namespace L2
open PySem PySem.Spec PyProof.Rows PySem.NumText
noncomputable abbrev Mark:=Int×Int
noncomputable def mkV (m:Mark):List V:=[.int m.1,.int m.2]
section
variable {X:Cx} {pins:List (Addr×Obj)} {σ:St} {H:Hp} {s:Shared} {a:Addr} {es:List Ent}
variable {o i e value:Expr} {pos pos':Pos} {td ty tv:TE}
end
end L2
namespace L2
open PySem PySem.Spec PyProof.Rows PySem.NumText
section
variable {prog:Program} {w:World} {A:Around} {E:Value→Shared→Prop} {s:Shared} {d it v:Addr} {ds:Array DictEntry} {ep i:Nat} {ok ov:Value}
end
end L2
namespace L2
open PySem PySem.Spec PyProof.Rows PySem.NumText
section
variable {prog:Program} {w:World} {A:Around} {E:Value→Shared→Prop} {s:Shared} {d it S r:Addr} {ds:Array DictEntry} {ep:Nat}
end
section
variable {X:Cx} {pins:List (Addr×Obj)} {σ:St} {H:Hp} {s:Shared} {h':Heap}
end
end L2
namespace L2
open PySem PySem.Spec PyProof.Rows PySem.NumText
section
variable {prog:Program} {w:World} {A:Around} {E:Value→Shared→Prop} {s:Shared} {l:Addr} {xs:Array Value} {c:Nat} {sl:Array (Option Value)}
end
section
variable {prog:Program} {w:World} {A:Around} {E:Value→Shared→Prop} {s:Shared} {l d it:Addr}
end
section
variable {X:Cx}
end
end L2
namespace L2
open PySem PySem.Spec PyProof.Rows PySem.NumText
section
variable {X:Cx} {pins:List (Addr×Obj)} {σ:St} {H:Hp} {s:Shared} {a:Addr} {es:List Ent} {o:Obj}
end
section
variable {X:Cx} {o:Expr} {td:TE} {apos cpos:Pos}
end
end L2
namespace L2
open PySem PySem.Spec PyProof.Rows PySem.NumText
noncomputable def markD (m:Mark):PyData := .tuple [.int m.1,.int m.2]
theorem zpo {K:W.Frag} {H:Hp} {q:Addr} {m:Mark} (h:SqT K H q (mkV m)):DV K H (markD m) (.ref q):=⟨q,_,rfl,h,_,_,rfl,rfl,_,_,rfl,rfl,rfl⟩
theorem zmg {K:W.Frag} {H:Hp} {m:Mark} {v:V} (h:DV K H (markD m) v):∃ q,v = .ref q∧SqT K H q (mkV m):=by
 obtain ⟨q,vs,rfl,h1,v1,r1,rfl,e1,v2,r2,rfl,e2,e3⟩:=h
 cases (show v1 = .int m.1 from e1)
 cases (show v2 = .int m.2 from e2)
 cases (show r2=[] from e3)
 exact ⟨q,rfl,h1⟩
section
variable {X:Cx}
end
end L2
namespace L2
open PySem PySem.Spec PyProof.Rows PySem.NumText
theorem zcr (v:Ver):noL (ver v)=true:=zvm (some v)
end L2
namespace L2
open PySem PySem.Spec PyProof.Rows PySem.NumText
end L2
namespace L2
open PySem PySem.Spec PyProof.Rows PySem.NumText
section
variable {X:Cx}
end
end L2
namespace L2
open PySem PySem.Spec PyProof.Rows PySem.NumText
section
variable {prog:Program} {w:World} {A:Around} {E:Value→Shared→Prop} {s:Shared}
end
end L2
namespace L2
open PySem PySem.Spec PyProof.Rows PySem.NumText
section
variable {prog:Program} {w:World} {A:Around} {E:Value→Shared→Prop} {s:Shared}
end
end L2
namespace L2
open PySem PySem.Spec PyProof.Rows PySem.NumText
section
variable {prog:Program} {w:World} {A:Around} {E:Value→Shared→Prop} {s:Shared}
end
end L2
namespace L2
open PySem PySem.Spec PyProof.Rows PySem.NumText
section
variable {prog:Program} {w:World} {A:Around} {E:Value→Shared→Prop} {s:Shared}
end
section
variable {prog:Program} {w:World} {A:Around} {R:Result→Shared→Prop} {I:Addr} {fp wr:List Addr} {G:Array GenState→Array GenState→Prop} {n:Nat} {P:Nat→Value→Prop} {St:Nat→Shared→Prop}
end
section
variable {prog:Program} {w:World} {A:Around} {E:Value→Shared→Prop} {s:Shared}
end
end L2
namespace L2
open PySem PySem.Spec PyProof.Rows PySem.NumText
section
variable {X:Cx} {pins:List (Addr×Obj)} {σ:St} {H:Hp} {s:Shared}
end
section
variable {X:Cx}
end
end L2
namespace L2
open PySem PySem.Spec PyProof.Rows PySem.NumText
section
variable {prog:Program} {w:World} {A:Around} {E:Value→Shared→Prop} {s:Shared}
end
section
variable {X:Cx} {e:Expr} {ta:TA} {x:Str} {id:String} {r:List V→Hp→VK→Prop} {p pos kp kp1:Pos} {j:Nat}
end
end L2
namespace L2
open PySem PySem.Spec PyProof.Rows PySem.NumText
section
variable {X:Cx}
end
end L2
namespace L2
open PySem PySem.Spec PyProof.Rows PySem.NumText
section
variable {prog:Program} {w:World} {A:Around} {E:Value→Shared→Prop} {s:Shared} {d it:Addr} {ds:Array DictEntry} {ep i:Nat}
end
end L2
namespace L2
open PySem PySem.Spec PyProof.Rows PySem.NumText
section
variable {X:Cx} {o:Expr} {td:TE}
end
section
variable {prog:Program} {w:World} {A:Around} {E:Value→Shared→Prop} {s:Shared} {d it S:Addr} {ds:Array DictEntry} {ep:Nat}
end
section
variable {X:Cx}
end
end L2
namespace L2
open PySem PySem.Spec PyProof.Rows PySem.NumText
section
variable {X:Cx}
end
section
variable {prog:Program} {w:World} {A:Around} {E:Value→Shared→Prop} {s:Shared} {d q:Addr}
end
end L2
namespace L2
open PySem PySem.Spec PyProof.Rows PySem.NumText
section
variable {prog:Program} {w:World} {A:Around} {E:Value→Shared→Prop} {s:Shared} {d q:Addr}
end
section
variable {X:Cx} {o e:Expr} {td ty:TE} {apos cpos:Pos}
end
end L2
namespace L2
open PySem PySem.Spec PyProof.Rows PySem.NumText
section
variable {prog:Program} {w:World} {A:Around} {E:Value→Shared→Prop} {s:Shared} {a it:Addr}
end
end L2
namespace L2
open PySem PySem.Spec PyProof.Rows PySem.NumText
section
variable {prog:Program} {w:World} {A:Around} {E:Value→Shared→Prop} {s:Shared} {a it:Addr}
end
section
variable {X:Cx}
end
end L2
namespace L2
open PySem PySem.Spec PyProof.Rows PySem.NumText
section
variable {prog:Program} {w:World} {A:Around} {E:Value→Shared→Prop} {s:Shared} {a it:Addr} {es:Array (Int×Value)} {ep i:Nat} {t:ST}
end
end L2
namespace L2
open PySem PySem.Spec PyProof.Rows PySem.NumText
section
variable {prog:Program} {w:World} {A:Around} {E:Value→Shared→Prop} {s:Shared} {a it S:Addr} {es:Array (Int×Value)} {ep:Nat} {t:ST}
end
section
variable {X:Cx}
end
end L2
namespace L2
open PySem PySem.Spec PyProof.Rows PySem.NumText
section
variable {prog:Program} {w:World} {A:Around} {R:Result→Shared→Prop} {s:Shared}
end
section
variable {X:Cx}
end
end L2
namespace L2
open PySem PySem.Spec PyProof.Rows PySem.NumText
section
variable {prog:Program} {w:World} {A:Around} {E:Value→Shared→Prop} {R:Result→Shared→Prop} {s:Shared}
end
section
variable {X:Cx}
end
end L2
namespace L2
open PySem PySem.Spec PyProof.Rows PySem.NumText
section
variable {X:Cx}
end
end L2
namespace L2
open PySem PySem.Spec PyProof.Rows PySem.NumText
end L2
namespace L2
open PySem PySem.Spec PyProof.Rows PySem.NumText
end L2
namespace L2
open PySem PySem.Spec PyProof.Rows PySem.NumText
section
variable {prog:Program} {w:World} {A:Around} {E:Value→Shared→Prop} {s:Shared} {d a:Addr} {ds:Array DictEntry} {ep:Nat} {o:Obj}
end
section
variable {X:Cx}
end
end L2
namespace L2
open PySem PySem.Spec PyProof.Rows PySem.NumText
section
variable {prog:Program} {w:World} {A:Around} {E:Value→Shared→Prop} {s:Shared} {d r:Addr} {ds:Array DictEntry} {ep:Nat}
end
section
variable {X:Cx}
end
end L2
namespace L2
open PySem PySem.Spec PyProof.Rows PySem.NumText
end L2
namespace L2
open PySem PySem.Spec PyProof.Rows PySem.NumText
end L2
namespace L2
open PySem PySem.Spec PyProof.Rows PySem.NumText
section
variable {X:Cx} {tg:Expr}
end
end L2
namespace L2
open PySem PySem.Spec PyProof.Rows PySem.NumText
section
variable {prog:Program} {w:World} {A:Around} {E:Value→Shared→Prop} {s:Shared}
end
section
variable {X:Cx}
end
end L2
namespace L2
open PySem PySem.Spec PyProof.Rows PySem.NumText
end L2
namespace L2
open PySem PySem.Spec PyProof.Rows PySem.NumText
section
variable {X:Cx} {tg:Expr}
end
end L2
namespace L2
open PySem PySem.Spec PyProof.Rows PySem.NumText
end L2
namespace L2
open PySem PySem.Spec PyProof.Rows PySem.NumText
end L2
namespace L2
open PySem PySem.Spec PyProof.Rows PySem.NumText PySem.W
section
variable {prog:Program} {w:World} {A:Around} {E:Value→Shared→Prop} {s:Shared} {a:Addr} {vs:List Value}
end
section
variable {X:Cx}
end
end L2
namespace L2
open PySem PySem.Spec PyProof.Rows PySem.NumText PySem.W
noncomputable def EntK (w:World):List DictEntry→List (Str×Value)→Prop
 | [],[]=>True
 | e::es,kv::kvs=>e.hash=hashStr w kv.1∧(∃ t,e.key = .str kv.1 t)∧e.val=kv.2∧EntK w es kvs
 | _,_=>False
noncomputable def DcK (w:World) (K:W.Frag) (d:Addr) (kvs:List (Str×Value)):Prop:=∃ es ep,K.lookup d=some ⟨.type "dict",none,.dict es ep, #[]⟩∧EntK w es.toList kvs∧(kvs.map (·.1)).Nodup
theorem EntK.pairs {P:Program} {w:World}:∀ {es:List DictEntry} {kvs:List (Str×Value)},EntK w es kvs→Pairs (strKind P w) es kvs∧∀ e∈es,∃ k,(strKind P w).is k e.key=true∧e.hash=(strKind P w).hash k:=by
 intro es
 induction es with
 | nil =>
  intro kvs h
  cases kvs with
  | nil=>exact ⟨.nil,λ e he=>absurd he (by simp)⟩
  | cons _ _=>exact False.elim h
 | cons e es ih =>
  intro kvs h
  cases kvs with
  | nil=>exact False.elim h
  | cons kv kvs =>
   obtain ⟨h1,⟨t,h2⟩,h3,h4⟩:=h
   obtain ⟨a,b⟩:=ih h4
   have hi:(strKind P w).is kv.1 e.key=true:=by rw [h2];exact beq_self_eq_true kv.1
   refine ⟨.cons hi h3 a,λ x hx=>?_⟩
   rcases List.mem_cons.mp hx with rfl | hx
   ·exact ⟨kv.1,hi,h1⟩
   ·exact b x hx
theorem DcK.dict {P:Program} {w:World} {K:W.Frag} {d:Addr} {kvs:List (Str×Value)} (D:DcK w K d kvs) {h:Heap} (k:K.In h):h.DictOf (strKind P w) d kvs:=by
 obtain ⟨es,ep,hl,he,nd⟩:=D
 obtain ⟨a,b⟩:=he.pairs (P:=P)
 exact ⟨_,es,ep,k d _ hl,⟨rfl,rfl,rfl⟩,rfl,λ e he=>b e (Array.mem_toList_iff.mpr he),a,nd⟩
section
variable {X:Cx}
variable {CX:CXT} {k:Nat} {E:XK} {x:Str} {p pos:Pos} {e:Expr} {es:List Expr} {t:TA}
end
end L2
namespace L2
open PySem PySem.Spec PyProof.Rows PySem.NumText
section
variable {X:Cx}
end
end L2
namespace L2
open PySem PySem.Spec PyProof.Rows PySem.NumText
end L2
namespace L2
open PySem PySem.Spec PyProof.Rows PySem.NumText
section
variable {X:Cx}
end
end L2
namespace L2
open PySem PySem.Spec PyProof.Rows PySem.NumText
section
variable {X:Cx} {o e z:Expr} {td ty tz:TE}
end
end L2
namespace L2
open PySem PySem.Spec PyProof.Rows PySem.NumText
section
variable {prog:Program} {w:World} {A:Around} {E:Value→Shared→Prop} {R:Result→Shared→Prop} {s:Shared}
end
section
variable {X:Cx}
end
end L2
namespace L2
open PySem PySem.Spec PyProof.Rows PySem.NumText
section
variable {X:Cx}
end
end L2
namespace L2
open PySem PySem.Spec PyProof.Rows PySem.NumText PySem.W
section
variable {X:Cx} {o e:Expr}
noncomputable def zln:Value→Option V
 | .int n _=>some (.int n)
 | .str z _=>some (.str z)
 | .ref a=>some (.ref a)
 | .none=>some .non
 | _=>none
theorem zef {u:Value} {v:V} (h:zln u=some v):RelV v u:=by
 cases u <;> first | cases h;exact ⟨_,rfl⟩ | cases h;rfl | cases h
noncomputable def zwy (d:Addr) (kvs:List (Str×Value)) (ty:TE):TE:=λ σ H Q=>ty σ H λ y H1=>∃ k,y = .str k∧((valueAt kvs k=none∧Q .non H1) ∨ ∃ u v,valueAt kvs k=some u∧zln u=some v∧Q v H1)
theorem ziq {d:Addr} {kvs:List (Str×Value)} {ty td:TE} {apos cpos:Pos} (D:DcK X.w X.K d kvs) (hd:(d == sysModules)=false) (ho:PE X o td) (htd:∀ σ H Q,Q (.ref d) H→td σ H Q) (he:PE X e ty) (hbase:attributeBase o "get" X.env (eval o X.env)=eval o X.env:=by rfl)
  (hfew:((backTo cpos (starEach [e] X.env)).all (λ x => !x.1) && (backToKw cpos (keywordEach [] X.env)).all (λ x=>x.1.isSome)
   && decide (([e]:List Expr).length+([]:List Keyword).length+(if ([]:List Keyword).isEmpty then 0 else 1)<30))=true:=by rfl)
  (hline:(apos.endLine == cpos.line)=true:=by rfl) (htr:backTo cpos (starEach [e] X.env)=[(false,eval e X.env)]:=by rfl):PE X (.Call (.Attribute o "get" apos) [e] [] cpos) (zwy d kvs ty) := .mk <| by
 intro pins s σ H Q I h
 refine wpAny_Call_method hbase hfew hline PySem.F.plainAttrs_dict PySem.F.slot_dict_get PySem.F.type_dict_get (thn (ho pins s σ H (λ v H1=>v = .ref d∧H1=H) I (htd _ _ _ ⟨rfl,rfl⟩)) λ u s1 ⟨x,H1,I1,rx,ex,eH⟩=>?_)
 subst ex eH
 cases rx
 have dd:s1.heap.DictOf (strKind X.prog X.w) d kvs:=D.dict I1.kIn
 refine ⟨dd.typeIs,λ b q=>?_,?_⟩
 ·cases q
  obtain ⟨ob,_,_,h1,h2,_⟩:=dd
  exact ⟨ob,h1,h2.2.1⟩
 rw [htr]
 refine wpAny_dict_get1 (knd:=strKind X.prog X.w) hd (thn (he pins s1 σ H1 _ I1 h) λ kv s2 ⟨y,H2,I2,ry,k,ey,alt⟩=>?_)
 subst ey
 obtain ⟨t,rfl⟩:=ry
 have d2:s2.heap.DictOf (strKind X.prog X.w) d kvs:=D.dict I2.kIn
 refine ⟨k,_,beq_self_eq_true k,d2.mapOf,?_⟩
 rcases alt with ⟨hn,q⟩ | ⟨u,v,hu,hc,q⟩
 ·rw [hn]
  exact ⟨.non,H2,I2.tok _,rfl,q⟩
 ·rw [hu]
  exact ⟨v,H2,I2.tok _,zef hc,q⟩
noncomputable def rIxC (d:Addr) (kvs:List (Str×Value)):R2:=λ x y H Q=>x = .ref d∧∃ k u v,y = .str k∧valueAt kvs k=some u∧zln u=some v∧Q v H
theorem ix_C {d:Addr} {kvs:List (Str×Value)} (D:DcK X.w X.K d kvs):IxR X (rIxC d kvs):=by
 intro value slice pins s σ H x y v u Q I rx ry h hs
 obtain ⟨rfl,k,u',v',rfl,hf,hc,q⟩:=h
 cases rx
 obtain ⟨t,rfl⟩:=ry
 have dd:s.heap.DictOf (strKind X.prog X.w) d kvs:=D.dict I.kIn
 have hT:s.TypeIs (.ref d) "dict" := dd.typeIs
 have fin:wpAny (model X.prog X.w) X.A (subscripted slice false (.ref d) (.str k t)) (λ r s3=>wpAny (model X.prog X.w) X.A (letTemporaryGo value (.ref d) r >>= λ _=>pure r) (EP X pins σ Q) X.xe s3) X.xe s:=by
  rw [hs]
  refine wpAny_operating (wpAny_getItem_of (knd:=strKind X.prog X.w) (k:=k) (beq_self_eq_true k) dd.mapOf hf ?_)
  exact wpAny_bind (wpAny_letTemporaryGo (wpAny_pure ⟨v',H,I.tok _,zef hc,q⟩))
 unfold subscriptTail
 refine wpAny_bind ?_
 rw [getitemInPython_of_ne hT.not_modules]
 refine wpAny_bind (wpAny_specialOf hT PySem.F.slot_dict_getitem.lookup ?_)
 first
  | exact wpAny_pure (wpAny_bind fin)
  | exact wpAny_bind (wpAny_pure (wpAny_bind fin))
open Builtin.Str in
noncomputable def zsf (x y:Str) (k:Nat):List Str:=if (decide (x.length<y.length) || decide (PySem.Builtin.Str.strKind x<PySem.Builtin.Str.strKind y))=true then [x] else if (occurrences x y 0 x.length k).isEmpty then [x] else partsBetween x (occurrences x y 0 x.length k) y.length
end
open Builtin.Str in
theorem zid (s y:Str) (hi k N:Nat):∀ (l:List Nat) (a b:Array Nat×Nat),a.1.toList=b.1.toList.take k→(b.1.size<k→a.2=b.2)→b.1.size+l.length≤N→(forIn l a (StrLaws.occBody s y hi k)).run.fst.toList=(forIn l b (StrLaws.occBody s y hi N)).run.fst.toList.take k
 | [],a,b,h,_,_=>h
 | i::l,a,b,h,hf,hn=>by
  rw [List.forIn_cons,List.forIn_cons]
  unfold StrLaws.occBody
  have hn':b.1.size+1+l.length≤N:=by rw [List.length_cons] at hn;omega
  by_cases hk:b.1.size<k
  ·have ea:a.1.toList=b.1.toList:=by rw [h];exact List.take_of_length_le (by rw [Array.length_toList];omega)
   have es:a.1.size=b.1.size:=by rw [← Array.length_toList,ea,Array.length_toList]
   have ef:=hf hk
   by_cases hc:((b.1.size<N∧b.2≤i)∧i+y.length≤hi)∧subAt s y i=true
   ·have hc':((a.1.size<k∧a.2≤i)∧i+y.length≤hi)∧subAt s y i=true:=⟨⟨⟨by omega,by rw [ef];exact hc.1.1.2⟩,hc.1.2⟩,hc.2⟩
    rw [if_pos hc,if_pos hc']
    refine zid s y hi k N l _ _ ?_ (λ _=>rfl) (by rw [Array.size_push];omega)
    show (a.1.push i).toList=(b.1.push i).toList.take k
    rw [Array.toList_push,Array.toList_push,ea,List.take_of_length_le (by rw [List.length_append,Array.length_toList];exact hk)]
   ·have hc':¬ (((a.1.size<k∧a.2≤i)∧i+y.length≤hi)∧subAt s y i=true):=λ z=>hc ⟨⟨⟨by omega,by rw [← ef];exact z.1.1.2⟩,z.1.2⟩,z.2⟩
    rw [if_neg hc,if_neg hc']
    exact zid s y hi k N l _ _ h hf (by show b.1.size+l.length≤N;omega)
  ·have es:a.1.size=k:=by
    rw [← Array.length_toList,h,List.length_take,Array.length_toList]
    omega
   rw [if_neg (λ z=>by have:=z.1.1.1;omega:¬ (((a.1.size<k∧a.2≤i)∧i+y.length≤hi)∧subAt s y i=true))]
   by_cases hc:((b.1.size<N∧b.2≤i)∧i+y.length≤hi)∧subAt s y i=true
   ·rw [if_pos hc]
    refine zid s y hi k N l _ _ ?_ (λ z=>absurd z (by show ¬ (b.1.push i).size<k;rw [Array.size_push];omega)) (by show (b.1.push i).size+l.length≤N;rw [Array.size_push];omega)
    show a.1.toList=(b.1.push i).toList.take k
    rw [Array.toList_push,List.take_append_of_le_length (by rw [Array.length_toList];omega)]
    exact h
   ·rw [if_neg hc]
    exact zid s y hi k N l _ _ h (λ z=>absurd z hk) (by show b.1.size+l.length≤N;omega)
noncomputable def cutK (c:Nat) (ps:List Str) (k:Nat):List Str:=if ps.length≤k+1 then ps else ps.take k++[Str.join ⟨#[c]⟩ (ps.drop k)]
theorem zte (x:Str) (c:Nat):∀ (cuts:List Nat) (a f k:Nat),StrLaws.ChainTo x ⟨#[c]⟩ x.length a cuts f→StrLaws.partsFrom x (⟨#[c]⟩:Str).length a (cuts.take k)=cutK c (StrLaws.partsFrom x (⟨#[c]⟩:Str).length a cuts) k
 | [],a,f,k,h=>by
  rw [List.take_nil]
  unfold cutK
  rw [if_pos (by show 1≤k+1;omega)]
 | i::r,a,f,0,h=>by
  obtain ⟨p,q,e⟩:=StrLaws.partsFrom_ne x (⟨#[c]⟩:Str).length (i+(⟨#[c]⟩:Str).length) r
  have ej:=StrLaws.join_partsFrom x ⟨#[c]⟩ (i::r) a f h
  have hl:¬ (StrLaws.partsFrom x (⟨#[c]⟩:Str).length a (i::r)).length≤0+1:=by
   show ¬ (Builtin.Str.strSub x a i::StrLaws.partsFrom x (⟨#[c]⟩:Str).length (i+(⟨#[c]⟩:Str).length) r).length≤1
   rw [e,List.length_cons,List.length_cons]
   omega
  unfold cutK
  rw [if_neg hl,List.take_zero,List.take_zero,List.drop_zero,ej]
  rfl
 | i::r,a,f,k+1,h=>by
  have ih:=zte x c r (i+(⟨#[c]⟩:Str).length) f k h.2.2
  show Builtin.Str.strSub x a i::StrLaws.partsFrom x (⟨#[c]⟩:Str).length (i+(⟨#[c]⟩:Str).length) (r.take k)=cutK c (Builtin.Str.strSub x a i::StrLaws.partsFrom x (⟨#[c]⟩:Str).length (i+(⟨#[c]⟩:Str).length) r) (k+1)
  rw [ih]
  unfold cutK
  by_cases hl:(StrLaws.partsFrom x (⟨#[c]⟩:Str).length (i+(⟨#[c]⟩:Str).length) r).length≤k+1
  ·rw [if_pos hl,if_pos (by rw [List.length_cons];omega)]
  ·rw [if_neg hl,if_neg (by rw [List.length_cons];omega),List.take_succ_cons,List.drop_succ_cons,List.cons_append]
theorem zeh (x:Str) (c:Nat) (h1:(decide (x.length<(⟨#[c]⟩:Str).length) || decide (Builtin.Str.strKind x<Builtin.Str.strKind ⟨#[c]⟩))=false):Txt.split x ⟨#[c]⟩=StrLaws.partsFrom x (⟨#[c]⟩:Str).length 0 (Builtin.Str.occurrences x ⟨#[c]⟩ 0 x.length (x.length+1)):=by
 unfold Txt.split
 rw [if_neg (ne_true_of_eq_false h1)]
 split
 ·rename_i he
  rw [List.isEmpty_iff.mp he]
  show [x]=[Builtin.Str.strSub x 0 x.length]
  rw [StrLaws.sub_whole]
 ·rw [StrLaws.partsBetween_eq]
theorem zwk (x:Str) (c k:Nat):zsf x ⟨#[c]⟩ k=cutK c (Txt.split x ⟨#[c]⟩) k:=by
 cases h1:(decide (x.length<(⟨#[c]⟩:Str).length) || decide (Builtin.Str.strKind x<Builtin.Str.strKind ⟨#[c]⟩)) with
 | true =>
  have e1:Txt.split x ⟨#[c]⟩=[x]:=by unfold Txt.split;rw [if_pos h1]
  unfold zsf cutK
  rw [if_pos h1,e1,if_pos (by show 1≤k+1;omega)]
 | false =>
  have et:Builtin.Str.occurrences x ⟨#[c]⟩ 0 x.length k=(Builtin.Str.occurrences x ⟨#[c]⟩ 0 x.length (x.length+1)).take k:=by
   rw [StrLaws.occ_eq,StrLaws.occ_eq]
   exact zid x ⟨#[c]⟩ x.length k (x.length+1) _ _ _ (by simp) (λ _=>rfl) (by rw [List.length_range'];show 0+_≤_;omega)
  obtain ⟨f,hf⟩:=StrLaws.occ_chain x ⟨#[c]⟩ (x.length+1)
  have ep:=zte x c _ 0 f k hf
  rw [zeh x c h1,← ep,← et]
  unfold zsf
  rw [if_neg (ne_true_of_eq_false h1)]
  split
  ·rename_i he
   rw [List.isEmpty_iff.mp he]
   show [x]=[Builtin.Str.strSub x 0 x.length]
   rw [StrLaws.sub_whole]
  ·rw [StrLaws.partsBetween_eq]
section
variable {X:Cx}
noncomputable def zir:V→List V→Hp→VK→Prop:=λ x xs H Q=>∃ z c k,x = .str z∧xs=[.str ⟨#[c]⟩,.int (k:Nat)]∧z.length≤10000∧k<1000∧∀ l,H l=none→Q (.ref l) (upd H l (.lst ((cutK c (Txt.split z ⟨#[c]⟩) k).map V.str)))
theorem zfq (c:Nat) (ps:List Str) (k:Nat):(cutK c ps k).length≤ps.length:=by
 unfold cutK
 split
 ·exact Nat.le_refl _
 ·rw [List.length_append,List.length_take,List.length_singleton]
  omega
open Builtin.Str in
theorem zll:MtR X "str.split" zir:=by
 intro pins s σ H x xs v us Q I rx rv h
 obtain ⟨z,c,k,rfl,rfl,hz,hk,q⟩:=h
 obtain ⟨t,rfl⟩:=rx
 cases rv with
 | cons r1 r2 =>
  obtain ⟨t1,rfl⟩:=r1
  obtain ⟨u,rfl,ru⟩:=zrn r2
  obtain ⟨t2,rfl⟩:=ru
  have hl:(10000:Nat)+2≤sizeLine:=by rw [sizeLine_eq];decide
  have hkk:(decide ((k:Int) < -(2 ^ 63:Int)) || decide ((k:Int) ≥ 2 ^ 63))=false:=by
   rw [Bool.or_eq_false_iff]
   exact ⟨decide_eq_false (by omega),decide_eq_false (by omega)⟩
  have elim:limitOf z (k:Int)=k:=by
   unfold limitOf
   rw [if_neg (by omega)]
   rfl
  have hq:∀ (l:List (Str×Tok)) tk,l.map (·.1)=zsf z ⟨#[c]⟩ k→EP X pins σ Q (.ref s.heap.objs.size) { s with heap:=s.heap.push { cls := .type "list",data := .seq (strValues l).toArray },toks:=tk }:=λ l tk e=>by
   rw [zwk] at e
   refine ⟨.ref s.heap.objs.size,_,I.laid (t':=tk) (o := .lst ((cutK c (Txt.split z ⟨#[c]⟩) k).map V.str)) (λ b ob q=>Heap.get?_push_of_some _ q) (Nat.le_refl _) ?_,rfl,q _ (I.hok.fresh (Nat.le_refl _))⟩
   refine ⟨?_,_,0,zug e,Heap.get?_push_size _ rfl⟩
   have h1:=split_le z ⟨#[c]⟩
   have h2:=zfq c (Txt.split z ⟨#[c]⟩) k
   rw [List.length_map]
   omega
  obtain ⟨raising,htree⟩:=split_sep_max_tree z ⟨#[c]⟩ (k:Int) t t1 t2 hkk
  cases h1:(decide (z.length<(⟨#[c]⟩:Str).length) || decide (PySem.Builtin.Str.strKind z<PySem.Builtin.Str.strKind ⟨#[c]⟩)) with
  | true =>
   refine call_meets F.slot_str_split (typeIs_str _ _ _) F.entry_str_split (F.args_str_split_3 _ _ _) (S:=λ _ R s=>R (.ok (.ret (.ref s.heap.objs.size))) { s with heap:=s.heap.push { cls := .type "list",data := .seq #[.str z t] } }) (.of_wp λ prog w A R s h=>?_) (hq [(z,t)] _ (by unfold zsf;rw [if_pos h1];rfl))
   rw [htree,if_pos h1]
   exact wpAny_bind (wpAny_rule (wpAny_bind (wpAny_newList (wpAny_pure ⟨_,rfl,h⟩) (by show 1≤sizeLine;decide))))
  | false =>
   have hy:((⟨#[c]⟩:Str).length == 0)=false:=rfl
   cases he:(occurrences z ⟨#[c]⟩ 0 z.length k).isEmpty with
   | true =>
    refine call_meets F.slot_str_split (typeIs_str _ _ _) F.entry_str_split (F.args_str_split_3 _ _ _) (S:=λ _ R s=>R (.ok (.ret (.ref s.heap.objs.size))) { s with heap:=s.heap.push { cls := .type "list",data := .seq #[.str z t] } }) (.of_wp λ prog w A R s h=>?_) (hq [(z,t)] _ (by unfold zsf;rw [if_neg (ne_true_of_eq_false h1),if_pos he];rfl))
    rw [htree,if_neg (ne_true_of_eq_false h1),if_neg (ne_true_of_eq_false hy),elim,he]
    exact wpAny_bind (wpAny_rule (wpAny_bind (wpAny_newList (wpAny_pure ⟨_,rfl,h⟩) (by show 1≤sizeLine;decide))))
   | false =>
    have hpl:(partsBetween z (occurrences z ⟨#[c]⟩ 0 z.length (limitOf z (k:Int))) (⟨#[c]⟩:Str).length).length≤sizeLine:=by
     rw [len_partsBetween,elim]
     have:=StrLaws.occ_length_le z ⟨#[c]⟩ 0 z.length k
     omega
    refine call_meets F.slot_str_split (typeIs_str _ _ _) F.entry_str_split (F.args_str_split_3 _ _ _) (meets_str_split_sep_max z ⟨#[c]⟩ (k:Int) t t1 t2 hkk h1 hy (by rw [elim];exact he) (by omega) hpl) ?_
    rw [elim]
    show wants _ _ _ { s with toks:=_,heap:=s.heap.push { cls := .type "list",data := .seq (strsFrom s.toks (partsBetween z (occurrences z ⟨#[c]⟩ 0 z.length k) (⟨#[c]⟩:Str).length)).toArray } }
    rw [strsFrom_eq]
    exact hq (numbered s.toks _) _ ((numbered_texts _ _).trans (by unfold zsf;rw [if_neg (ne_true_of_eq_false h1),if_neg (ne_true_of_eq_false he)]))
end
end L2
namespace L2
open PySem PySem.Spec PyProof.Rows PySem.NumText PySem.W
section
variable {prog:Program} {w:World} {A:Around} {E:Value→Shared→Prop} {s:Shared}
theorem zmi {l:Addr} {v0:Value} {its:List Value} {Q:List Value→Shared→Prop} (nh:A.handled=none) (pl:s.heap.IsList l (v0::its).toArray) (hz:its.length+1≤sizeLine)
  (q:∀ (hp:Heap) (tk:Nat),(∀ b o,s.heap.get? b=some o→hp.get? b=some o)→Q [v0,.ref hp.objs.size] { s with heap:=hp.push { cls := .type "list",data := .seq its.toArray },toks:=tk }):wpAny (model prog w) A (unpackItems (.ref l) 2 (some 1)) Q E s:=by
 have nl:l≠s.heap.objs.size:=by obtain ⟨o,ho,_⟩:=pl;exact Nat.ne_of_lt (Heap.lt_size ho)
 unfold unpackItems notIterableAtAll
 refine wpAny_bind (wpAny_bind (wpAny_specialOf pl.typeIs slot_list_iter.lookup (wpAny_pure ?_)))
 simp only [Bool.false_eq_true,if_false]
 refine wpAny_bind (wpAny_holding (wpAny_pyIter_list pl ?_))
 have i0:(s.heap.push { cls := .type "list_iterator",data := .fields #[.ref l,.int 0 0] }).IsListIter s.heap.objs.size l 0:=⟨_,Heap.get?_push_size _ rfl,rfl,rfl⟩
 refine wpAny_bind (wpAny_holding (kun_draw nl 1 0 _ _ i0 (pl.push _) (by simp) λ k1 j1 sb1=>?_))
 have pk:k1.IsList l (v0::its).toArray:=(pl.push _).extBut sb1.extBut nl
 have j1':=j1
 have pk':=pk
 obtain ⟨oj,hoj,_⟩:=j1'
 obtain ⟨ok,hok,_⟩:=pk'
 have e1:((v0::its).toArray.toList.drop 0).take 1=[v0]:=by simp
 rw [e1]
 rw [if_neg (show ¬ ([v0].length<1) by simp)]
 refine wpAny_bind (wpAny_holding (kun_collect (s:={ s with heap:=k1 }) (T := "list_iterator") (.inr (.inr (.inl rfl))) (Walks.list (A:=A.in1) nh s.heap.objs.size l nl (v0::its).toArray) (λ _ _ z=>z.1.typeIs) (k:=1) (by simp) ⟨j1,pk⟩ (Heap.lt_size hoj) (Heap.lt_size hok) (λ k2 tk kk=>?_) (by simpa using hz)))
 have e2:(v0::its).toArray.toList.drop 1=its:=by simp
 rw [e2]
 show wpAny _ _ (if its.length<2 - 1 - 1 then _ else _) _ _ _
 rw [if_neg (by omega)]
 show wpAny _ _ (newList (its.take (its.length - (2 - 1 - 1))) >>= λ d=>pure ([v0]++[d]++its.drop (its.length - (2 - 1 - 1)))) _ _ _
 have e3:its.take (its.length - (2 - 1 - 1))=its:=List.take_of_length_le (by omega)
 have e4:its.drop (its.length - (2 - 1 - 1))=[]:=List.drop_of_length_le (by omega)
 rw [e3,e4]
 refine wpAny_bind (wpAny_newList (wpAny_pure (q k2 tk λ b o z=>kk b o (Nat.ne_of_lt (Heap.lt_size z)) (sb1.extBut b o (Nat.ne_of_lt (Heap.lt_size z)) (Heap.get?_push_of_some _ z)))) (by omega))
end
section
variable {X:Cx}
noncomputable def zfy (K:W.Frag) (t:TGs):TG:=λ v σ H Q=>∃ a x xs,v = .ref a∧SqL K H a (x::xs)∧∀ D,H D=none→t [x,.ref D] σ (upd H D (.lst xs)) Q
theorem zgp {pos:Pos} {es:List Expr} {k:Nat} {t:TGs} (hc:X.calm=true) (h:PGs X es t) (hn:(assignEach es X.env).length=2:=by rfl) (hst:(assignEach es X.env).findIdx? (·.1)=some 1:=by rfl):PG X (.Tuple es k pos) (zfy X.K t) := .mk <| by
 intro pins s σ H v u Q I r hw
 obtain ⟨a,x,xs,e1,hq,hw⟩:=hw
 subst e1
 cases r
 obtain ⟨its,rv,pl,hz⟩:=I.list hq
 cases rv with
 | @cons _ v0 _ vs r0 rr =>
  rw [assign_Tuple]
  refine wpAny_bind (wpAny_standAt ?_)
  unfold unpack
  rw [hn,hst]
  have hl:vs.length+1≤sizeLine:=by rw [← rr.length];exact hz
  refine wpAny_bind (wpAny_holding (zmi (I.ok.hd hc) pl.isList hl λ hp tk kk=>?_))
  have I1:Inv X pins σ H { s with heap:=hp,toks:=tk }:=I.kept (t':=tk) kk
  have I2:Inv X pins σ (upd H hp.objs.size (.lst xs)) { s with heap:=hp.push { cls := .type "list",data := .seq vs.toArray },toks:=tk }:=I1.laid (t':=tk) (o := .lst xs) (λ b ob q=>Heap.get?_push_of_some _ q) (Nat.le_refl _) ⟨by rw [rr.length];omega,vs,0,rr,Heap.get?_push_size _ rfl⟩
  exact h pins _ σ _ [x,.ref hp.objs.size] _ Q I2 (.cons r0 (.cons rfl .nil)) (hw _ (I1.hok.fresh (Nat.le_refl _)))
theorem zkn {e:Expr} {sp:Pos} {t:TG} (h1:PG X e t):PGs X [.Starred e sp] (zpr t gNil) := .mk <| by
 intro pins s σ H vs us Q I r h
 obtain ⟨v,vr,e1,h⟩:=h
 subst e1
 cases r with
 | cons r rr =>
  rw [show (assignEach [Expr.Starred e sp] X.env).map (·.2)=[assign e X.env] from rfl]
  refine assignInOrder_cons (thn (h1 pins s σ H _ _ _ I r h) λ _ s1 ⟨σ1,H1,I1,q1,q2⟩=>?_)
  subst q1
  cases rr
  exact assignInOrder_nil ⟨σ1,H1,I1,q2⟩
end
end L2
namespace L2
open PySem PySem.Spec PyProof.Rows PySem.NumText PySem.W
noncomputable def SeqH (b:Bool) (h:Heap) (a:Addr) (v:Array Value):Prop:=if b=true then h.IsTuple a v else h.IsList a v
noncomputable def ItrH (b:Bool) (h:Heap) (j a:Addr) (i:Nat):Prop:=if b=true then h.IsTupleIter j a i else h.IsListIter j a i
theorem ItrH.keep {b:Bool} {h h':Heap} {j a:Addr} {i:Nat} (x:ItrH b h j a i) (k:∀ o,h.get? j=some o→h'.get? j=some o):ItrH b h' j a i:=by
 cases b with
 | true=>obtain ⟨o,ho,z⟩:=x;exact ⟨o,k o ho,z⟩
 | false=>obtain ⟨o,ho,z⟩:=x;exact ⟨o,k o ho,z⟩
theorem SeqH.keep {b:Bool} {h h':Heap} {a:Addr} {v:Array Value} (x:SeqH b h a v) (k:∀ o,h.get? a=some o→h'.get? a=some o):SeqH b h' a v:=by
 cases b with
 | true=>obtain ⟨o,ho,z⟩:=x;exact ⟨o,k o ho,z⟩
 | false=>obtain ⟨o,ho,z⟩:=x;exact ⟨o,k o ho,z⟩
theorem ItrH.ob {b:Bool} {h:Heap} {j a:Addr} {i:Nat} (x:ItrH b h j a i):∃ o,h.get? j=some o∧∀ v,o.data ≠ .cell v:=by
 cases b with
 | true=>obtain ⟨o,ho,_,d⟩:=x;exact ⟨o,ho,λ v z=>by rw [d] at z;cases z⟩
 | false=>obtain ⟨o,ho,_,d⟩:=x;exact ⟨o,ho,λ v z=>by rw [d] at z;cases z⟩
theorem SeqH.ob {b:Bool} {h:Heap} {a:Addr} {v:Array Value} (x:SeqH b h a v):∃ o,h.get? a=some o:=by
 cases b with
 | true=>obtain ⟨o,ho,_⟩:=x;exact ⟨o,ho⟩
 | false=>obtain ⟨o,ho,_⟩:=x;exact ⟨o,ho⟩
section
variable {prog:Program} {w:World} {A:Around} {E:Value→Shared→Prop} {s:Shared}
theorem zdm {b:Bool} {j a:Addr} {i:Nat} {v:Array Value} {x:Value} {Q:Value→Shared→Prop} (hj:ItrH b s.heap j a i) (ha:SeqH b s.heap a v) (hv:v[i]? = some x)
  (q:∀ h',ItrH b h' j a (i+1)→Heap.SameBut j s.heap h'→Q x { s with heap:=h' }):wpAny (model prog w) A (Builtin.SmallTypes.nextOf (.ref j)) Q E s:=by
 cases b with
 | false=>exact wpAny_nextOf_list_item hj ha hv q
 | true =>
  have hj:s.heap.IsTupleIter j a i:=hj
  obtain ⟨o,ho,hc,hd⟩:=id hj
  obtain ⟨oa,hoa,_,na,hda⟩:=ha
  unfold Builtin.SmallTypes.nextOf
  refine wpAny_bind (wpAny_callSpecial?_slot (name:=Str.ofString "__next__") hj.typeIs F.slot_tuple_iterator_next (wpAny_call_entry F.slot_tuple_iterator_next hj.typeIs F.entry_tuple_iterator_next ?_ (F.args_tuple_iterator_next_1 _)))
  show wpAny _ _ (field (.ref j) 0 >>= _) _ _ s
  refine wpAny_bind (wpAny_field ho hd (x := .ref a) rfl ?_)
  show wpAny _ _ (if (Value.ref a == Value.none)=true then _ else _) _ _ s
  rw [if_neg (show ¬ ((Value.ref a == Value.none)=true) from Bool.false_ne_true)]
  show wpAny _ _ (field (.ref j) 1 >>= _) _ _ s
  refine wpAny_bind (wpAny_field ho hd (x := .int (i:Nat) 0) rfl ?_)
  show wpAny _ _ (seqItems? (.ref a) >>= _) _ _ s
  refine wpAny_bind (wpAny_seqItems hoa hda ?_)
  simp only [Int.toNat_natCast,hv]
  refine wpAny_bind (wpAny_setField ho hd (by simp) (wpAny_pure ⟨x,rfl,wpAny_pure (q _ ?_ (Heap.SameBut.update ..))⟩))
  exact ⟨_,Heap.get?_update_self _ ho (Obj.isFreed_of_fields (Obj.data_mapFields hd _)),(Obj.cls_mapFields ..).trans hc,by rw [Obj.data_mapFields hd];simp [rawInt]⟩
theorem zvt {b:Bool} {j a:Addr} {i:Nat} {v:Array Value} {Q:Value→Shared→Prop} (nh:A.handled=none) (hj:ItrH b s.heap j a i) (ha:SeqH b s.heap a v) (hv:v[i]? = none)
  (q:∀ h' e,Heap.ExtBut j s.heap h'→(∃ o,h'.get? e=some o∧o.cls = .type "StopIteration")→E (.ref e) { s with heap:=h' }):wpAny (model prog w) A (Builtin.SmallTypes.nextOf (.ref j)) Q E s:=by
 cases b with
 | false=>exact wpAny_nextOf_list_end nh hj ha hv q
 | true =>
  have hj:s.heap.IsTupleIter j a i:=hj
  obtain ⟨o,ho,hc,hd⟩:=id hj
  obtain ⟨oa,hoa,_,na,hda⟩:=ha
  unfold Builtin.SmallTypes.nextOf
  refine wpAny_bind (wpAny_callSpecial?_slot (name:=Str.ofString "__next__") hj.typeIs F.slot_tuple_iterator_next (wpAny_call_entry F.slot_tuple_iterator_next hj.typeIs F.entry_tuple_iterator_next ?_ (F.args_tuple_iterator_next_1 _)))
  show wpAny _ _ (field (.ref j) 0 >>= _) _ _ s
  refine wpAny_bind (wpAny_field ho hd (x := .ref a) rfl ?_)
  show wpAny _ _ (if (Value.ref a == Value.none)=true then _ else _) _ _ s
  rw [if_neg (show ¬ ((Value.ref a == Value.none)=true) from Bool.false_ne_true)]
  show wpAny _ _ (field (.ref j) 1 >>= _) _ _ s
  refine wpAny_bind (wpAny_field ho hd (x := .int (i:Nat) 0) rfl ?_)
  show wpAny _ _ (seqItems? (.ref a) >>= _) _ _ s
  refine wpAny_bind (wpAny_seqItems hoa hda ?_)
  simp only [Int.toNat_natCast,hv]
  refine wpAny_bind (wpAny_rule (wpAny_bind (wpAny_setField ho hd (by simp) (show wpAny _ _ (newExc (.type "StopIteration") [] >>= _) _ _ _ from wpAny_bind ?_))))
  simp only [newExc,newTuple]
  refine wpAny_bind (wpAny_newObj_type (wpAny_bind (m:=firstArgMember _ _) (wpAny_of_eq (a:=Value.none) (by first | rfl | (simp only [firstArgMember];rfl)) (wpAny_newObj_type ?_ (by size_fits)))) (by size_fits))
  simp only [raiseNew]
  refine wpAny_bind (wpAny_handled ?_)
  first | rw [show A.in1.handled=none from nh] | rw [nh]
  exact wpAny_bind (wpAny_pure (wpAny_throw (q _ _ (((Heap.SameBut.update ..).extBut.push _).push _) ⟨_,Heap.get?_push_size _ rfl,rfl⟩)))
end
end L2
namespace L2
open PySem PySem.Spec PyProof.Rows PySem.NumText PySem.W
structure Apt (z t p j k:Addr):Prop where
 tz:t≠z
 pz:p≠z
 jz:j≠z
 kz:k≠z
 tp:t≠p
 tj:t≠j
 tk:t≠k
 pj:p≠j
 pk:p≠k
 jk:j≠k
section
variable {prog:Program} {w:World} {A:Around} {E:Value→Shared→Prop} {s:Shared}
theorem zou {b b2:Bool} {z t p j k a c:Addr} {i:Nat} {vs us:Array Value} {x y e f:Value} {Q:Value→Shared→Prop} (D:Apt z t p j k) (hz:IsZip s.heap z t p .none) (ht:IsPair s.heap t (.ref j) (.ref k)) (hp:IsPair s.heap p e f)
  (hj:ItrH b s.heap j a i) (hk:ItrH b2 s.heap k c i) (ha:SeqH b s.heap a vs) (hc:SeqH b2 s.heap c us) (an:a≠z∧a≠p∧a≠j∧a≠k) (cn:c≠z∧c≠p∧c≠j∧c≠k) (hx:vs[i]? = some x) (hy:us[i]? = some y)
  (q:∀ h',IsZip h' z t p (rawInt s.heap.objs.size)→IsPair h' p x y→ItrH b h' j a (i+1)→ItrH b2 h' k c (i+1)→IsPair h' s.heap.objs.size x y→(∀ d o,d≠z→d≠p→d≠j→d≠k→s.heap.get? d=some o→h'.get? d=some o)→Q (.ref s.heap.objs.size) { s with heap:=h' }) :
  wpAny (model prog w) A (Builtin.«zip.__next__» ⟨[.ref z],[]⟩) (λ r s'=>∃ v,r = .done (.ret v)∧Q v s') E s:=by
 show wpAny _ _ (field (.ref z) 2 >>= _) _ _ _
 refine wpAny_bind (wpAny_field hz rfl (x := .bool false) rfl (show wpAny _ _ (field (.ref z) 3 >>= _) _ _ _ from wpAny_bind (wpAny_field hz rfl (x := .ref t) rfl (wpAny_bind (wpAny_seqItems ht rfl ?_)))))
 show wpAny _ _ (Builtin.SmallTypes.ownedTupleIsFree (.ref z) >>= _) _ _ _
 unfold Builtin.SmallTypes.ownedTupleIsFree
 refine wpAny_bind (wpAny_bind (wpAny_field hz rfl (x := .none) rfl (wpAny_pure ?_)))
 simp only [if_true]
 refine wpAny_bind (wpAny_rule (wpAny_bind (wpAny_field hz rfl (x := .ref p) rfl (wpAny_bind (wpAny_setField_rec hz (by simp) λ k1 z1 s1=>?_)))))
 have z1:IsZip k1 z t p .ellipsis:=z1
 refine wpAny_bind ?_
 simp only [List.zipIdx_cons,List.zipIdx_nil,List.forIn_cons,List.forIn_nil]
 refine wpAny_bind (wpAny_bind (wpAny_onRaise (show wpAny _ _ (Builtin.SmallTypes.nextOf (.ref j) >>= _) _ _ _ from wpAny_bind ?_)))
 refine zdm (s:={ s with heap:=k1 }) (hj.keep λ o q=>s1.extBut _ _ D.jz q) (ha.keep λ o q=>s1.extBut _ _ an.1 q) hx λ k2 j2 s2=>wpAny_pure ?_
 have p2:IsPair k2 p e f:=s2.extBut _ _ D.pj (s1.extBut _ _ D.pz hp)
 refine wpAny_bind (wpAny_seqItems p2 rfl (wpAny_bind (wpAny_updateSeq_pair p2 λ k3 p3 s3=>?_)))
 have p3:IsPair k3 p x f:=p3
 refine wpAny_bind (wpAny_letGo (wpAny_pure ?_))
 refine wpAny_bind (wpAny_bind (wpAny_onRaise (show wpAny _ _ (Builtin.SmallTypes.nextOf (.ref k) >>= _) _ _ _ from wpAny_bind ?_)))
 have hk3:ItrH b2 k3 k c i:=hk.keep λ o q=>s3.extBut _ _ D.pk.symm (s2.extBut _ _ D.jk.symm (s1.extBut _ _ D.kz q))
 have hc3:SeqH b2 k3 c us:=hc.keep λ o q=>s3.extBut _ _ cn.2.1 (s2.extBut _ _ cn.2.2.1 (s1.extBut _ _ cn.1 q))
 refine zdm (s:={ s with heap:=k3 }) hk3 hc3 hy λ k4 j4 s4=>wpAny_pure ?_
 have p4:IsPair k4 p x f:=s4.extBut _ _ D.pk p3
 refine wpAny_bind (wpAny_seqItems p4 rfl (wpAny_bind (wpAny_updateSeq_pair p4 λ k5 p5 s5=>?_)))
 have p5:IsPair k5 p x y:=p5
 refine wpAny_bind (wpAny_letGo (wpAny_pure (wpAny_pure ?_)))
 refine wpAny_bind (wpAny_seqItems p5 rfl (wpAny_bind (wpAny_newTuple ?_)))
 have zz:k5.objs.size=s.heap.objs.size:=by rw [s5.1,s4.1,s3.1,s2.1,s1.1]
 have z5:IsZip k5 z t p .ellipsis:=s5.extBut _ _ D.pz.symm (s4.extBut _ _ D.kz.symm (s3.extBut _ _ D.pz.symm (s2.extBut _ _ D.jz.symm z1)))
 have all5:∀ d o,d≠z→d≠p→d≠j→d≠k→s.heap.get? d=some o→k5.get? d=some o:=λ d o d1 d2 d3 d4 q=>s5.extBut _ _ d2 (s4.extBut _ _ d4 (s3.extBut _ _ d2 (s2.extBut _ _ d3 (s1.extBut _ _ d1 q))))
 have j5:ItrH b k5 j a (i+1):=j2.keep λ o q=>s5.extBut _ _ D.pj.symm (s4.extBut _ _ D.jk (s3.extBut _ _ D.pj.symm q))
 have l5:ItrH b2 k5 k c (i+1):=j4.keep λ o q=>s5.extBut _ _ D.pk.symm q
 have zlt:z<k5.objs.size:=Heap.lt_size z5
 have z6:IsZip (k5.push { cls := .type "tuple",data := .seq #[x,y] }) z t p .ellipsis:=Heap.get?_push_of_some _ z5
 show wpAny _ _ (Builtin.SmallTypes.ownedTupleHandOut (.ref z) (.ref k5.objs.size) >>= _) _ _ _
 unfold Builtin.SmallTypes.ownedTupleHandOut
 refine wpAny_bind (wpAny_bind (wpAny_setField_rec z6 (by simp) λ k7 z7 s7=>?_))
 have z7:IsZip k7 z t p (rawInt k5.objs.size):=z7
 refine wpAny_setField_rec z7 (by simp) λ k8 z8 s8=>?_
 have z8:IsZip k8 z t p (rawInt k5.objs.size):=z8
 have up:∀ d o,d≠z→k5.get? d=some o→k8.get? d=some o:=λ d o d1 q=>s8.extBut _ _ d1 (s7.extBut _ _ d1 (Heap.get?_push_of_some _ q))
 have t8:IsPair k8 k5.objs.size x y:=s8.extBut _ _ (Nat.ne_of_gt zlt) (s7.extBut _ _ (Nat.ne_of_gt zlt) (Heap.get?_push_size _ rfl))
 rw [zz] at z8 t8
 refine wpAny_pure ⟨_,rfl,?_⟩
 show Q (.ref k5.objs.size) _
 rw [zz]
 exact q k8 z8 (up _ _ D.pz p5) (j5.keep λ o q=>up _ o D.jz q) (l5.keep λ o q=>up _ o D.kz q) t8 λ d o d1 d2 d3 d4 q=>up d o d1 (all5 d o d1 d2 d3 d4 q)
theorem znn {b:Bool} {z t p j k a:Addr} {i:Nat} {vs:Array Value} {e f:Value} {Q:Fin→Shared→Prop} (nh:A.handled=none) (D:Apt z t p j k) (hz:IsZip s.heap z t p .none) (ht:IsPair s.heap t (.ref j) (.ref k)) (hp:IsPair s.heap p e f)
  (hj:ItrH b s.heap j a i) (ha:SeqH b s.heap a vs) (an:a≠z) (hx:vs[i]? = none)
  (q:∀ h' e,(∀ d o,d≠z→d≠j→s.heap.get? d=some o→h'.get? d=some o)→(∃ o,h'.get? e=some o∧o.cls = .type "StopIteration")→E (.ref e) { s with heap:=h' }):wpAny (model prog w) A (Builtin.«zip.__next__» ⟨[.ref z],[]⟩) Q E s:=by
 show wpAny _ _ (field (.ref z) 2 >>= _) _ _ _
 refine wpAny_bind (wpAny_field hz rfl (x := .bool false) rfl (show wpAny _ _ (field (.ref z) 3 >>= _) _ _ _ from wpAny_bind (wpAny_field hz rfl (x := .ref t) rfl (wpAny_bind (wpAny_seqItems ht rfl ?_)))))
 show wpAny _ _ (Builtin.SmallTypes.ownedTupleIsFree (.ref z) >>= _) _ _ _
 unfold Builtin.SmallTypes.ownedTupleIsFree
 refine wpAny_bind (wpAny_bind (wpAny_field hz rfl (x := .none) rfl (wpAny_pure ?_)))
 simp only [if_true]
 refine wpAny_bind (wpAny_rule (wpAny_bind (wpAny_field hz rfl (x := .ref p) rfl (wpAny_bind (wpAny_setField_rec hz (by simp) λ k1 z1 s1=>?_)))))
 have z1:IsZip k1 z t p .ellipsis:=z1
 refine wpAny_bind ?_
 simp only [List.zipIdx_cons,List.zipIdx_nil,List.forIn_cons,List.forIn_nil]
 refine wpAny_bind (wpAny_bind (wpAny_onRaise (show wpAny _ _ (Builtin.SmallTypes.nextOf (.ref j) >>= _) _ _ _ from wpAny_bind ?_)))
 refine zvt (s:={ s with heap:=k1 }) nh (hj.keep λ o q=>s1.extBut _ _ D.jz q) (ha.keep λ o q=>s1.extBut _ _ an q) hx λ k2 e s2 he=>?_
 obtain ⟨oe,hoe,hce⟩:=he
 have z2:IsZip k2 z t p .ellipsis:=s2 _ _ D.jz.symm z1
 have ez:e≠z:=λ x=>by subst x;rw [z2] at hoe;cases hoe;simp at hce
 exact wpAny_setField_rec z2 (by simp) λ k3 _ s3=>q k3 e (λ d o d1 d2 q=>s3.extBut _ _ d1 (s2 _ _ d2 (s1.extBut _ _ d1 q))) ⟨oe,s3.extBut _ _ ez hoe,hce⟩
theorem zxn {b b2:Bool} {z t p j k a c:Addr} {i:Nat} {vs us:Array Value} {x y e f:Value} {Q:Option Value→Shared→Prop} (D:Apt z t p j k) (hz:IsZip s.heap z t p .none) (ht:IsPair s.heap t (.ref j) (.ref k)) (hp:IsPair s.heap p e f)
  (hj:ItrH b s.heap j a i) (hk:ItrH b2 s.heap k c i) (ha:SeqH b s.heap a vs) (hc:SeqH b2 s.heap c us) (an:a≠z∧a≠p∧a≠j∧a≠k) (cn:c≠z∧c≠p∧c≠j∧c≠k) (hx:vs[i]? = some x) (hy:us[i]? = some y)
  (q:∀ h',IsZip h' z t p (rawInt s.heap.objs.size)→IsPair h' p x y→ItrH b h' j a (i+1)→ItrH b2 h' k c (i+1)→IsPair h' s.heap.objs.size x y→(∀ d o,d≠z→d≠p→d≠j→d≠k→s.heap.get? d=some o→h'.get? d=some o)→Q (some (.ref s.heap.objs.size)) { s with heap:=h' }):wpAny (model prog w) A (pyNext (.ref z)) Q E s:=by
 have hT:s.TypeIs (.ref z) "zip" := ⟨_,hz,rfl⟩
 unfold pyNext
 exact wpAny_bind (wpAny_attempt (wpAny_callSpecial?_slot (name:=Str.ofString "__next__") hT F.slot_zip_next (wpAny_call_entry F.slot_zip_next hT F.entry_zip_next (zou D hz ht hp hj hk ha hc an cn hx hy λ h' a1 a2 a3 a4 a5 a6=>wpAny_pure (q h' a1 a2 a3 a4 a5 a6)) (F.args_zip_next_1 _))))
theorem zin {b:Bool} {z t p j k a:Addr} {i:Nat} {vs:Array Value} {e f:Value} {Q:Option Value→Shared→Prop} (nh:A.handled=none) (D:Apt z t p j k) (hz:IsZip s.heap z t p .none) (ht:IsPair s.heap t (.ref j) (.ref k)) (hp:IsPair s.heap p e f)
  (hj:ItrH b s.heap j a i) (ha:SeqH b s.heap a vs) (an:a≠z) (hx:vs[i]? = none) (q:∀ h',(∀ d o,d≠z→d≠j→s.heap.get? d=some o→h'.get? d=some o)→Q none { s with heap:=h' }):wpAny (model prog w) A (pyNext (.ref z)) Q E s:=by
 have hT:s.TypeIs (.ref z) "zip" := ⟨_,hz,rfl⟩
 unfold pyNext
 refine wpAny_bind (wpAny_attempt (wpAny_callSpecial?_slot (name:=Str.ofString "__next__") hT F.slot_zip_next (wpAny_call_entry F.slot_zip_next hT F.entry_zip_next (znn nh D hz ht hp hj ha an hx λ h' e kk he=>?_) (F.args_zip_next_1 _))))
 obtain ⟨o,ho,hc⟩:=he
 exact wpAny_bind (wpAny_isInstance (T := "StopIteration") (b:=true) ⟨o,ho,hc⟩ isSubtype_stop (wpAny_pure (q _ kk)))
end
noncomputable def itO (b:Bool) (a:Addr):Obj:={ cls := .type (if b=true then "tuple_iterator" else "list_iterator"),data := .fields #[.ref a,.int 0 0] }
noncomputable abbrev za (b:Bool) (h:Heap) (a:Addr):Heap:=h.push (itO b a)
noncomputable abbrev zb (b b2:Bool) (h:Heap) (a c:Addr):Heap:=(za b h a).push (itO b2 c)
noncomputable abbrev zc (b b2:Bool) (h:Heap) (a c:Addr):Heap:=(zb b b2 h a c).push { cls := .type "tuple",data := .seq #[.ref h.objs.size,.ref (za b h a).objs.size] }
noncomputable abbrev zd (b b2:Bool) (h:Heap) (a c:Addr):Heap:=(zc b b2 h a c).push { cls := .type "tuple",data := .seq #[.none,.none] }
noncomputable abbrev ze (b b2:Bool) (h:Heap) (a c:Addr):Heap:=(zd b b2 h a c).push { cls := .type "zip",data := .fields #[.none,.bool false,.bool false,.ref (zb b b2 h a c).objs.size,.ref (zc b b2 h a c).objs.size] }
set_option maxHeartbeats 4000000 in
theorem zvh (b b2:Bool) (a c:Addr) (vs us:Array Value) :
  Meets (Builtin.«zip.__new__» ⟨[.type "zip",.ref a,.ref c],[]⟩) (λ _ R s=>SeqH b s.heap a vs∧SeqH b2 s.heap c us∧R (.ok (.ret (.ref (zd b b2 s.heap a c).objs.size))) { s with heap:=ze b b2 s.heap a c }) :=
 .of_wp λ prog w A R s h=>by
  obtain ⟨h0,g,d,tk,os⟩:=s
  obtain ⟨ha,hc,q⟩:=h
  have hsub:=sub_zip
  cases b with
  | false =>
   have l1:Heap.IsList (Shared.heap ⟨h0,g,d,tk,os⟩) a vs:=ha
   cases b2 with
   | false =>
    have l2:Heap.IsList (Shared.heap ⟨h0.push { cls := .type "list_iterator",data := .fields #[.ref a,.int 0 0] },g,d,tk,os⟩) c us:=Heap.IsList.push hc _
    wp_walk using wpAny_pyIter_list l1,wpAny_pyIter_list l2
    exact ⟨_,rfl,q⟩
   | true =>
    have l2:Heap.IsTuple (Shared.heap ⟨h0.push { cls := .type "list_iterator",data := .fields #[.ref a,.int 0 0] },g,d,tk,os⟩) c us:=Heap.IsTuple.push hc _
    wp_walk using wpAny_pyIter_list l1,wpAny_pyIter_tuple l2
    exact ⟨_,rfl,q⟩
  | true =>
   have l1:Heap.IsTuple (Shared.heap ⟨h0,g,d,tk,os⟩) a vs:=ha
   cases b2 with
   | false =>
    have l2:Heap.IsList (Shared.heap ⟨h0.push { cls := .type "tuple_iterator",data := .fields #[.ref a,.int 0 0] },g,d,tk,os⟩) c us:=Heap.IsList.push hc _
    wp_walk using wpAny_pyIter_tuple l1,wpAny_pyIter_list l2
    exact ⟨_,rfl,q⟩
   | true =>
    have l2:Heap.IsTuple (Shared.heap ⟨h0.push { cls := .type "tuple_iterator",data := .fields #[.ref a,.int 0 0] },g,d,tk,os⟩) c us:=Heap.IsTuple.push hc _
    wp_walk using wpAny_pyIter_tuple l1,wpAny_pyIter_tuple l2
    exact ⟨_,rfl,q⟩
section
variable {prog:Program} {w:World} {A:Around} {E:Value→Shared→Prop} {s:Shared}
theorem zgk {b b2:Bool} {a c:Addr} {vs us:Array Value} {Q:Value→Shared→Prop} (ha:SeqH b s.heap a vs) (hc:SeqH b2 s.heap c us)
  (q:∀ h',IsZip h' (s.heap.objs.size+4) (s.heap.objs.size+2) (s.heap.objs.size+3) .none→IsPair h' (s.heap.objs.size+2) (.ref s.heap.objs.size) (.ref (s.heap.objs.size+1))→IsPair h' (s.heap.objs.size+3) .none .none →
   ItrH b h' s.heap.objs.size a 0→ItrH b2 h' (s.heap.objs.size+1) c 0→(∀ d o,s.heap.get? d=some o→h'.get? d=some o)→Q (.ref (s.heap.objs.size+4)) { s with heap:=h' }):wpAny (model prog w) A (call (.type "zip") [.ref a,.ref c]) Q E s:=by
 refine callType_new F.called_zip (by decide) (F.typeCall_zip_2 _ _) (F.newCall_zip_2 _ _) (λ ob=>F.args_object_init_3 ob _ _) F.entry_zip_new (zvh b b2 a c vs us) ⟨ha,hc,?_⟩
 have n1:(za b s.heap a).objs.size=s.heap.objs.size+1:=Heap.size_push ..
 have n2:(zb b b2 s.heap a c).objs.size=s.heap.objs.size+2:=by rw [Heap.size_push,n1]
 have n3:(zc b b2 s.heap a c).objs.size=s.heap.objs.size+3:=by rw [Heap.size_push,n2]
 have n4:(zd b b2 s.heap a c).objs.size=s.heap.objs.size+4:=by rw [Heap.size_push,n3]
 have up1:∀ d o,(za b s.heap a).get? d=some o→(ze b b2 s.heap a c).get? d=some o:=λ d o x=>Heap.get?_push_of_some _ (Heap.get?_push_of_some _ (Heap.get?_push_of_some _ (Heap.get?_push_of_some _ x)))
 have g5:(ze b b2 s.heap a c).get? (zd b b2 s.heap a c).objs.size=some { cls := .type "zip",data := .fields #[.none,.bool false,.bool false,.ref (zb b b2 s.heap a c).objs.size,.ref (zc b b2 s.heap a c).objs.size] }:=Heap.get?_push_size _ rfl
 have g4:(ze b b2 s.heap a c).get? (zc b b2 s.heap a c).objs.size=some { cls := .type "tuple",data := .seq #[.none,.none] }:=Heap.get?_push_of_some _ (Heap.get?_push_size _ rfl)
 have g3:(ze b b2 s.heap a c).get? (zb b b2 s.heap a c).objs.size=some { cls := .type "tuple",data := .seq #[.ref s.heap.objs.size,.ref (za b s.heap a).objs.size] }:=Heap.get?_push_of_some _ (Heap.get?_push_of_some _ (Heap.get?_push_size _ rfl))
 have g2:(ze b b2 s.heap a c).get? (za b s.heap a).objs.size=some (itO b2 c):=Heap.get?_push_of_some _ (Heap.get?_push_of_some _ (Heap.get?_push_of_some _ (Heap.get?_push_size _ (by cases b2 <;> rfl))))
 have g1:(ze b b2 s.heap a c).get? s.heap.objs.size=some (itO b a):=up1 _ _ (Heap.get?_push_size _ (by cases b <;> rfl))
 have i1:ItrH b (ze b b2 s.heap a c) s.heap.objs.size a 0:=by
  cases b with
  | true=>exact ⟨_,g1,rfl,rfl⟩
  | false=>exact ⟨_,g1,rfl,rfl⟩
 rw [n1] at g2
 have i2:ItrH b2 (ze b b2 s.heap a c) (s.heap.objs.size+1) c 0:=by
  cases b2 with
  | true=>exact ⟨_,g2,rfl,rfl⟩
  | false=>exact ⟨_,g2,rfl,rfl⟩
 show _∧_
 rw [n2,n3,n4] at g5
 rw [n1,n2] at g3
 rw [n3] at g4
 rw [n4]
 exact ⟨⟨_,g5,rfl⟩,q _ g5 g3 g4 i1 i2 λ d o x=>up1 d o (Heap.get?_push_of_some _ x)⟩
end
end L2
namespace L2
open PySem PySem.Spec PyProof.Rows PySem.NumText PySem.W
noncomputable def SqA (b:Bool) (K:W.Frag) (H:Hp) (a:Addr) (xs:List V):Prop:=if b=true then SqT K H a xs else SqL K H a xs
theorem SqA.same {b:Bool} {K:W.Frag} {H H':Hp} {a:Addr} {xs:List V} (h:SqA b K H a xs) (s:Same H H'):SqA b K H' a xs:=by
 cases b with
 | true=>exact s.seqT h
 | false=>exact s.seq h
noncomputable def Itz (K:W.Frag) (b b2:Bool) (a c:Addr):It :=
 ⟨λ i H=>∃ xs x ys y,SqA b K H a xs∧xs[i]? = some x∧SqA b2 K H c ys∧ys[i]? = some y,λ i H v H'=>∃ T x y,v = .ref T∧H T=none∧H'=upd H T (.tup [x,y])∧(∀ xs,SqA b K H a xs→xs[i]? = some x)∧∀ ys,SqA b2 K H c ys→ys[i]? = some y,λ i H=>∃ xs,SqA b K H a xs∧xs.length≤i⟩
section
variable {X:Cx} {pins:List (Addr×Obj)} {σ:St} {H:Hp} {s:Shared}
theorem Inv.sqA (I:Inv X pins σ H s) {b:Bool} {a:Addr} {xs:List V} (h:SqA b X.K H a xs):∃ its:List Value,Vals xs its∧SeqH b s.heap a its.toArray∧xs.length≤sizeLine:=by
 cases b with
 | true =>
  obtain ⟨its,r,p,hz⟩:=I.tuple h
  exact ⟨its,r,p,hz⟩
 | false =>
  obtain ⟨its,r,p,hz⟩:=I.list h
  exact ⟨its,r,p.isList,hz⟩
theorem Inv.sqA_inj (I:Inv X pins σ H s) {b:Bool} {a:Addr} {xs ys:List V} (h:SqA b X.K H a xs) (h':SqA b X.K H a ys):xs=ys:=by
 cases b with
 | true=>exact I.tuple_inj h h'
 | false=>exact I.list_inj h h'
end
noncomputable def zpw (b b2:Bool) (z t p j k a c:Addr) (i:Nat) (h:Heap):Prop:=IsZip h z t p .none∧IsPair h t (.ref j) (.ref k)∧(∃ e f,IsPair h p e f)∧ItrH b h j a i∧ItrH b2 h k c i
theorem zan {P:Program} {w:World} {K:W.Frag} {elts:List Expr} {kk:Nat} {tp:Pos} {b b2:Bool} (z t p j k a c:Addr) (D:Apt z t p j k) (an:a≠z∧a≠p∧a≠j∧a≠k) (cn:c≠z∧c≠p∧c≠j∧c≠k) :
  Turn P w K (.Tuple elts kk tp) (Itz K b b2 a c) [z,t,p,j,k] z (zpw b b2 z t p j k a c) where
 mem:=by simp
 obj:=λ i h st d hd=>by
  obtain ⟨h1,h2,⟨e,f,h3⟩,h4,h5⟩:=st
  simp only [List.mem_cons,List.not_mem_nil,or_false] at hd
  rcases hd with rfl | rfl | rfl | rfl | rfl
  ·exact ⟨_,h1,λ v z=>nomatch z⟩
  ·exact ⟨_,h2,λ v z=>nomatch z⟩
  ·exact ⟨_,h3,λ v z=>nomatch z⟩
  ·exact h4.ob
  ·exact h5.ob
 keep:=λ i h h' st q=>by
  obtain ⟨h1,h2,⟨e,f,h3⟩,h4,h5⟩:=st
  exact ⟨q z (by simp) _ h1,q t (by simp) _ h2,⟨e,f,q p (by simp) _ h3⟩,h4.keep λ o x=>q j (by simp) o x,h5.keep λ o x=>q k (by simp) o x⟩
 item:=by
  intro X hP hw hK hc i pins s σ H E I hf st hg
  subst hP hw hK
  obtain ⟨h1,h2,⟨e,f,h3⟩,h4,h5⟩:=st
  obtain ⟨xs,x,ys,y,hq,hx,hr,hy⟩:=hg
  obtain ⟨its,rv,pa,hz⟩:=I.sqA hq
  obtain ⟨jts,rw_,pc,hz'⟩:=I.sqA hr
  obtain ⟨u,hu,ru⟩:=rv.get hx
  obtain ⟨v,hv,rv'⟩:=rw_.get hy
  have zlt:z<s.heap.objs.size:=Heap.lt_size h1
  refine zxn D h1 h2 h3 h4 h5 pa pc an cn (x:=u) (y:=v) (by simpa using hu) (by simpa using hv) λ k1 z1 p1 j1 l1 t1 all1=>?_
  refine ⟨_,rfl,wpAny_letOwnedTupleGo_zip z1 λ k2 z2 s2=>?_⟩
  have hT2:k2.get? s.heap.objs.size=some { cls := .type "tuple",data := .seq #[u,v] }:=(s2.2 _ (Nat.ne_of_gt zlt)).trans t1
  have all2:∀ d o,d∉[z,t,p,j,k]→s.heap.get? d=some o→k2.get? d=some o:=λ d o hd q=>by
   have n1:d≠z:=λ e=>hd (by simp [e])
   exact (s2.2 d n1).trans (all1 d o n1 (λ e=>hd (by simp [e])) (λ e=>hd (by simp [e])) (λ e=>hd (by simp [e])) q)
  have I2:Inv X pins σ (upd H s.heap.objs.size (.tup [x,y])) { s with heap:=k2 }:=by
   refine I.turnLay (t':=s.toks) (ch:=[z,t,p,j,k]) hf all2 (Nat.le_refl _) ?_
   exact ⟨by show 2≤sizeLine;decide,[u,v],.cons ru (.cons rv' .nil),⟨_,hT2,rfl,_,rfl⟩⟩
  have hn:H s.heap.objs.size=none:=I.hok.fresh (Nat.le_refl _)
  refine ⟨.ref s.heap.objs.size,_,I2,rfl,⟨_,x,y,rfl,hn,rfl,λ xs' h'=>by rw [I.sqA_inj h' hq];exact hx,λ ys' h'=>by rw [I.sqA_inj h' hr];exact hy⟩,⟨z2,s2.extBut _ _ D.tz (all1 _ _ D.tz D.tp D.tj D.tk h2),⟨_,_,s2.extBut _ _ D.pz p1⟩,j1.keep λ o q=>s2.extBut _ _ D.jz q,l1.keep λ o q=>s2.extBut _ _ D.kz q⟩,λ d hd=>?_⟩
  have hd':d<s.heap.objs.size:=by
   have hd2:=hd
   simp only [List.mem_cons,List.not_mem_nil,or_false] at hd2
   rcases hd2 with rfl | rfl | rfl | rfl | rfl
   ·exact zlt
   ·exact Heap.lt_size h2
   ·exact Heap.lt_size h3
   ·obtain ⟨o,q,_⟩:=h4.ob;exact Heap.lt_size q
   ·obtain ⟨o,q,_⟩:=h5.ob;exact Heap.lt_size q
  rw [zva (Nat.ne_of_lt hd')]
  exact (hf d hd).1
 done:=by
  intro X hP hw hK hc i pins s σ H E I hf st hg
  subst hP hw hK
  obtain ⟨h1,h2,⟨e,f,h3⟩,h4,h5⟩:=st
  obtain ⟨xs,hq,hx⟩:=hg
  obtain ⟨its,rv,pa,hz⟩:=I.sqA hq
  have hl:=rv.length
  exact zin (I.ok.hd hc) D h1 h2 h3 h4 pa an.1 (by simp;omega) λ h' al=>⟨rfl,I.turnedL (t':=s.toks) hf λ d o hd q=>al d o (λ e=>hd (by simp [e])) (λ e=>hd (by simp [e])) q⟩
 self:=λ A i s Q E st h=>wpAny_pyIter_zip st.1 h
theorem zbq (n:Nat):Apt (n+4) (n+2) (n+3) n (n+1):=by
 constructor <;> (intro e;have e:(_:Nat)=(_:Nat):=e;omega)
theorem zbm {a n:Nat} (h:a<n):(a:Addr)≠n+4∧(a:Addr)≠n+3∧(a:Addr)≠n∧(a:Addr)≠n+1:=by
 refine ⟨?_,?_,?_,?_⟩ <;> (intro e;have e:(_:Nat)=(_:Nat):=e;omega)
section
variable {X:Cx}
noncomputable def iZip (K:W.Frag) (b b2:Bool) (ta:TA):TI:=λ σ H R=>ta σ H λ vs H1=>∃ a c,vs=[.ref a,.ref c]∧(∃ xs,SqA b K H1 a xs)∧(∃ ys,SqA b2 K H1 c ys)∧R (Itz K b b2 a c) H1
theorem zlq (b b2:Bool) {elts:List Expr} {kk:Nat} {tp:Pos} {a c:Expr} {ta:TA} {p pos:Pos} (hg:Gl X "zip") (hm:X.mg "zip" = none) (hb:bootBuiltins "zip" = some (.type "zip")) (ha:PA X [a,c] ta) (hs:starEach [a,c] X.env=(false,eval a X.env)::starEach [c] X.env:=by rfl) (hs2:starEach [c] X.env=[(false,eval c X.env)]:=by rfl) :
  PI X (.Tuple elts kk tp) (.Call (.Name "zip" p) [a,c] [] pos) (iZip X.K b b2 ta) := .mk <| by
 intro pins s σ H R I h
 refine Call_ (zdh I hg hm hb (PyProof.Rows.callWith_type1 (thn (ha pos pins s σ H _ I h) λ us s1 ⟨vs,H1,I1,r1,q1⟩=>?_) hs (by rw [hs2];rfl)))
 obtain ⟨a1,c1,e,⟨xs,hq⟩,⟨ys,hr⟩,q⟩:=q1
 subst e
 cases r1 with
 | cons r rr =>
  cases rr with
  | cons r2 r3 =>
   cases r3
   cases r
   cases r2
   obtain ⟨its,rv,pa,hz⟩:=I1.sqA hq
   obtain ⟨jts,rw_,pc,hz'⟩:=I1.sqA hr
   refine zgk pa pc λ h' z1 t1 p1 j1 k1 al=>?_
   have I2:Inv X pins σ H1 { s1 with heap:=h' }:=I1.kept (t':=s1.toks) al
   have la:a1<s1.heap.objs.size:=by obtain ⟨o,q⟩:=pa.ob;exact Heap.lt_size q
   have lc:c1<s1.heap.objs.size:=by obtain ⟨o,q⟩:=pc.ob;exact Heap.lt_size q
   have T:=zan (P:=X.prog) (w:=X.w) (K:=X.K) (elts:=elts) (kk:=kk) (tp:=tp) (b:=b) (b2:=b2) (s1.heap.objs.size+4) (s1.heap.objs.size+2) (s1.heap.objs.size+3) s1.heap.objs.size (s1.heap.objs.size+1) a1 c1 (zbq _) (zbm la) (zbm lc)
   have t0:zpw b b2 (s1.heap.objs.size+4) (s1.heap.objs.size+2) (s1.heap.objs.size+3) s1.heap.objs.size (s1.heap.objs.size+1) a1 c1 0 h':=⟨z1,t1,⟨_,_,p1⟩,j1,k1⟩
   refine T.self X.A 0 _ _ _ t0 ⟨_,_,_,_,H1,rfl,I2,T,t0,λ d hd=>?_,q⟩
   have hd':s1.heap.objs.size≤d:=by
    simp only [List.mem_cons,List.not_mem_nil,or_false] at hd
    rcases hd with rfl | rfl | rfl | rfl | rfl
    ·exact Nat.le_add_right _ _
    ·exact Nat.le_add_right _ _
    ·exact Nat.le_add_right _ _
    ·exact Nat.le_refl _
    ·exact Nat.le_add_right _ _
   exact I1.fpOk hd' (I1.hok.fresh hd')
end
theorem zuh {K:W.Frag} {b b2:Bool} {a c:Addr} {xs ys:List V} {nt:Nat} {cap:List Nat} {g:TG} {te:TE} {σ:St} {H1:Hp} {Q:VK} {D:Addr} (R:Nat→V→Hp→Prop) (hD:H1 D=none) (hP:Plain H1) (ha:SqA b K H1 a xs) (hc:SqA b2 K H1 c ys) (hx:xs.length≤sizeLine) (hl':xs.length=ys.length)
  (mono:∀ i y H H',R i y H→(∀ b o,b≠D→H b=some o→H' b=some o)→(∃ zs,H D=some (.lst zs))→R i y H')
  (step:∀ (i:Nat) x y H2 T' (T:VK),xs[i]? = some x→ys[i]? = some y→Plain H2→Same H1 H2→H2 T'=none→(∀ v H6,R i v H6→Same H2 H6→Plain H6→T v H6)→g (.ref T') (List.replicate nt none++caps cap σ) (upd H2 T' (.tup [x,y])) λ σ4 H4=>te σ4 H4 T)
  (fin:∀ vs H2,vs.length=xs.length→(∀ (i:Nat) y,vs[i]? = some y→R i y H2)→H2 D=some (.lst vs)→Same H1 H2→Plain H2→Q (.ref D) H2) :
  zmr (Itz K b b2 a c) D nt cap g tYes te σ H1 Q:=by
 refine ⟨λ i m vs H2=>m=xs.length - i∧i≤xs.length∧vs.length=i∧H2 D=some (.lst vs)∧Same H1 H2∧Plain H2∧∀ (j:Nat) y,vs[j]? = some y→R j y H2,⟨_,rfl,Nat.zero_le _,rfl,upd_same,zfa hD,hP.lst,λ j y e=>by simp at e⟩,?_⟩
 rintro i m vs H2 ⟨rfl,hi,hl,hd,hs,hp,hr⟩
 refine ⟨hd,?_⟩
 by_cases hlt:i<xs.length
 ·have hlt':i<ys.length:=by omega
  refine .inr ⟨⟨xs,xs[i],ys,ys[i],ha.same hs,by simp [hlt],hc.same hs,by simp [hlt']⟩,by omega,λ v H3 hy=>?_⟩
  obtain ⟨T',x,y,rfl,hT,rfl,hx',hy'⟩:=hy
  simp only [tYes,if_true]
  refine step i x y _ T' _ (hx' xs (ha.same hs)) (hy' ys (hc.same hs)) hp hs hT λ v H6 hR hs6 hp6=>⟨hs6 _ _ hd,_,by omega,rfl,hlt,by simp [hl],upd_same,(hs.trans hs6).upd hD,hp6.lst,?_⟩
  intro j z e
  have up:∀ b o,b≠D→H6 b=some o→(upd H6 D (.lst (vs++[v]))) b=some o:=λ b o hb e=>by rw [zva hb];exact e
  rcases Nat.lt_or_ge j vs.length with hj | hj
  ·rw [List.getElem?_append_left hj] at e
   exact mono j z H6 _ (mono j z _ H6 (hr j z e) (λ b o _ e=>hs6 b o e) ⟨_,hd⟩) up ⟨_,hs6 _ _ hd⟩
  ·have hj0:j=i:=by
    have:=(List.getElem?_eq_some_iff.mp e).1
    rw [List.length_append,List.length_cons,List.length_nil] at this
    omega
   subst hj0
   have e:some v=some z:=by rw [← e,← hl,List.getElem?_concat_length]
   cases e
   exact mono j v H6 _ hR up ⟨_,hs6 _ _ hd⟩
 ·have e:i=xs.length:=by omega
  subst e
  exact .inl ⟨⟨xs,ha.same hs,Nat.le_refl _⟩,fin vs H2 hl hr hd hs hp⟩
end L2
namespace L2
open PySem PySem.Spec PyProof.Rows PySem.NumText PySem.W
section
variable {X:Cx}
end
end L2
namespace L2
open PySem PySem.Spec PyProof.Rows PySem.NumText PySem.W
section
variable {X:Cx}
end
section
variable {X:Cx}
end
end L2
namespace L2
open PySem PySem.Spec PyProof.Rows PySem.NumText PySem.W
section
variable {X:Cx}
noncomputable def zjx (d:Addr) (kvs:List (Str×Value)):R2:=λ x y H Q=>y = .ref d∧∃ k,x = .str k∧Q (.bl (valueAt kvs k).isSome) H
theorem zro {d:Addr} {kvs:List (Str×Value)} (D:DcK X.w X.K d kvs) (hd:(d == sysModules)=false):OpR X (compareOp .In) (zjx d kvs):=by
 intro pins s σ H x y v u Q I rx ry h
 obtain ⟨rfl,k,rfl,q⟩:=h
 obtain ⟨t,rfl⟩:=rx
 cases ry
 have dd:s.heap.DictOf (strKind X.prog X.w) d kvs:=D.dict I.kIn
 exact wpAny_in_of (knd:=strKind X.prog X.w) (beq_self_eq_true k) hd dd.mapOf ⟨.bl _,H,I.tok _,rfl,q⟩
end
end L2
namespace L2
open PySem PySem.Spec PyProof.Rows PySem.NumText PySem.W
section
variable {X:Cx}
theorem zgh:zlf X (.builtin "isinstance") (λ xs H Q=>(∃ a ys,xs=[.ref a,.ty "tuple"]∧SqT X.K H a ys∧Q (.bl true) H) ∨ (∃ i,xs=[.int i,.ty "tuple"]∧Q (.bl false) H) ∨ ∃ z,xs=[.str z,.ty "tuple"]∧Q (.bl false) H):=by
 intro pins s σ H xs us Q I rv h
 rcases h with ⟨a,ys,rfl,ha,q⟩ | ⟨i,rfl,q⟩ | ⟨z,rfl,q⟩
 ·exact zmj pins s σ H _ us Q I rv ⟨a,ys,rfl,ha,q⟩
 ·obtain ⟨u,u',rfl,ru,rv'⟩:=rv.two
  obtain ⟨t,rfl⟩:=(show ∃ t,u=Value.int i t from ru)
  cases (show u'=Value.type "tuple" from rv')
  exact W.kia_one (K:=X.K) W.kitx_int I.kIn True.intro (show W.kitOne X.K (.type "int") (.type "tuple")=some false from rfl) (λ z=>nomatch z) λ tk=>⟨.bl false,H,I.tok tk,rfl,q⟩
 ·obtain ⟨u,u',rfl,ru,rv'⟩:=rv.two
  obtain ⟨t,rfl⟩:=(show ∃ t,u=Value.str z t from ru)
  cases (show u'=Value.type "tuple" from rv')
  exact W.kia_one (K:=X.K) W.kitx_str I.kIn True.intro (show W.kitOne X.K (.type "str") (.type "tuple")=some false from rfl) (λ z=>nomatch z) λ tk=>⟨.bl false,H,I.tok tk,rfl,q⟩
theorem zjh:zlf X (.builtin "isinstance") (λ xs H Q=>(∃ i,xs=[.int i,.ty "int"]∧Q (.bl true) H) ∨ ∃ z,xs=[.str z,.ty "int"]∧Q (.bl false) H):=by
 intro pins s σ H xs us Q I rv h
 rcases h with ⟨i,rfl,q⟩ | ⟨z,rfl,q⟩
 ·exact zpi pins s σ H _ us Q I rv ⟨i,rfl,q⟩
 ·obtain ⟨u,u',rfl,ru,rv'⟩:=rv.two
  obtain ⟨t,rfl⟩:=(show ∃ t,u=Value.str z t from ru)
  cases (show u'=Value.type "int" from rv')
  exact W.kia_one (K:=X.K) W.kitx_str I.kIn True.intro (show W.kitOne X.K (.type "str") (.type "int")=some false from rfl) (λ z=>nomatch z) λ tk=>⟨.bl false,H,I.tok tk,rfl,q⟩
end
end L2
local macro_rules | `(tactic| walk_at "rd") => `(tactic| repeat (first
 | refine ⟨_,rfl,?_⟩
 | refine ⟨_,_,rfl,rfl,?_⟩
 | refine ⟨(by show (0:Int)<_;decide),?_⟩
 | refine ⟨⟨by decide,by decide⟩,?_⟩
 | refine ⟨Or.inr ⟨by decide,by decide⟩,?_⟩
 | refine ⟨⟨by decide,by decide,by decide⟩,?_⟩
 | refine ⟨_,_,_,_,rfl,rfl,L2.SqL.of L2.upd_same,rfl,?_⟩
 | refine ⟨_,_,_,_,rfl,rfl,L2.SqL.of (by assumption),rfl,?_⟩))
namespace My
open PySem L2 PySem.Spec PyProof.Rows PySem.NumText
local macro_rules | `(tactic| walk_at "sc") => `(tactic| exact ⟨rfl,rfl,rfl,by decide +kernel,rfl,by decide +kernel,by decide +kernel⟩)
theorem sm1 {n:Nat} (h:n≤1000):n≤sizeLine:=Nat.le_of_lt (zck h)
theorem ip_2:(0:Int)<2:=by decide
theorem ip_3:(0:Int)<3:=by decide
theorem ip_4:(0:Int)<4:=by decide
theorem ip_5:(0:Int)<5:=by decide
theorem ip_8:(0:Int)<8:=by decide
theorem ip_9:(0:Int)<9:=by decide
theorem zwx:(0:Int)<11:=by decide
theorem zux:(0:Int)<13:=by decide
theorem zzy:(0:Int)<94:=by decide
theorem zum:(0:Int)<100:=by decide
theorem zcw:(0:Int)<200:=by decide
theorem zhp:(0:Int)<1009:=by decide
theorem sz_0:0≤sizeLine:=by decide
theorem sz_1:1≤sizeLine:=by decide
theorem sz_2:2≤sizeLine:=by decide
theorem sz_3:3≤sizeLine:=by decide
theorem sz_4:4≤sizeLine:=by decide
theorem sz_8:8≤sizeLine:=by decide
noncomputable def top (i:Nat):Stmt:=PySem.Challenge.pw_twotabs_k47_slip_rows.main.body.getD i (.Pass ⟨0,0,0,0⟩)
noncomputable abbrev zit:Stmt:=top 15
noncomputable abbrev zfu:Stmt:=top 16
noncomputable abbrev s_q7:Stmt:=top 18
noncomputable abbrev zqu:Stmt:=top 19
noncomputable abbrev s_q8:Stmt:=top 24
noncomputable abbrev s_q4:Stmt:=top 23
noncomputable abbrev zet:Stmt:=top 21
noncomputable abbrev zwt:Stmt:=top 30
noncomputable abbrev zgw:Stmt:=top 29
noncomputable abbrev s_q6:Stmt:=top 33
noncomputable abbrev s_q3:Stmt:=top 36
noncomputable abbrev znu:Stmt:=top 65
noncomputable abbrev s_q5:Stmt:=top 66
noncomputable abbrev zyv:Stmt:=top 64
noncomputable abbrev zkv:Stmt:=top 63
noncomputable abbrev s_q0:Stmt:=top 62
noncomputable abbrev zvu:Stmt:=top 17
noncomputable abbrev zut:Stmt:=top 22
noncomputable abbrev zew:Stmt:=top 20
noncomputable abbrev zzs:Stmt:=top 28
noncomputable abbrev zht:Stmt:=top 34
noncomputable abbrev s_q2:Stmt:=top 35
noncomputable abbrev zgs:Stmt:=top 61
noncomputable abbrev zyt:Stmt:=top 60
noncomputable abbrev zvs:Stmt:=top 59
noncomputable abbrev zsu:Stmt:=top 68
noncomputable abbrev zqt:Stmt:=top 69
noncomputable abbrev zuv:Stmt:=top 70
noncomputable abbrev zxr:Stmt:=top 71
noncomputable abbrev zuu:Stmt:=top 72
noncomputable abbrev zot:Stmt:=top 73
noncomputable abbrev s_q9:Stmt:=top 74
noncomputable abbrev zrt:Stmt:=top 75
noncomputable abbrev zwv:Stmt:=top 76
noncomputable abbrev zvr:Stmt:=top 77
noncomputable abbrev s_q1:Stmt:=top 78
noncomputable abbrev zdw:Stmt:=top 79
noncomputable abbrev zeo:Stmt:=top 80
structure Adr where
 f_q34:Addr
 d_q34:FuncData
 f_q35:Addr
 d_q35:FuncData
 f_q7:Addr
 d_q7:FuncData
 f_q26:Addr
 d_q26:FuncData
 f_q8:Addr
 d_q8:FuncData
 f_q4:Addr
 d_q4:FuncData
 f_q22:Addr
 d_q22:FuncData
 f_q27:Addr
 d_q27:FuncData
 f_q20:Addr
 d_q20:FuncData
 f_q6:Addr
 d_q6:FuncData
 f_q3:Addr
 d_q3:FuncData
 f_q16:Addr
 d_q16:FuncData
 f_q5:Addr
 d_q5:FuncData
 f_q21:Addr
 d_q21:FuncData
 f_q32:Addr
 d_q32:FuncData
 f_q0:Addr
 d_q0:FuncData
 f_q10:Addr
 d_q10:FuncData
 f_q11:Addr
 d_q11:FuncData
 f_q24:Addr
 d_q24:FuncData
 f_q19:Addr
 d_q19:FuncData
 f_q36:Addr
 d_q36:FuncData
 f_q2:Addr
 d_q2:FuncData
 f_q17:Addr
 d_q17:FuncData
 f_q30:Addr
 d_q30:FuncData
 f_q33:Addr
 d_q33:FuncData
 f_q15:Addr
 d_q15:FuncData
 f_q13:Addr
 d_q13:FuncData
 f_q23:Addr
 d_q23:FuncData
 f_q12:Addr
 d_q12:FuncData
 f_q29:Addr
 d_q29:FuncData
 f_q28:Addr
 d_q28:FuncData
 f_q9:Addr
 d_q9:FuncData
 f_q25:Addr
 d_q25:FuncData
 f_q31:Addr
 d_q31:FuncData
 f_q18:Addr
 d_q18:FuncData
 f_q1:Addr
 d_q1:FuncData
 f_q14:Addr
 d_q14:FuncData
 f_law:Addr
 d_law:FuncData
 DraftError:Addr
 NoBuilt:Addr
 NoPaper:Addr
 NoRow:Addr
 NoText:Addr
 NOTES:Addr
 CHOICES:Addr
 DEEDS:Addr
 v_DEEDS_put:Value
 v_DEEDS_take:Value
 v_DEEDS_move:Value
 v_DEEDS_write:Value
 v_DEEDS_part:Value
 v_DEEDS_join:Value
 v_DEEDS_carry:Value
 SHAPES:Addr
 v_SHAPES_begin:Addr
 v_SHAPES_put:Addr
 v_SHAPES_take:Addr
 v_SHAPES_move:Addr
 v_SHAPES_write:Addr
 v_SHAPES_part:Addr
 v_SHAPES_join:Addr
 v_SHAPES_carry:Addr
 v_SHAPES_undo:Addr
 v_SHAPES_again:Addr
 v_SHAPES_reload:Addr
 v_SHAPES_save:Addr
 v_SHAPES_back:Addr
 v_SHAPES_settle:Addr
 v_SHAPES_piece:Addr
 v_SHAPES_clash:Addr
 LEAST:Addr
 v_LEAST_beat:Tok
 v_LEAST_window:Tok
 v_LEAST_clash:Tok
 v_LEAST_save:Tok
 v_LEAST_count:Tok
structure Txt (w:World) (K:W.Frag) (mg:Str→Option Value) (A:Adr):Prop where
 F_q34:Fun K "is_words" "is_words" zit A.f_q34 A.d_q34
 g_q34:mg "is_words" = some (.ref A.f_q34)
 k_q34:W.keepIn K (.ref A.f_q34)=true
 b_q34:Binds K A.d_q34 ["text"] []
 F_q35:Fun K "made_of" "made_of" zfu A.f_q35 A.d_q35
 g_q35:mg "made_of" = some (.ref A.f_q35)
 k_q35:W.keepIn K (.ref A.f_q35)=true
 b_q35:Binds K A.d_q35 ["text", "signs"] []
 F_q7:Fun K "read_number" "read_number" s_q7 A.f_q7 A.d_q7
 g_q7:mg "read_number" = some (.ref A.f_q7)
 k_q7:W.keepIn K (.ref A.f_q7)=true
 b_q7:Binds K A.d_q7 ["text"] []
 F_q26:Fun K "read_from" "read_from" zqu A.f_q26 A.d_q26
 g_q26:mg "read_from" = some (.ref A.f_q26)
 k_q26:W.keepIn K (.ref A.f_q26)=true
 b_q26:Binds K A.d_q26 ["least", "text"] []
 F_q8:Fun K "check_maker" "check_maker" s_q8 A.f_q8 A.d_q8
 g_q8:mg "check_maker" = some (.ref A.f_q8)
 k_q8:W.keepIn K (.ref A.f_q8)=true
 b_q8:Binds K A.d_q8 ["window", "count"] []
 F_q4:Fun K "read_dotted" "read_dotted" s_q4 A.f_q4 A.d_q4
 g_q4:mg "read_dotted" = some (.ref A.f_q4)
 k_q4:W.keepIn K (.ref A.f_q4)=true
 b_q4:Binds K A.d_q4 ["text", "many"] []
 F_q22:Fun K "read_mark" "read_mark" zet A.f_q22 A.d_q22
 g_q22:mg "read_mark" = some (.ref A.f_q22)
 k_q22:W.keepIn K (.ref A.f_q22)=true
 b_q22:Binds K A.d_q22 ["text"] []
 F_q27:Fun K "read_step" "read_step" zwt A.f_q27 A.d_q27
 g_q27:mg "read_step" = some (.ref A.f_q27)
 k_q27:W.keepIn K (.ref A.f_q27)=true
 b_q27:Binds K A.d_q27 ["text"] []
 F_q20:Fun K "read_place" "read_place" zgw A.f_q20 A.d_q20
 g_q20:mg "read_place" = some (.ref A.f_q20)
 k_q20:W.keepIn K (.ref A.f_q20)=true
 b_q20:Binds K A.d_q20 ["text"] []
 F_q6:Fun K "out_version" "out_version" s_q6 A.f_q6 A.d_q6
 g_q6:mg "out_version" = some (.ref A.f_q6)
 k_q6:W.keepIn K (.ref A.f_q6)=true
 b_q6:Binds K A.d_q6 ["beat"] []
 F_q3:Fun K "read_version" "read_version" s_q3 A.f_q3 A.d_q3
 g_q3:mg "read_version" = some (.ref A.f_q3)
 k_q3:W.keepIn K (.ref A.f_q3)=true
 b_q3:Binds K A.d_q3 ["text"] []
 F_q16:Fun K "read_words" "read_words" znu A.f_q16 A.d_q16
 g_q16:mg "read_words" = some (.ref A.f_q16)
 k_q16:W.keepIn K (.ref A.f_q16)=true
 b_q16:Binds K A.d_q16 ["text"] []
 F_q5:Fun K "read_choice" "read_choice" s_q5 A.f_q5 A.d_q5
 g_q5:mg "read_choice" = some (.ref A.f_q5)
 k_q5:W.keepIn K (.ref A.f_q5)=true
 b_q5:Binds K A.d_q5 ["text"] []
 F_q21:Fun K "read_field" "read_field" zyv A.f_q21 A.d_q21
 g_q21:mg "read_field" = some (.ref A.f_q21)
 k_q21:W.keepIn K (.ref A.f_q21)=true
 b_q21:Binds K A.d_q21 ["kind", "text"] []
 F_q32:Fun K "read_row" "read_row" zkv A.f_q32 A.d_q32
 g_q32:mg "read_row" = some (.ref A.f_q32)
 k_q32:W.keepIn K (.ref A.f_q32)=true
 b_q32:Binds K A.d_q32 ["row"] []
 F_q0:Fun K "read_slip_row" "read_slip_row" s_q0 A.f_q0 A.d_q0
 g_q0:mg "read_slip_row" = some (.ref A.f_q0)
 k_q0:W.keepIn K (.ref A.f_q0)=true
 b_q0:Binds K A.d_q0 ["row"] []
 F_q10:Fun K "number_text" "number_text" zvu A.f_q10 A.d_q10
 g_q10:mg "number_text" = some (.ref A.f_q10)
 k_q10:W.keepIn K (.ref A.f_q10)=true
 b_q10:Binds K A.d_q10 ["number"] []
 F_q11:Fun K "dotted_text" "dotted_text" zut A.f_q11 A.d_q11
 g_q11:mg "dotted_text" = some (.ref A.f_q11)
 k_q11:W.keepIn K (.ref A.f_q11)=true
 b_q11:Binds K A.d_q11 ["numbers"] []
 F_q24:Fun K "mark_text" "mark_text" zew A.f_q24 A.d_q24
 g_q24:mg "mark_text" = some (.ref A.f_q24)
 k_q24:W.keepIn K (.ref A.f_q24)=true
 b_q24:Binds K A.d_q24 ["mark"] []
 F_q19:Fun K "place_text" "place_text" zzs A.f_q19 A.d_q19
 g_q19:mg "place_text" = some (.ref A.f_q19)
 k_q19:W.keepIn K (.ref A.f_q19)=true
 b_q19:Binds K A.d_q19 ["place"] []
 F_q36:Fun K "is_in" "is_in" zht A.f_q36 A.d_q36
 g_q36:mg "is_in" = some (.ref A.f_q36)
 k_q36:W.keepIn K (.ref A.f_q36)=true
 b_q36:Binds K A.d_q36 ["version"] []
 F_q2:Fun K "version_text" "version_text" s_q2 A.f_q2 A.d_q2
 g_q2:mg "version_text" = some (.ref A.f_q2)
 k_q2:W.keepIn K (.ref A.f_q2)=true
 b_q2:Binds K A.d_q2 ["version"] []
 F_q17:Fun K "field_text" "field_text" zgs A.f_q17 A.d_q17
 g_q17:mg "field_text" = some (.ref A.f_q17)
 k_q17:W.keepIn K (.ref A.f_q17)=true
 b_q17:Binds K A.d_q17 ["kind", "value"] []
 F_q30:Fun K "row_text" "row_text" zyt A.f_q30 A.d_q30
 g_q30:mg "row_text" = some (.ref A.f_q30)
 k_q30:W.keepIn K (.ref A.f_q30)=true
 b_q30:Binds K A.d_q30 ["word", "values"] []
 F_q33:Fun K "slip_row" "slip_row" zvs A.f_q33 A.d_q33
 g_q33:mg "slip_row" = some (.ref A.f_q33)
 k_q33:W.keepIn K (.ref A.f_q33)=true
 b_q33:Binds K A.d_q33 ["record"] []
 F_q15:Fun K "_law_words" "_law_words" zsu A.f_q15 A.d_q15
 g_q15:mg "_law_words" = some (.ref A.f_q15)
 k_q15:W.keepIn K (.ref A.f_q15)=true
 b_q15:Binds K A.d_q15 ["_law_number_here"] []
 F_q13:Fun K "_law_number" "_law_number" zqt A.f_q13 A.d_q13
 g_q13:mg "_law_number" = some (.ref A.f_q13)
 k_q13:W.keepIn K (.ref A.f_q13)=true
 b_q13:Binds K A.d_q13 ["_law_number_here", "_law_least"] []
 F_q23:Fun K "_law_mark" "_law_mark" zuv A.f_q23 A.d_q23
 g_q23:mg "_law_mark" = some (.ref A.f_q23)
 k_q23:W.keepIn K (.ref A.f_q23)=true
 b_q23:Binds K A.d_q23 ["_law_number_here"] []
 F_q12:Fun K "_law_behind" "_law_behind" zxr A.f_q12 A.d_q12
 g_q12:mg "_law_behind" = some (.ref A.f_q12)
 k_q12:W.keepIn K (.ref A.f_q12)=true
 b_q12:Binds K A.d_q12 ["_law_number_here"] []
 F_q29:Fun K "_law_many" "_law_many" zuu A.f_q29 A.d_q29
 g_q29:mg "_law_many" = some (.ref A.f_q29)
 k_q29:W.keepIn K (.ref A.f_q29)=true
 b_q29:Binds K A.d_q29 ["_law_number_here"] []
 F_q28:Fun K "_law_deed" "_law_deed" zot A.f_q28 A.d_q28
 g_q28:mg "_law_deed" = some (.ref A.f_q28)
 k_q28:W.keepIn K (.ref A.f_q28)=true
 b_q28:Binds K A.d_q28 ["_law_way", "_law_number_here"] []
 F_q9:Fun K "_law_record" "_law_record" s_q9 A.f_q9 A.d_q9
 g_q9:mg "_law_record" = some (.ref A.f_q9)
 k_q9:W.keepIn K (.ref A.f_q9)=true
 b_q9:Binds K A.d_q9 ["_law_number_here"] []
 F_q25:Fun K "_law_part" "_law_part" zrt A.f_q25 A.d_q25
 g_q25:mg "_law_part" = some (.ref A.f_q25)
 k_q25:W.keepIn K (.ref A.f_q25)=true
 b_q25:Binds K A.d_q25 ["_law_part_here"] []
 F_q31:Fun K "_law_row" "_law_row" zwv A.f_q31 A.d_q31
 g_q31:mg "_law_row" = some (.ref A.f_q31)
 k_q31:W.keepIn K (.ref A.f_q31)=true
 b_q31:Binds K A.d_q31 ["_law_record_here"] []
 F_q18:Fun K "_law_great" "_law_great" zvr A.f_q18 A.d_q18
 g_q18:mg "_law_great" = some (.ref A.f_q18)
 k_q18:W.keepIn K (.ref A.f_q18)=true
 b_q18:Binds K A.d_q18 ["_law_record_here", "_law_number_here"] []
 F_q1:Fun K "_law_refused" "_law_refused" s_q1 A.f_q1 A.d_q1
 g_q1:mg "_law_refused" = some (.ref A.f_q1)
 k_q1:W.keepIn K (.ref A.f_q1)=true
 b_q1:Binds K A.d_q1 ["_law_record_here", "_law_row_here"] []
 F_q14:Fun K "_law_mixed" "_law_mixed" zdw A.f_q14 A.d_q14
 g_q14:mg "_law_mixed" = some (.ref A.f_q14)
 k_q14:W.keepIn K (.ref A.f_q14)=true
 b_q14:Binds K A.d_q14 ["_law_cell", "_law_k"] []
 F_law:Fun K "law" "law" zeo A.f_law A.d_law
 g_law:mg "law" = some (.ref A.f_law)
 k_law:W.keepIn K (.ref A.f_law)=true
 b_law:Binds K A.d_law ["_law_script"] []
 u_FIGURES:∃ t,mg "FIGURES" = some (.str "0123456789" t)
 u_HEAD_OF_ALL:∃ t,mg "HEAD_OF_ALL" = some (.str "-" t)
 u_MOST_FIGURES:∃ t,mg "MOST_FIGURES" = some (.int (30) t)
 u_OUT:∃ t,mg "OUT" = some (.str "-" t)
 u_TOO_GREAT:∃ t,mg "TOO_GREAT" = some (.int (1000000000000000000000000000000) t)
 g_DraftError:mg "DraftError" = some (.ref A.DraftError)
 x_DraftError:XCls K A.DraftError
 g_NoBuilt:mg "NoBuilt" = some (.ref A.NoBuilt)
 x_NoBuilt:XCls K A.NoBuilt
 g_NoPaper:mg "NoPaper" = some (.ref A.NoPaper)
 x_NoPaper:XCls K A.NoPaper
 g_NoRow:mg "NoRow" = some (.ref A.NoRow)
 x_NoRow:XCls K A.NoRow
 g_NoText:mg "NoText" = some (.ref A.NoText)
 x_NoText:XCls K A.NoText
 g_NOTES:mg "NOTES" = some (.ref A.NOTES)
 t_NOTES:∀ H,SqT K H A.NOTES [.str "begin",.str "undo",.str "again",.str "reload"]
 g_CHOICES:mg "CHOICES" = some (.ref A.CHOICES)
 t_CHOICES:∀ H,SqT K H A.CHOICES [.str "stay",.str "turn",.str "both"]
 g_DEEDS:mg "DEEDS" = some (.ref A.DEEDS)
 t_DEEDS:DcK w K A.DEEDS [("put",A.v_DEEDS_put),("take",A.v_DEEDS_take),("move",A.v_DEEDS_move),("write",A.v_DEEDS_write),("part",A.v_DEEDS_part),("join",A.v_DEEDS_join),("carry",A.v_DEEDS_carry)]
 g_SHAPES:mg "SHAPES" = some (.ref A.SHAPES)
 y_SHAPES:(A.SHAPES == sysModules)=false
 t_SHAPES:DcK w K A.SHAPES [("begin",.ref A.v_SHAPES_begin),("put",.ref A.v_SHAPES_put),("take",.ref A.v_SHAPES_take),("move",.ref A.v_SHAPES_move),("write",.ref A.v_SHAPES_write),("part",.ref A.v_SHAPES_part),("join",.ref A.v_SHAPES_join),("carry",.ref A.v_SHAPES_carry),("undo",.ref A.v_SHAPES_undo),("again",.ref A.v_SHAPES_again),("reload",.ref A.v_SHAPES_reload),("save",.ref A.v_SHAPES_save),("back",.ref A.v_SHAPES_back),("settle",.ref A.v_SHAPES_settle),("piece",.ref A.v_SHAPES_piece),("clash",.ref A.v_SHAPES_clash)]
 q_SHAPES_begin:∀ H,SqT K H A.v_SHAPES_begin [.str "beat",.str "window",.str "save"]
 q_SHAPES_put:∀ H,SqT K H A.v_SHAPES_put [.str "beat",.str "behind",.str "words"]
 q_SHAPES_take:∀ H,SqT K H A.v_SHAPES_take [.str "beat",.str "mark"]
 q_SHAPES_move:∀ H,SqT K H A.v_SHAPES_move [.str "beat",.str "mark",.str "behind"]
 q_SHAPES_write:∀ H,SqT K H A.v_SHAPES_write [.str "beat",.str "mark",.str "words"]
 q_SHAPES_part:∀ H,SqT K H A.v_SHAPES_part [.str "beat",.str "mark",.str "many"]
 q_SHAPES_join:∀ H,SqT K H A.v_SHAPES_join [.str "beat",.str "mark"]
 q_SHAPES_carry:∀ H,SqT K H A.v_SHAPES_carry [.str "beat",.str "mark",.str "mark",.str "behind"]
 q_SHAPES_undo:∀ H,SqT K H A.v_SHAPES_undo [.str "beat"]
 q_SHAPES_again:∀ H,SqT K H A.v_SHAPES_again [.str "beat"]
 q_SHAPES_reload:∀ H,SqT K H A.v_SHAPES_reload [.str "beat",.str "save"]
 q_SHAPES_save:∀ H,SqT K H A.v_SHAPES_save [.str "beat",.str "window",.str "count"]
 q_SHAPES_back:∀ H,SqT K H A.v_SHAPES_back [.str "beat",.str "save"]
 q_SHAPES_settle:∀ H,SqT K H A.v_SHAPES_settle [.str "beat",.str "clash",.str "choice"]
 q_SHAPES_piece:∀ H,SqT K H A.v_SHAPES_piece [.str "mark",.str "version"]
 q_SHAPES_clash:∀ H,SqT K H A.v_SHAPES_clash [.str "mark",.str "version"]
 g_LEAST:mg "LEAST" = some (.ref A.LEAST)
 y_LEAST:(A.LEAST == sysModules)=false
 t_LEAST:DcK w K A.LEAST [("beat",.int 1 A.v_LEAST_beat),("window",.int 1 A.v_LEAST_window),("clash",.int 1 A.v_LEAST_clash),("save",.int 0 A.v_LEAST_save),("count",.int 0 A.v_LEAST_count)]
 m_nd:W.mroIn K A.NoText (.ref A.DraftError)=some true
 kv:W.kitOne K (.ref A.NoText) (.type "ValueError")=some true
 kt:W.kitAny K (.ref A.NoText) [.ref A.NoBuilt,.ref A.NoPaper,.ref A.NoRow]=some false
 y_DEEDS:(A.DEEDS == sysModules)=false
 n_ValueError:mg "ValueError" = none
 n_abs:mg "abs" = none
 n_all:mg "all" = none
 n_enumerate:mg "enumerate" = none
 n_int:mg "int" = none
 n_isinstance:mg "isinstance" = none
 n_len:mg "len" = none
 n_list:mg "list" = none
 n_range:mg "range" = none
 n_str:mg "str" = none
 n_tuple:mg "tuple" = none
 n_zip:mg "zip" = none
noncomputable def hasS (z t:Str):Bool := !(Builtin.Str.occurrences t z 0 t.length 1).isEmpty
noncomputable def znt (z t:Str):Bool:=((List.range z.cps.size).map λ i=>hasS ⟨#[z.cps.toList.getD i 0]⟩ t).all id
theorem zsm (z:Str):znt z DIG=z.cps.toList.all znh:=by
 unfold znt hasS
 rw [Bool.eq_iff_iff,List.all_eq_true,List.all_eq_true]
 constructor
 ·intro h c hc
  obtain ⟨i,hi,e⟩:=List.getElem_of_mem hc
  have hs:i<z.cps.size:=by simpa using hi
  have:=h _ (List.mem_map.mpr ⟨i,List.mem_range.mpr hs,rfl⟩)
  simp only [id] at this
  rw [zrq] at this
  have e2:z.cps.toList.getD i 0=c:=by rw [List.getD_eq_getElem?_getD,List.getElem?_eq_getElem hi,e];rfl
  rw [e2] at this
  exact this
 ·intro h b hb
  obtain ⟨i,hi,e⟩:=List.mem_map.mp hb
  have hs:i<z.cps.toList.length:=by simpa using List.mem_range.mp hi
  rw [← e]
  simp only [id]
  rw [zrq]
  refine h _ ?_
  rw [List.getD_eq_getElem?_getD,List.getElem?_eq_getElem hs]
  exact List.getElem_mem hs
noncomputable def zqq:Sp:=zhh (λ (a:Str×Str) vs=>vs=[.str a.1,.str a.2]∧a.1.length≤1000) (λ a v=>v = .bl (znt a.1 a.2))
noncomputable def zqx (A:Adr):Sp:=λ vs H Q E=>Plain H∧∃ z:Str,vs=[.str z]∧z.length≤640∧(∀ n,ztd z.cps.toList=some n→Q (.int n) H)∧(ztd z.cps.toList=none→E (.ref A.NoText) none H)
theorem zzd {p:Prop} [Decidable p] {A B:Prop} (h:¬ p) (b:B):if decide p=true then A else B:=by rw [decide_eq_false h];exact iteF b
theorem zqi {p:Prop} [Decidable p] {A B:Prop} (h:p) (a:A):if decide p=true then A else B:=by rw [decide_eq_true h];exact iteT a
noncomputable def B40 (n:Int):Prop := -(10 ^ 40)<n∧n<10 ^ 40
noncomputable def B30 (n:Int):Prop := -(10 ^ 30)<n∧n<10 ^ 30
noncomputable def dots (ns:List Int):Str:=Txt.join "." (ns.map λ n=>Str.ofString (toString n))
noncomputable def dotL (z:Str) (m:Int):Option (List Int):=if ((Txt.split z ".").length:Int)=m then zib (λ p:Str=>ztd p.cps.toList) (Txt.split z ".") else none
noncomputable def zwb (z:Str) (k:Int):Option Int:=match ztd z.cps.toList with
 | some n=>if n<k then none else some n
 | none=>none
noncomputable def zuy (A:Adr):Sp:=zlc (λ (a:Str×Int) vs _=>vs=[.str a.1,.int a.2]∧a.1.length≤640)
 (λ a v H=>∃ l ns,v = .ref l∧H l=some (.lst (ns.map V.int))∧dotL a.1 a.2=some ns) (λ a C=>C=A.NoText∧dotL a.1 a.2=none)
noncomputable def zyy (A:Adr):Sp:=zlc (λ (a:Int×Int) vs _=>vs=[.int a.1,.int a.2]) (λ a v _=>¬ (a.1<0 ∨ a.2<1)∧v = .non) (λ a C=>C=A.NoText∧(a.1<0 ∨ a.2<1))
theorem zmh {α:Type} {f:α→Str} {k:Nat}:∀ {xs:List α},(∀ x∈xs,(f x).length≤k)→((xs.map f).map (·.length)).sum≤xs.length * k:=by
 intro xs
 induction xs with
 | nil=>intro _;exact Nat.zero_le _
 | cons x xs ih =>
  intro h
  have h1:=h x List.mem_cons_self
  have h2:=ih λ y hy=>h y (List.mem_cons_of_mem _ hy)
  simp only [List.map_cons,List.sum_cons,List.length_cons,Nat.succ_mul]
  omega
theorem zgc {α β:Type} {f:α→Option β}:∀ {xs:List α} {ys:List β},zib f xs=some ys→ys.length=xs.length:=by
 intro xs
 induction xs with
 | nil=>intro ys e;cases e;rfl
 | cons a xs ih =>
  intro ys e
  unfold zib at e
  cases h1:f a with
  | none=>rw [h1] at e;cases e
  | some y =>
   rw [h1] at e
   cases h2:zib f xs with
   | none=>rw [h2] at e;cases e
   | some zs=>rw [h2] at e;cases e;simp [ih h2]
noncomputable def S40 (s:Stp):Prop:=B40 s.1∧B40 s.2.1∧B40 s.2.2
noncomputable def S30 (s:Stp):Prop:=B30 s.1∧B30 s.2.1∧B30 s.2.2
noncomputable def sL (s:Stp):List Int:=[s.1,s.2.1,s.2.2]
noncomputable def zyc (ss:List Stp):Str:=Txt.join "/" (ss.map λ s=>dots (sL s))
noncomputable def zlh (z:Str):Option Stp:=match dotL z 3 with
 | some [r,w,c]=>if w<0 ∨ c<1 then none else some (r,w,c)
 | _=>none
noncomputable def zyf (z:Str):Option (List Stp):=zib zlh (Txt.split z "/")
noncomputable def zxy (A:Adr):Sp:=zlc (λ (z:Str) vs _=>vs=[.str z]∧z.length≤640) (λ z v H=>∃ t s,v = .ref t∧H t=some (.tup (sV s))∧zlh z=some s) (λ z C=>C=A.NoText∧zlh z=none)
noncomputable def zaz (K:W.Frag) (A:Adr):Sp:=zlc (λ (z:Str) vs _=>vs=[.str z]∧z.length≤640) (λ z v H=>∃ ss,DV K H (plc ss) v∧zyf z=some ss) (λ z C=>C=A.NoText∧zyf z=none)
theorem zvn {P:Int→Prop} {s:Stp} (h:P s.1∧P s.2.1∧P s.2.2):∀ n∈sL s,P n:=by
 intro n hn
 unfold sL at hn
 simp only [List.mem_cons,List.not_mem_nil,or_false] at hn
 rcases hn with rfl | rfl | rfl
 ·exact h.1
 ·exact h.2.1
 ·exact h.2.2
theorem zjo {P:Int→Prop} {s:Stp} (h:∀ n∈sL s,P n):P s.1∧P s.2.1∧P s.2.2:=⟨h _ (by simp [sL]),h _ (by simp [sL]),h _ (by simp [sL])⟩
theorem zdj {s:Stp} (h:S40 s):(dots (sL s)).length≤125:=by
 have e:dots (sL s)=(((Str.ofString (toString s.1) ++ ".")++Str.ofString (toString s.2.1)) ++ ".")++Str.ofString (toString s.2.2):=rfl
 have l1:(Str.ofString ".").length=1:=rfl
 have h1:=zjl h.1.1 h.1.2
 have h2:=zjl h.2.1.1 h.2.1.2
 have h3:=zjl h.2.2.1 h.2.2.2
 rw [e,zla,zla,zla,zla,l1]
 omega
theorem len3 {α:Type} {l:List α} (h:l.length=3):∃ a b c,l=[a,b,c]:=by
 match l,h with
 | [a,b,c],_=>exact ⟨a,b,c,rfl⟩
theorem ztm {z:Str} {ns:List Int} (h:dotL z 3=some ns):∃ a b c,ns=[a,b,c]:=by
 unfold dotL at h
 split at h
 ·rename_i e
  have:=zgc h
  exact len3 (by omega)
 ·cases h
theorem zom (g:Array Nat):∀ (ps:List Str) (a:Array Nat),(ps.foldl (λ acc p=>acc++g++p.cps) a).size=a.size+(ps.map (·.length)).sum+ps.length * g.size:=by
 intro ps
 induction ps with
 | nil=>intro a;simp
 | cons p ps ih =>
  intro a
  rw [List.foldl_cons,ih]
  simp only [Array.size_append,List.map_cons,List.sum_cons,List.length_cons,Nat.succ_mul]
  have:p.length=p.cps.size:=rfl
  omega
theorem zvf (g:Str) (ps:List Str):(Txt.join g ps).length≤(ps.map (·.length)).sum+ps.length * g.length:=by
 show ((ps.drop 1).foldl (λ acc p=>acc++g.cps++p.cps) (ps.headD Str.empty).cps).size≤_
 rw [zom]
 cases ps with
 | nil=>simp [Str.empty]
 | cons p ps =>
  have e1:((p::ps).drop 1)=ps:=rfl
  have e2:((p::ps).headD Str.empty)=p:=rfl
  rw [e1,e2]
  simp only [List.map_cons,List.sum_cons,List.length_cons,Nat.succ_mul]
  have h1:p.length=p.cps.size:=rfl
  have h2:ps.length * g.length=ps.length * g.cps.size:=rfl
  have h3:g.length=g.cps.size:=rfl
  omega
noncomputable def zqg (z:Str):Option (Int×Int):=match dotL z 2 with
 | some [a,b]=>if a<0 ∨ b<1 then none else some (a,b)
 | _=>none
noncomputable def zex (A:Adr):Sp:=zlc (λ (z:Str) vs _=>vs=[.str z]∧z.length≤640) (λ z v H=>∃ t a b,v = .ref t∧H t=some (.tup [.int a,.int b])∧zqg z=some (a,b)) (λ z C=>C=A.NoText∧zqg z=none)
theorem znv {z:Str} {ns:List Int} (h:dotL z 2=some ns):∃ a b,ns=[a,b]:=by
 unfold dotL at h
 split at h
 ·rename_i e
  have:=zgc h
  match ns,(show ns.length=2 by omega) with
  | [a,b],_=>exact ⟨a,b,rfl⟩
 ·cases h
noncomputable def sp_law (K:W.Frag):Sp:=λ vs H Q _=>∃ (a:Addr) (ns:List Int),vs=[.ref a]∧SqL K H a (ns.map V.int)∧ns.length≤63∧(∀ H',Q (.bl true) H')∧Plain H
theorem zhj {K:W.Frag} {H:Hp} {t:Addr} (h:H t=some (.tup [])):DV K H (plc []) (.ref t):=⟨t,[],rfl,SqT.of h,rfl⟩
noncomputable def zyb (z:Str):Bool:=(!hasS "\n" z) && (!hasS "\t" z)
noncomputable def zju:Sp:=zhh (λ (z:Str) vs=>vs=[.str z]) (λ z v=>v = .bl (zyb z))
theorem zem (c:Nat) (z:Str):hasS ⟨#[c]⟩ z=decide (c∈z.cps.toList):=zer c z
theorem zxk (z:Str):zyb z=(!decide (10∈z.cps.toList) && !decide (9∈z.cps.toList)):=by
 unfold zyb
 rw [show (Str.ofString "\n")=⟨#[10]⟩ from rfl,show (Str.ofString "\t")=⟨#[9]⟩ from rfl,zem,zem]
noncomputable def zzq (b:Int) (r:Str):Option Ver:=match zyf (Txt.partition r " ").1 with
 | none=>none
 | some ss=>if (Txt.partition r " ").2.1 = "" ∨ zyb (Txt.partition r " ").2.2=false then none else some (b,ss,(Txt.partition r " ").2.2)
noncomputable def verL (z:Str):Option Ver:=match zwb (Txt.partition z " ").1 1 with
 | none=>none
 | some b=>if (Txt.partition z " ").2.2 = "-" then some (b,[], "") else zzq b (Txt.partition z " ").2.2
noncomputable def zps (K:W.Frag):Sp:=zlc (λ (b:Int) vs _=>vs=[.int b]) (λ b r H=>DV K H (ver (b,[], "")) r) (λ _ _=>False)
noncomputable def zey (K:W.Frag) (A:Adr):Sp:=zlc (λ (z:Str) vs _=>vs=[.str z]∧z.length≤640) (λ z r H=>∃ v,DV K H (ver v) r∧verL z=some v) (λ z C=>C=A.NoText∧verL z=none)
theorem zie {z:Str} (h:zwb (Txt.partition z " ").1 1=none):verL z=none:=by
 unfold verL
 rw [h]
theorem ztj {z:Str} {b:Int} (h:zwb (Txt.partition z " ").1 1=some b) (e:(Txt.partition z " ").2.2 = "-"):verL z=some ((b,[], ""):Ver):=by
 unfold verL
 rw [h]
 exact if_pos e
theorem zlm {z:Str} {b:Int} (h:zwb (Txt.partition z " ").1 1=some b) (e:¬ (Txt.partition z " ").2.2 = "-"):verL z=zzq b (Txt.partition z " ").2.2:=by
 unfold verL
 rw [h]
 exact if_neg e
theorem zfl:32∉(Str.ofString "-").cps.toList:=by decide
theorem at0 {x:V} {xs:List V}:atI (x::xs) 0=some x:=zaf (j:=0) rfl
theorem at1 {x y:V} {xs:List V}:atI (x::y::xs) 1=some y:=zaf (j:=1) rfl
theorem zzm:¬ ((⟨#[32]⟩:Str)=Str.ofString ""):=λ e=>by
 have:(1:Nat)=0:=congrArg Str.length e
 cases this
noncomputable def zbx (A:Adr):Sp:=zlc (λ (a:Int×Str) vs _=>vs=[.int a.1,.str a.2]∧a.2.length≤640) (λ a r _=>∃ n,r = .int n∧zwb a.2 a.1=some n) (λ a C=>C=A.NoText∧zwb a.2 a.1=none)
noncomputable def zjr:List Str:=["beat", "window", "save", "behind", "words", "mark", "many", "count", "clash", "choice", "version"]
noncomputable def zfc (k:Str):Int:=if k = "save" ∨ k = "count" then 0 else 1
noncomputable def zbb (k z:Str):Option PyData :=
 if k = "mark" then (zqg z).map markD
 else if k = "behind" then (if z = "-" then some .none else (zqg z).map markD)
 else if k = "version" then (verL z).map ver
 else if k = "words" then (if zyb z=true then some (.str z) else none)
 else if k = "choice" then (if z∈(["stay", "turn", "both"]:List Str) then some (.str z) else none)
 else if k = "many" then (ztd z.cps.toList).map PyData.int
 else (zwb z (zfc k)).map PyData.int
noncomputable def SHAPES:List (Str×List Str):=[("begin",["beat", "window", "save"]),("put",["beat", "behind", "words"]),("take",["beat", "mark"]),("move",["beat", "mark", "behind"]),("write",["beat", "mark", "words"]),("part",["beat", "mark", "many"]),("join",["beat", "mark"]),("carry",["beat", "mark", "mark", "behind"]),("undo",["beat"]),("again",["beat"]),("reload",["beat", "save"]),("save",["beat", "window", "count"]),("back",["beat", "save"]),("settle",["beat", "clash", "choice"]),("piece",["mark", "version"]),("clash",["mark", "version"])]
noncomputable def zua (w:Str):Option (List Str):=(SHAPES.find? λ p=>p.1=w).map (·.2)
noncomputable def rowL (z:Str):Option (Str×List PyData):=match zua (Txt.partition z " ").1 with
 | none=>none
 | some ks=>match cutK 32 (Txt.split z " ") ks.length with
  | []=>none
  | w::fs=>if fs.length=ks.length then (zib (λ p:Str×Str=>zbb p.1 p.2) (ks.zip fs)).map λ ds=>(w,ds) else none
noncomputable def zkx (A:Adr):Sp:=zlc (λ (z:Str) vs _=>vs=[.str z]) (λ z r _=>r = .str z∧zyb z=true) (λ z C=>C=A.NoText∧zyb z=false)
noncomputable def zcu (A:Adr):Sp:=zlc (λ (z:Str) vs _=>vs=[.str z]) (λ z r _=>r = .str z∧z∈(["stay", "turn", "both"]:List Str)) (λ z C=>C=A.NoText∧z∉(["stay", "turn", "both"]:List Str))
noncomputable def zov (K:W.Frag) (A:Adr):Sp:=zlc (λ (a:Str×Str) vs _=>vs=[.str a.1,.str a.2]∧a.2.length≤640∧a.1∈zjr) (λ a r H=>∃ d,DV K H d r∧zbb a.1 a.2=some d) (λ a C=>C=A.NoText∧zbb a.1 a.2=none)
noncomputable def zrs (K:W.Frag) (A:Adr):Sp:=zlc (λ (z:Str) vs _=>vs=[.str z]∧z.length≤640) (λ z r H=>∃ w ds,DV K H (.tuple [.str w,.tuple ds]) r∧rowL z=some (w,ds)) (λ z C=>C=A.NoText∧rowL z=none)
theorem zme (z:Str):∀ l:List Str,inV (.str z) (l.map V.str)=decide (z∈l)
 | []=>rfl
 | a::l=>by
  have ih:=zme z l
  unfold inV at ih ⊢
  rw [List.map_cons,List.any_cons,ih]
  show ((a == z) || decide (z∈l))=decide (z∈a::l)
  by_cases h:z=a
  ·subst h
   rw [beq_self_eq_true,Bool.true_or,decide_eq_true List.mem_cons_self]
  ·rw [beq_eq_false_iff_ne.mpr (Ne.symm h),Bool.false_or]
   exact decide_eq_decide.mpr ⟨List.mem_cons_of_mem _,λ x=>(List.mem_cons.mp x).resolve_left h⟩
theorem zul (z:Str):zbb "mark" z=(zqg z).map markD:=by unfold zbb;rw [if_pos rfl]
theorem zjg (z:Str):zbb "behind" z=(if z = "-" then some .none else (zqg z).map markD):=by
 unfold zbb
 rw [if_neg (show ¬ ("behind" : Str) = "mark" by decide),if_pos rfl]
theorem zff (z:Str):zbb "version" z=(verL z).map ver:=by
 unfold zbb
 rw [if_neg (show ¬ ("version" : Str) = "mark" by decide),if_neg (show ¬ ("version" : Str) = "behind" by decide),if_pos rfl]
theorem zzh (z:Str):zbb "words" z=(if zyb z=true then some (.str z) else none):=by
 unfold zbb
 rw [if_neg (show ¬ ("words" : Str) = "mark" by decide),if_neg (show ¬ ("words" : Str) = "behind" by decide),if_neg (show ¬ ("words" : Str) = "version" by decide),if_pos rfl]
theorem zng (z:Str):zbb "choice" z=(if z∈(["stay", "turn", "both"]:List Str) then some (.str z) else none):=by
 unfold zbb
 rw [if_neg (show ¬ ("choice" : Str) = "mark" by decide),if_neg (show ¬ ("choice" : Str) = "behind" by decide),if_neg (show ¬ ("choice" : Str) = "version" by decide),if_neg (show ¬ ("choice" : Str) = "words" by decide),if_pos rfl]
theorem zhm (z:Str):zbb "many" z=(ztd z.cps.toList).map PyData.int:=by
 unfold zbb
 rw [if_neg (show ¬ ("many" : Str) = "mark" by decide),if_neg (show ¬ ("many" : Str) = "behind" by decide),if_neg (show ¬ ("many" : Str) = "version" by decide),if_neg (show ¬ ("many" : Str) = "words" by decide),if_neg (show ¬ ("many" : Str) = "choice" by decide),if_pos rfl]
theorem zbj {k:Str} (h:k∈(["beat", "window", "clash", "save", "count"]:List Str)) (z:Str):zbb k z=(zwb z (zfc k)).map PyData.int:=by
 have hn:∀ x∈(["beat", "window", "clash", "save", "count"]:List Str),¬ x = "mark" ∧ ¬ x = "behind" ∧ ¬ x = "version" ∧ ¬ x = "words" ∧ ¬ x = "choice" ∧ ¬ x = "many" := by decide
 obtain ⟨h1,h2,h3,h4,h5,h6⟩:=hn k h
 unfold zbb
 rw [if_neg h1,if_neg h2,if_neg h3,if_neg h4,if_neg h5,if_neg h6]
theorem zfr {α:Type} {K:W.Frag} {H:Hp} {f:α→Option PyData}:∀ {xs:List α} {ys:List V},ys.length=xs.length→(∀ (i:Nat) y,ys[i]? = some y→∃ x d,xs[i]? = some x∧f x=some d∧DV K H d y)→∃ ds,zib f xs=some ds∧DVs K H ds ys:=by
 intro xs
 induction xs with
 | nil =>
  intro ys hl _
  cases ys with
  | nil=>exact ⟨[],rfl,rfl⟩
  | cons _ _=>simp at hl
 | cons x xs ih =>
  intro ys hl h
  cases ys with
  | nil=>simp at hl
  | cons y ys =>
   obtain ⟨x',d,e1,e2,e3⟩:=h 0 y rfl
   cases (show some x=some x' from e1)
   obtain ⟨ds,h1,h2⟩:=ih (ys:=ys) (by simpa using hl) λ i z hz=>h (i+1) z hz
   refine ⟨d::ds,?_,y,ys,rfl,e3,h2⟩
   unfold zib
   rw [e2,h1]
theorem zku {k z:Str} {d:PyData} (h:zbb k z=some d):noL d=true:=by
 unfold zbb at h
 split at h
 ·obtain ⟨m,_,rfl⟩:=Option.map_eq_some_iff.mp h;rfl
 split at h
 ·split at h
  ·cases h;rfl
  ·obtain ⟨m,_,rfl⟩:=Option.map_eq_some_iff.mp h;rfl
 split at h
 ·obtain ⟨m,_,rfl⟩:=Option.map_eq_some_iff.mp h;exact zcr m
 split at h
 ·split at h
  ·cases h;rfl
  ·cases h
 split at h
 ·split at h
  ·cases h;rfl
  ·cases h
 split at h
 ·obtain ⟨m,_,rfl⟩:=Option.map_eq_some_iff.mp h;rfl
 ·obtain ⟨m,_,rfl⟩:=Option.map_eq_some_iff.mp h;rfl
theorem zdg {K:W.Frag} {H:Hp}:∀ {kvs:List (Str×Value)} {shs:List (Str×List Str)},Paired (λ (kv:Str×Value) (sh:Str×List Str)=>kv.1=sh.1∧∃ a,kv.2 = .ref a∧SqT K H a (sh.2.map V.str)) kvs shs→∀ k:Str,(valueAt kvs k=none∧(shs.find? λ p=>p.1=k)=none) ∨ ∃ a p,valueAt kvs k=some (.ref a)∧(shs.find? λ p=>p.1=k)=some p∧SqT K H a (p.2.map V.str)
 | _,_,.nil,k=>.inl ⟨rfl,rfl⟩
 | kv::kvs,sh::shs,.cons r rr,k=>by
  unfold valueAt
  rw [List.find?_cons,List.find?_cons,r.1]
  by_cases h:sh.1=k
  ·rw [decide_eq_true h]
   obtain ⟨a,e,hq⟩:=r.2
   exact .inr ⟨a,sh,by rw [← e];rfl,rfl,hq⟩
  ·rw [decide_eq_false h]
   exact zdg rr k
theorem zne:∀ p∈SHAPES,(1≤p.2.length∧p.2.length≤4)∧∀ x∈p.2,x∈zjr:=by decide +kernel
noncomputable abbrev KVS (A:Adr):List (Str×Value):=[("begin",Value.ref A.v_SHAPES_begin),("put",Value.ref A.v_SHAPES_put),("take",Value.ref A.v_SHAPES_take),("move",Value.ref A.v_SHAPES_move),("write",Value.ref A.v_SHAPES_write),("part",Value.ref A.v_SHAPES_part),("join",Value.ref A.v_SHAPES_join),("carry",Value.ref A.v_SHAPES_carry),("undo",Value.ref A.v_SHAPES_undo),("again",Value.ref A.v_SHAPES_again),("reload",Value.ref A.v_SHAPES_reload),("save",Value.ref A.v_SHAPES_save),("back",Value.ref A.v_SHAPES_back),("settle",Value.ref A.v_SHAPES_settle),("piece",Value.ref A.v_SHAPES_piece),("clash",Value.ref A.v_SHAPES_clash)]
theorem zji {w:World} {K:W.Frag} {mg:Str→Option Value} {A:Adr} (T:Txt w K mg A) (H:Hp) (k:Str):(valueAt (KVS A) k=none∧zua k=none) ∨
  ∃ a ks,valueAt (KVS A) k=some (.ref a)∧zua k=some ks∧SqT K H a (ks.map V.str)∧(1≤ks.length∧ks.length≤4)∧∀ x∈ks,x∈zjr:=by
 have pr:Paired (λ (kv:Str×Value) (sh:Str×List Str)=>kv.1=sh.1∧∃ a,kv.2 = .ref a∧SqT K H a (sh.2.map V.str)) (KVS A) SHAPES:=(.cons ⟨rfl,_,rfl,T.q_SHAPES_begin H⟩ (.cons ⟨rfl,_,rfl,T.q_SHAPES_put H⟩ (.cons ⟨rfl,_,rfl,T.q_SHAPES_take H⟩ (.cons ⟨rfl,_,rfl,T.q_SHAPES_move H⟩ (.cons ⟨rfl,_,rfl,T.q_SHAPES_write H⟩ (.cons ⟨rfl,_,rfl,T.q_SHAPES_part H⟩ (.cons ⟨rfl,_,rfl,T.q_SHAPES_join H⟩ (.cons ⟨rfl,_,rfl,T.q_SHAPES_carry H⟩ (.cons ⟨rfl,_,rfl,T.q_SHAPES_undo H⟩ (.cons ⟨rfl,_,rfl,T.q_SHAPES_again H⟩ (.cons ⟨rfl,_,rfl,T.q_SHAPES_reload H⟩ (.cons ⟨rfl,_,rfl,T.q_SHAPES_save H⟩ (.cons ⟨rfl,_,rfl,T.q_SHAPES_back H⟩ (.cons ⟨rfl,_,rfl,T.q_SHAPES_settle H⟩ (.cons ⟨rfl,_,rfl,T.q_SHAPES_piece H⟩ (.cons ⟨rfl,_,rfl,T.q_SHAPES_clash H⟩ .nil))))))))))))))))
 unfold zua
 rcases zdg pr k with ⟨h1,h2⟩ | ⟨a,p,h1,h2,h3⟩
 ·exact .inl ⟨h1,by rw [h2];rfl⟩
 ·have hm:=zne p (List.mem_of_find?_eq_some h2)
  exact .inr ⟨a,p.2,h1,by rw [h2];rfl,h3,hm.1,hm.2⟩
theorem zaq (z:Str) (n:Nat):∃ w fs,cutK 32 (Txt.split z " ") n=w::fs:=by
 have hne:Txt.split z " " ≠ []:=zcc z 32
 unfold cutK
 split
 ·cases e:Txt.split z " " with
  | nil=>exact absurd e hne
  | cons a l=>exact ⟨a,l,rfl⟩
 ·cases e:(Txt.split z " ").take n with
  | nil=>exact ⟨_,[],rfl⟩
  | cons a l=>exact ⟨a,_,rfl⟩
theorem zce {z p:Str} (h:p∈Txt.split z " "):p.length≤z.length:=part_short h
theorem zrc (g:Str):∀ (ps:List Str) (n:Nat),(Str.join g (ps.drop n)).length≤(Str.join g ps).length
 | ps,0=>by rw [List.drop_zero];exact Nat.le_refl _
 | [],n+1=>by rw [List.drop_nil];exact Nat.le_refl _
 | [q],n+1=>by rw [List.drop_succ_cons,List.drop_nil];exact Nat.zero_le _
 | q::q2::r,n+1=>by
  have h:=zrc g (q2::r) n
  rw [List.drop_succ_cons]
  show _≤((q++g)++Str.join g (q2::r)).length
  rw [zla]
  omega
theorem zbi (z:Str) (n:Nat):(Str.join ⟨#[32]⟩ ((Txt.split z " ").drop n)).length≤z.length:=by
 have h:=zrc ⟨#[32]⟩ (Txt.split z " ") n
 have e:Str.join ⟨#[32]⟩ (Txt.split z " ")=z:=StrLaws.join_split z ⟨#[32]⟩
 rw [e] at h
 exact h
theorem zlj {z p:Str} {n:Nat} (h:p∈cutK 32 (Txt.split z " ") n):p.length≤z.length:=by
 unfold cutK at h
 split at h
 ·exact zce h
 ·rcases List.mem_append.mp h with h | h
  ·exact zce (List.mem_of_mem_take h)
  ·rw [List.mem_singleton.mp h]
   exact zbi z n
noncomputable abbrev Row:=Str×List PyData
noncomputable def rowD (r:Row):PyData := .tuple [.str r.1,.tuple r.2]
theorem zxg {z w:Str} {ds:List PyData} (h:rowL z=some (w,ds)):∃ ks fs,zua (Txt.partition z " ").1=some ks∧cutK 32 (Txt.split z " ") ks.length=w::fs∧fs.length=ks.length∧zib (λ p:Str×Str=>zbb p.1 p.2) (ks.zip fs)=some ds:=by
 unfold rowL at h
 split at h
 ·cases h
 ·rename_i ks hks
  split at h
  ·cases h
  ·rename_i w' fs hc
   split at h
   ·rename_i hl
    obtain ⟨ds',h1,h2⟩:=Option.map_eq_some_iff.mp h
    cases h2
    exact ⟨ks,fs,hks,hc,hl,h1⟩
   ·cases h
theorem zxc {w:Str} {ks:List Str} (h:zua w=some ks):(1≤ks.length∧ks.length≤4)∧∀ x∈ks,x∈zjr:=by
 unfold zua at h
 obtain ⟨p,h1,rfl⟩:=Option.map_eq_some_iff.mp h
 exact zne p (List.mem_of_find?_eq_some h1)
theorem zup {z:Str} {r:Row} (h:rowL z=some r):r.2.length≤4:=by
 obtain ⟨w,ds⟩:=r
 obtain ⟨ks,fs,h1,_,hl,ho⟩:=zxg h
 have h4:=(zxc h1).1.2
 have:=zgc ho
 rw [List.length_zip] at this
 show ds.length≤4
 omega
noncomputable instance:Inhabited Row:=⟨("",[])⟩
theorem zjq {K:W.Frag} {H:Hp} {r:Row} {y:V} (h:DV K H (rowD r) y):∃ t x,y = .ref t∧SqT K H t [.str r.1,x]∧DV K H (.tuple r.2) x:=by
 obtain ⟨t,vs,rfl,hq,v,vr,rfl,hv,x,xr,rfl,hx,e⟩:=h
 cases e
 have hv:v = .str r.1:=hv
 subst hv
 exact ⟨t,x,rfl,hq,hx⟩
noncomputable def okN (n:Nat) (z:Str):Prop:=z.length≤n∧PyData.strOk z=true
noncomputable def ztx:Sp:=zhh (λ (a:Int×Int) vs=>vs=[.int a.1,.int a.2]∧0≤a.2∧a.2≤100) (λ _ v=>∃ n:Int,v = .int n)
theorem zbv {zs:List Str} {m n:Nat} {k:Int} (hz:∀ z∈zs,okN n z) (h0:0≤k) (h1:k<m) (hm:m≤zs.length):∃ z,atI (zs.map V.str) k=some (.str z)∧okN n z∧z∈zs:=by
 obtain ⟨v,hv,hmem⟩:=zim (xs:=zs.map V.str) (i:=k) h0 (by rw [List.length_map];omega)
 obtain ⟨z,hzm,rfl⟩:=List.mem_map.mp hmem
 exact ⟨z,hv,hz z hzm,hzm⟩
theorem zgq {n:Nat} {zs:List Str} (h:(zs.all λ z=>decide (z.length≤n) && PyData.strOk z)=true):∀ z∈zs,okN n z:=λ z hz=>by
 have:=List.all_eq_true.mp h z hz
 rw [Bool.and_eq_true] at this
 exact ⟨of_decide_eq_true this.1,this.2⟩
theorem zrk {z w:Str} {l:List Str} (h:Txt.split z " " = w::l):(Txt.partition z " ").1=w:=by
 rcases zse z 32 with ⟨hp,hs⟩ | ⟨a,r,hp,hs,_,_⟩
 ·have hp:Txt.partition z " " = (z,Str.empty,Str.empty):=hp
  have hs:Txt.split z " " = [z]:=hs
  rw [hs] at h
  cases h
  rw [hp]
 ·have hp:Txt.partition z " " = (a,⟨#[32]⟩,r):=hp
  have hs:Txt.split z " " = a::Txt.split r " " := hs
  rw [hs] at h
  cases h
  rw [hp]
theorem zfn (ps:List Str):Txt.join " " ps=Str.join ⟨#[32]⟩ ps:=StrLaws.glued_eq_join _ _
noncomputable abbrev DDS:List Str:=["put", "take", "move", "write", "part", "join", "carry"]
noncomputable abbrev NTS:List Str:=["begin", "undo", "again", "reload"]
noncomputable def ztp (r:Row):Option PyData:=if r.1∈DDS then some (.tuple [.str "deed",r.2.headD .none,.tuple (.str r.1::r.2.tail)]) else if r.1∈NTS then some (.tuple (.str r.1::r.2)) else none
noncomputable def zcj (z:Str):Option PyData:=(rowL z).bind ztp
noncomputable def zaw (K:W.Frag) (A:Adr):Sp:=zlc (λ (z:Str) vs _=>vs=[.str z]∧z.length≤640) (λ z r H=>∃ d,DV K H d r∧zcj z=some d) (λ z C=>C=A.NoText∧zcj z=none)
theorem zhy {α β:Type} {ok G:α→β→Prop} {C:Prop} (h1:(∀ y z,ok y z→G y z)→C) (h2:∀ y z,ok y z→G y z):C:=h1 h2
theorem zqd (k:Str):∀ kvs:List (Str×Value),(valueAt kvs k).isSome=decide (k∈kvs.map (·.1))
 | []=>rfl
 | kv::kvs=>by
  have ih:=zqd k kvs
  unfold valueAt at ih ⊢
  rw [List.find?_cons,List.map_cons]
  by_cases h:kv.1=k
  ·rw [decide_eq_true h,decide_eq_true (by rw [h];exact List.mem_cons_self)]
   rfl
  ·rw [decide_eq_false h]
   dsimp only
   rw [ih]
   exact decide_eq_decide.mpr ⟨List.mem_cons_of_mem _,λ x=>(List.mem_cons.mp x).resolve_left (Ne.symm h)⟩
theorem zzn {z w:Str} {ds:List PyData} (h:rowL z=some (w,ds)):1≤ds.length:=by
 obtain ⟨ks,fs,h1,_,hl,ho⟩:=zxg h
 have h4:=(zxc h1).1.1
 have:=zgc ho
 rw [List.length_zip] at this
 omega
noncomputable def zqp (d:PyData):Prop:=d = .none ∨ (∃ n,d = .int n) ∨ (∃ m,d=L2.markD m) ∨ ∃ s,d = .str s∧PyData.strOk s=true
theorem zke:∀ {ds:List PyData},(∀ d∈ds,zqp d)→PyData.canLayAll0 ds=true∧PyData.depthAll ds≤1
 | [],_=>⟨rfl,Nat.zero_le _⟩
 | d::ds,h=>by
  obtain ⟨h1,h2⟩:=zke λ x hx=>h x (List.mem_cons_of_mem _ hx)
  rw [PyData.canLayAll0,PyData.depthAll,h1]
  rcases h d List.mem_cons_self with rfl | ⟨n,rfl⟩ | ⟨m,rfl⟩ | ⟨s,rfl,hs⟩
  ·exact ⟨rfl,by show max 0 _≤1;omega⟩
  ·exact ⟨rfl,by show max 0 _≤1;omega⟩
  ·exact ⟨rfl,by show max 1 _≤1;omega⟩
  ·exact ⟨by rw [Bool.and_true];exact hs,by show max 0 _≤1;omega⟩
theorem zch {w:Str} {ds:List PyData} (hw:PyData.strOk w=true) (h:∀ d∈ds,zqp d):SeqAt.shaped (.tuple (.str w::ds))=true:=by
 obtain ⟨a1,a2⟩:=zke h
 unfold SeqAt.shaped
 rw [show PyData.canLay0 (.tuple (.str w::ds))=true by show (PyData.strOk w && PyData.canLayAll0 ds)=true;rw [hw,a1];rfl,Bool.true_and]
 refine decide_eq_true ?_
 show max 0 (PyData.depthAll ds)+1≤64
 omega
theorem zoh {w:Str} {d0:PyData} {ds:List PyData} (hw:PyData.strOk w=true) (h:∀ d∈d0::ds,zqp d):SeqAt.shaped (.tuple [.str "deed",d0,.tuple (.str w::ds)])=true:=by
 obtain ⟨a1,a2⟩:=zke h
 rw [PyData.canLayAll0,Bool.and_eq_true] at a1
 rw [PyData.depthAll] at a2
 unfold SeqAt.shaped
 rw [show PyData.canLay0 (.tuple [.str "deed",d0,.tuple (.str w::ds)])=true by
  show (PyData.strOk "deed" && (PyData.canLay0 d0 && ((PyData.strOk w && PyData.canLayAll0 ds) && true)))=true
  rw [hw,a1.1,a1.2,zss]
  rfl,Bool.true_and]
 refine decide_eq_true ?_
 show max 0 (max (PyData.depth d0) (max (max 0 (PyData.depthAll ds)+1) 0))+1≤64
 omega
noncomputable def zrx (A:Adr):Sp:=λ vs H Q E=>Plain H∧∃ n:Int,vs=[.int n] ∧ -(10 ^ 40)<n∧n<10 ^ 40∧(-(10 ^ 30)<n→n<10 ^ 30→Q (.str (toString n)) H)∧(¬ (-(10 ^ 30)<n∧n<10 ^ 30)→E (.ref A.NoText) none H)
noncomputable def zqw (K:W.Frag) (A:Adr):Sp:=zlc (λ (a:Addr×List Int) vs H=>vs=[.ref a.1]∧SqT K H a.1 (a.2.map V.int)∧a.2.length≤10∧∀ n∈a.2,B40 n)
 (λ a v _=>(∀ n∈a.2,B30 n)∧v = .str (dots a.2)) (λ a C=>C=A.NoText∧∃ n∈a.2,¬ B30 n)
noncomputable def zax (K:W.Frag) (A:Adr):Sp:=zlc (λ (a:Addr×List Stp) vs H=>vs=[.ref a.1]∧DV K H (plc a.2) (.ref a.1)∧a.2.length≤10∧∀ s∈a.2,S40 s)
 (λ a v _=>(∀ s∈a.2,S30 s)∧v = .str (zyc a.2)) (λ a C=>C=A.NoText∧∃ s∈a.2,¬ S30 s)
noncomputable def zyw (K:W.Frag):Sp:=zlc (λ (v:Ver) vs H=>∃ x,vs=[x]∧DV K H (ver v) x) (λ v r _=>r = .bl (!decide (v.2.1=[]))) (λ _ _=>False)
noncomputable def zzb (v:Ver):Str:=if v.2.1=[] then Str.ofString (toString v.1) ++ " -" else (((Str.ofString (toString v.1) ++ " ")++zyc v.2.1) ++ " ")++v.2.2
noncomputable def G40 (v:Ver):Prop:=B40 v.1∧v.2.1.length≤6∧(∀ s∈v.2.1,S40 s)∧v.2.2.length≤20
noncomputable def zmy (K:W.Frag) (A:Adr):Sp:=zlc (λ (v:Ver) vs H=>∃ x,vs=[x]∧DV K H (ver v) x∧G40 v) (λ v r _=>(B30 v.1∧∀ s∈v.2.1,S30 s)∧r = .str (zzb v)) (λ v C=>C=A.NoText∧¬ (B30 v.1∧∀ s∈v.2.1,S30 s))
noncomputable abbrev numT (n:Int):Str:=Str.ofString (toString n)
theorem znm:∀ m:Nat,0<m→∀ c r,Nat.toDigits 10 m=c::r→c ≠ '0':=λ m=>by
 induction m using Nat.strongRecOn with
 | _ m ih =>
  intro h0 c r e
  by_cases h:m<10
  ·rw [Nat.toDigits_of_lt_base h] at e
   cases e
   have al:∀ d:Nat,d<10→0<d→Nat.digitChar d ≠ '0':=by decide
   exact al m h h0
  ·have hm:m % 10<10:=Nat.mod_lt m (by decide)
   have t:Nat.toDigits 10 (m / 10)++Nat.toDigits 10 (m % 10)=Nat.toDigits 10 (10 * (m / 10)+m % 10):=Nat.toDigits_append_toDigits (by decide) (by omega) hm
   rw [Nat.div_add_mod] at t
   cases ed:Nat.toDigits 10 (m / 10) with
   | nil=>exact absurd ed Nat.toDigits_ne_nil
   | cons a b =>
    rw [ed,List.cons_append,e] at t
    have:=ih (m / 10) (by omega) (by omega) a b ed
    rw [(List.cons.inj t).1] at this
    exact this
theorem zbg (m:Nat):((Nat.toDigits 10 m).map Char.toNat).all znh=true:=by
 rw [List.all_eq_true]
 intro c hc
 obtain ⟨ch,hch,e⟩:=List.mem_map.mp hc
 have r:=digit_range (Nat.isDigit_of_mem_toDigits (by decide) (by decide) hch)
 rw [← e]
 unfold znh
 rw [decide_eq_true r.1,decide_eq_true r.2]
 rfl
theorem zwg {m:Nat} (h:0<m):¬ ((Nat.toDigits 10 m).map Char.toNat).head? = some 48:=λ e=>by
 cases ed:Nat.toDigits 10 m with
 | nil=>exact Nat.toDigits_ne_nil ed
 | cons a b =>
  rw [ed] at e
  have e:a.toNat=48:=Option.some.inj e
  have:=znm m h a b ed
  exact this (Char.toNat_inj.mp (by rw [e];rfl))
theorem zhe (m:Nat):((Nat.toDigits 10 m).map Char.toNat).length≤30↔m<10 ^ 30:=by
 rw [List.length_map]
 exact Nat.length_toDigits_le_iff (by decide) (by decide)
theorem zii (m:Nat):0<((Nat.toDigits 10 m).map Char.toNat).length:=by
 rw [List.length_map]
 exact Nat.length_toDigits_pos
theorem zyk (m:Nat):(numT (Int.negSucc m)).cps.toList=45::(Nat.toDigits 10 (m+1)).map Char.toNat:=by
 rw [signs_ofString]
 show ("-" ++ Nat.repr (m+1)).toList.map Char.toNat=_
 rw [String.toList_append,Nat.toList_repr]
 rfl
theorem znf (n:Int):(B30 n∧ztd (numT n).cps.toList=some n) ∨ (¬ B30 n∧ztd (numT n).cps.toList=none):=by
 cases n with
 | ofNat m =>
  have e:(numT (Int.ofNat m)).cps.toList=(Nat.toDigits 10 m).map Char.toNat:=W.KIN.signs_num m
  rw [e]
  have h45:¬ ((Nat.toDigits 10 m).map Char.toNat).head? = some 45:=λ x=>by
   have:=List.all_eq_true.mp (zbg m) 45 (List.mem_of_head? x)
   exact absurd this (by decide)
  unfold ztd
  rw [if_neg h45]
  by_cases hl:m<10 ^ 30
  ·refine .inl ⟨by unfold B30;show -(10 ^ 30)<(m:Int)∧(m:Int)<10 ^ 30;omega,?_⟩
   have h1:=(zhe m).mpr hl
   have h2:=zii m
   rw [if_neg]
   ·rw [W.KIN.val_back]
    rfl
   ·rintro (x | x | x | ⟨x,y⟩)
    ·omega
    ·omega
    ·rw [zbg] at x;cases x
    ·by_cases h0:0<m
     ·exact zwg h0 x
     ·have:m=0:=by omega
      subst this
      exact absurd y (by decide)
  ·refine .inr ⟨λ x=>hl (by unfold B30 at x;have x : -(10 ^ 30)<(m:Int)∧(m:Int)<10 ^ 30:=x;omega),?_⟩
   have h1:¬ ((Nat.toDigits 10 m).map Char.toNat).length≤30:=λ x=>hl ((zhe m).mp x)
   exact if_pos (.inr (.inl (by omega)))
 | negSucc m =>
  rw [zyk]
  unfold ztd
  rw [if_pos (show (45::(Nat.toDigits 10 (m+1)).map Char.toNat).head? = some 45 from rfl)]
  show (_∧(if ((Nat.toDigits 10 (m+1)).map Char.toNat).length<1 ∨ 30<((Nat.toDigits 10 (m+1)).map Char.toNat).length ∨ ((Nat.toDigits 10 (m+1)).map Char.toNat).all znh=false ∨ ((Nat.toDigits 10 (m+1)).map Char.toNat).head? = some 48 then none else some (-((digitsVal ((Nat.toDigits 10 (m+1)).map Char.toNat):Nat):Int)))=_) ∨ (_∧(if ((Nat.toDigits 10 (m+1)).map Char.toNat).length<1 ∨ 30<((Nat.toDigits 10 (m+1)).map Char.toNat).length ∨ ((Nat.toDigits 10 (m+1)).map Char.toNat).all znh=false ∨ ((Nat.toDigits 10 (m+1)).map Char.toNat).head? = some 48 then none else some (-((digitsVal ((Nat.toDigits 10 (m+1)).map Char.toNat):Nat):Int)))=_)
  by_cases hl:m+1<10 ^ 30
  ·refine .inl ⟨by unfold B30;omega,?_⟩
   have h1:=(zhe (m+1)).mpr hl
   have h2:=zii (m+1)
   rw [if_neg]
   ·rw [W.KIN.val_back]
    congr 1
   ·rintro (x | x | x | x)
    ·omega
    ·omega
    ·rw [zbg] at x;cases x
    ·exact zwg (Nat.succ_pos m) x
  ·refine .inr ⟨λ x=>hl (by unfold B30 at x;omega),?_⟩
   have h1:¬ ((Nat.toDigits 10 (m+1)).map Char.toNat).length≤30:=λ x=>hl ((zhe (m+1)).mp x)
   exact if_pos (.inr (.inl (by omega)))
theorem zhd {n k:Int} (h:k≤n):(B30 n∧zwb (numT n) k=some n) ∨ (¬ B30 n∧zwb (numT n) k=none):=by
 unfold zwb
 rcases znf n with ⟨h1,h2⟩ | ⟨h1,h2⟩
 ·rw [h2]
  exact .inl ⟨h1,if_neg (by omega)⟩
 ·rw [h2]
  exact .inr ⟨h1,rfl⟩
theorem zje (n:Int) (k:Nat) (hk:k≠45∧(k<48 ∨ 57<k)):k∉(numT n).cps.toList:=int_text_free' k hk n
theorem zbf {c:Nat} {ps:List Str} (h0:ps≠[]) (h:∀ p∈ps,c∉p.cps.toList):Txt.split (Txt.join ⟨#[c]⟩ ps) ⟨#[c]⟩=ps :=
 zvb _ _ (zcc _ c) h0 (StrLaws.split_free _ c) h (by rw [StrLaws.join_split];exact StrLaws.glued_eq_join _ _)
theorem zwd:∀ ns:List Int,((∀ n∈ns,B30 n)∧zib (λ p:Str=>ztd p.cps.toList) (ns.map λ n=>numT n)=some ns) ∨ (¬ (∀ n∈ns,B30 n)∧zib (λ p:Str=>ztd p.cps.toList) (ns.map λ n=>numT n)=none)
 | []=>.inl ⟨λ _ h=>(nomatch h),rfl⟩
 | n::ns=>by
  rw [List.map_cons]
  unfold zib
  rcases znf n with ⟨h1,h2⟩ | ⟨h1,h2⟩
  ·rw [h2]
   rcases zwd ns with ⟨g1,g2⟩ | ⟨g1,g2⟩
   ·rw [g2]
    exact .inl ⟨λ x hx=>(List.mem_cons.mp hx).elim (λ e=>e ▸ h1) (g1 x),rfl⟩
   ·rw [g2]
    exact .inr ⟨λ x=>g1 λ y hy=>x y (List.mem_cons_of_mem _ hy),rfl⟩
  ·rw [h2]
   exact .inr ⟨λ x=>h1 (x n List.mem_cons_self),rfl⟩
theorem zig {ns:List Int} (h0:ns≠[]) {k:Int} (hk:k=ns.length):((∀ n∈ns,B30 n)∧dotL (dots ns) k=some ns) ∨ (¬ (∀ n∈ns,B30 n)∧dotL (dots ns) k=none):=by
 have e:Txt.split (dots ns) "." = ns.map λ n=>numT n:=zbf (c:=46) (by simpa using h0) λ p hp=>by
  obtain ⟨n,_,rfl⟩:=List.mem_map.mp hp
  exact zje n 46 (by decide)
 unfold dotL
 rw [e,List.length_map,if_pos hk.symm]
 exact zwd ns
noncomputable abbrev mFit (m:Mark):Prop:=B30 m.1∧B30 m.2
theorem zre {m:Mark} (h:0≤m.1∧1≤m.2):(mFit m∧zqg (dots [m.1,m.2])=some m) ∨ (¬ mFit m∧zqg (dots [m.1,m.2])=none):=by
 unfold zqg
 rcases zig (ns:=[m.1,m.2]) (by simp) (k:=2) rfl with ⟨h1,h2⟩ | ⟨h1,h2⟩
 ·rw [h2]
  refine .inl ⟨⟨h1 _ (by simp),h1 _ (by simp)⟩,?_⟩
  show (if m.1<0 ∨ m.2<1 then none else some (m.1,m.2))=some m
  rw [if_neg (by omega)]
 ·rw [h2]
  exact .inr ⟨λ x=>h1 λ n hn=>by
   simp only [List.mem_cons,List.not_mem_nil,or_false] at hn
   rcases hn with rfl | rfl
   ·exact x.1
   ·exact x.2,rfl⟩
noncomputable abbrev zrr (s:Stp):Prop:=0≤s.2.1∧1≤s.2.2
theorem zni {s:Stp} (h:zrr s):(S30 s∧zlh (dots (sL s))=some s) ∨ (¬ S30 s∧zlh (dots (sL s))=none):=by
 unfold zlh
 rcases zig (ns:=sL s) (by simp [sL]) (k:=3) rfl with ⟨h1,h2⟩ | ⟨h1,h2⟩
 ·rw [h2]
  refine .inl ⟨zjo h1,?_⟩
  show (if s.2.1<0 ∨ s.2.2<1 then none else some (s.1,s.2.1,s.2.2))=some s
  rw [if_neg (by have:=h.1;have:=h.2;omega)]
 ·rw [h2]
  exact .inr ⟨λ x=>h1 (zvn x),rfl⟩
theorem zae (g:Str) (ps:List Str) (c:Nat) (h:c∈(Txt.join g ps).cps.toList):c∈g.cps.toList ∨ ∃ p∈ps,c∈p.cps.toList:=by
 rw [show Txt.join g ps=Str.join g ps from StrLaws.glued_eq_join _ _] at h
 exact zmd g ps c h
theorem zwc {ns:List Int} {c:Nat} (hc:c≠45∧c≠46∧(c<48 ∨ 57<c)):c∉(dots ns).cps.toList:=λ h=>by
 rcases zae _ _ c h with x | ⟨p,hp,x⟩
 ·have x:c∈([46]:List Nat):=x
  simp at x
  exact hc.2.1 x
 ·obtain ⟨n,_,rfl⟩:=List.mem_map.mp hp
  exact zje n c ⟨hc.1,hc.2.2⟩ x
theorem zcd:∀ {ss:List Stp},(∀ s∈ss,zrr s)→((∀ s∈ss,S30 s)∧zib zlh (ss.map λ s=>dots (sL s))=some ss) ∨ (¬ (∀ s∈ss,S30 s)∧zib zlh (ss.map λ s=>dots (sL s))=none)
 | [],_=>.inl ⟨λ _ h=>(nomatch h),rfl⟩
 | s::ss,h=>by
  rw [List.map_cons]
  unfold zib
  rcases zni (h s List.mem_cons_self) with ⟨h1,h2⟩ | ⟨h1,h2⟩
  ·rw [h2]
   rcases zcd (λ x hx=>h x (List.mem_cons_of_mem _ hx)) with ⟨g1,g2⟩ | ⟨g1,g2⟩
   ·rw [g2]
    exact .inl ⟨λ x hx=>(List.mem_cons.mp hx).elim (λ e=>e ▸ h1) (g1 x),rfl⟩
   ·rw [g2]
    exact .inr ⟨λ x=>g1 λ y hy=>x y (List.mem_cons_of_mem _ hy),rfl⟩
  ·rw [h2]
   exact .inr ⟨λ x=>h1 (x s List.mem_cons_self),rfl⟩
theorem zei {ss:List Stp} (h0:ss≠[]) (h:∀ s∈ss,zrr s):((∀ s∈ss,S30 s)∧zyf (zyc ss)=some ss) ∨ (¬ (∀ s∈ss,S30 s)∧zyf (zyc ss)=none):=by
 have e:Txt.split (zyc ss) "/" = ss.map λ s=>dots (sL s):=zbf (c:=47) (by simpa using h0) λ p hp=>by
  obtain ⟨s,_,rfl⟩:=List.mem_map.mp hp
  exact zwc (by decide)
 unfold zyf
 rw [e]
 exact zcd h
theorem zxi {ss:List Stp} {c:Nat} (hc:c≠45∧c≠46∧c≠47∧(c<48 ∨ 57<c)):c∉(zyc ss).cps.toList:=λ h=>by
 rcases zae _ _ c h with x | ⟨p,hp,x⟩
 ·have x:c∈([47]:List Nat):=x
  simp at x
  exact hc.2.2.1 x
 ·obtain ⟨s,_,rfl⟩:=List.mem_map.mp hp
  exact zwc ⟨hc.1,hc.2.1,hc.2.2.2⟩ x
theorem zuf {a r:Str} {c:Nat} (h:c∉a.cps.toList):Txt.partition (a++(⟨#[c]⟩:Str)++r) ⟨#[c]⟩=(a,⟨#[c]⟩,r):=by
 have hs:=zzc (r:=r) h
 rcases zse (a++(⟨#[c]⟩:Str)++r) c with ⟨_,h2⟩ | ⟨a',r',h1,h2,h3,h4⟩
 ·rw [hs] at h2
  exact absurd (List.cons.inj h2).2 (zcc r c)
 ·rw [hs] at h2
  obtain ⟨e1,e2⟩:=List.cons.inj h2
  subst e1
  have e3:r=r':=by
   have:=congrArg (Str.join ⟨#[c]⟩) e2
   rw [StrLaws.join_split,StrLaws.join_split] at this
   exact this
  subst e3
  exact h1
noncomputable abbrev vFit (v:Ver):Prop:=B30 v.1∧∀ s∈v.2.1,S30 s
structure vGood (v:Ver):Prop where
 b:1≤v.1
 s:∀ s∈v.2.1,zrr s
 w:zyb v.2.2=true
 o:v.2.1=[]→v.2.2 = ""
theorem ztb (a b c:Str):(a++b)++c=a++(b++c):=ext_toList (by rw [zsa,zsa,zsa,zsa,List.append_assoc])
theorem zbl {v:Ver} (h:vGood v):(vFit v∧verL (zzb v)=some v) ∨ (¬ vFit v∧verL (zzb v)=none):=by
 obtain ⟨b,ss,w⟩:=v
 obtain ⟨hb,hs,hw,ho⟩:=h
 dsimp only at hb hs hw ho
 have f32:32∉(numT b).cps.toList:=zje b 32 (by decide)
 by_cases h0:ss=[]
 ·subst h0
  have hw0:=ho rfl
  subst hw0
  have e:zzb (b,[], "")=numT b++(⟨#[32]⟩:Str)++(Str.ofString "-"):=by
   show numT b++(Str.ofString " -")=_
   rw [ztb]
   rfl
  have ep:Txt.partition (zzb (b,[], "")) " " = (numT b,⟨#[32]⟩,Str.ofString "-"):=by rw [e];exact zuf f32
  rcases zhd (k:=1) hb with ⟨h1,h2⟩ | ⟨h1,h2⟩
  ·refine .inl ⟨⟨h1,λ _ h=>(nomatch h)⟩,ztj (by rw [ep];exact h2) (by rw [ep])⟩
  ·refine .inr ⟨λ x=>h1 x.1,zie (by rw [ep];exact h2)⟩
 ·have e:zzb (b,ss,w)=numT b++(⟨#[32]⟩:Str)++(zyc ss++(⟨#[32]⟩:Str)++w):=by
   unfold zzb
   rw [if_neg h0]
   show (((numT b++(⟨#[32]⟩:Str))++zyc ss)++(⟨#[32]⟩:Str))++w=_
   rw [ztb,ztb,ztb,ztb,ztb]
  have ep:Txt.partition (zzb (b,ss,w)) " " = (numT b,⟨#[32]⟩,zyc ss++(⟨#[32]⟩:Str)++w):=by rw [e];exact zuf f32
  have hd:¬ (zyc ss++(⟨#[32]⟩:Str)++w)=Str.ofString "-" := λ x=>by
   have:32∈(zyc ss++(⟨#[32]⟩:Str)++w).cps.toList:=by
    rw [zsa,zsa]
    exact List.mem_append_left _ (List.mem_append_right _ List.mem_cons_self)
   rw [x] at this
   exact zfl this
  have ep2:Txt.partition (zyc ss++(⟨#[32]⟩:Str)++w) " " = (zyc ss,⟨#[32]⟩,w):=zuf (zxi (by decide))
  rcases zhd (k:=1) hb with ⟨h1,h2⟩ | ⟨h1,h2⟩
  ·have ev:verL (zzb (b,ss,w))=zzq b (zyc ss++(⟨#[32]⟩:Str)++w):=by rw [zlm (b:=b) (by rw [ep];exact h2) (by rw [ep];exact hd),ep]
   rw [ev]
   unfold zzq
   rw [ep2]
   dsimp only
   rcases zei h0 hs with ⟨g1,g2⟩ | ⟨g1,g2⟩
   ·rw [g2]
    refine .inl ⟨⟨h1,g1⟩,if_neg ?_⟩
    rintro (x | x)
    ·exact zzm x
    ·rw [hw] at x;cases x
   ·rw [g2]
    exact .inr ⟨λ x=>g1 x.2,rfl⟩
  ·exact .inr ⟨λ x=>h1 x.1,zie (by rw [ep];exact h2)⟩
inductive Fld
 | mk (m:Mark)
 | bh (o:Option Mark)
 | vr (v:Ver)
 | tx (z:Str)
 | nm (n:Int)
noncomputable def Fld.data:Fld→PyData
 | .mk m=>L2.markD m
 | .bh none=>.none
 | .bh (some m)=>L2.markD m
 | .vr v=>ver v
 | .tx z=>.str z
 | .nm n=>.int n
noncomputable def Fld.text:Fld→Str
 | .mk m=>dots [m.1,m.2]
 | .bh none => "-"
 | .bh (some m)=>dots [m.1,m.2]
 | .vr v=>zzb v
 | .tx z=>z
 | .nm n=>numT n
noncomputable def Fld.fits:Fld→Prop
 | .mk m=>mFit m
 | .bh none=>True
 | .bh (some m)=>mFit m
 | .vr v=>vFit v
 | .tx _=>True
 | .nm n=>B30 n
noncomputable abbrev NKN:List Str:=["beat", "window", "save", "many", "count", "clash"]
noncomputable def Fld.isK (k:Str):Fld→Prop
 | .mk _=>k = "mark"
 | .bh _=>k = "behind"
 | .vr _=>k = "version"
 | .tx _=>k = "words" ∨ k = "choice"
 | .nm _=>k∈NKN
noncomputable def zkm (m:Mark):Prop:=0≤m.1∧1≤m.2
noncomputable def Fld.good (k:Str):Fld→Prop
 | .mk m=>zkm m
 | .bh o=>∀ m,o=some m→zkm m
 | .vr v=>vGood v
 | .tx z=>(k = "words" → zyb z=true)∧(k = "choice" → z∈(["stay", "turn", "both"]:List Str))
 | .nm n=>k = "many" ∨ zfc k≤n
theorem zpn {k:Str} {f:Fld} (hk:f.isK k) (hg:f.good k):(f.fits∧zbb k f.text=some f.data) ∨ (¬ f.fits∧zbb k f.text=none):=by
 cases f with
 | mk m =>
  have hk:k = "mark" := hk
  subst hk
  rw [zul]
  rcases zre hg with ⟨h1,h2⟩ | ⟨h1,h2⟩
  ·exact .inl ⟨h1,by show (zqg (dots [m.1,m.2])).map L2.markD=_;rw [h2];rfl⟩
  ·exact .inr ⟨h1,by show (zqg (dots [m.1,m.2])).map L2.markD=_;rw [h2];rfl⟩
 | bh o =>
  have hk:k = "behind" := hk
  subst hk
  rw [zjg]
  cases o with
  | none=>exact .inl ⟨trivial,if_pos rfl⟩
  | some m =>
   have hd:¬ dots [m.1,m.2]=Str.ofString "-" := λ x=>by
    have h46:46∈(dots [m.1,m.2]).cps.toList:=by
     show 46∈((numT m.1++(⟨#[46]⟩:Str))++numT m.2).cps.toList
     rw [zsa,zsa]
     exact List.mem_append_left _ (List.mem_append_right _ List.mem_cons_self)
    rw [x] at h46
    exact absurd h46 (by decide)
   have e:Fld.text (.bh (some m))=dots [m.1,m.2]:=rfl
   rw [e,if_neg hd]
   rcases zre (hg m rfl) with ⟨h1,h2⟩ | ⟨h1,h2⟩
   ·exact .inl ⟨h1,by rw [h2];rfl⟩
   ·exact .inr ⟨h1,by rw [h2];rfl⟩
 | vr v =>
  have hk:k = "version" := hk
  subst hk
  rw [zff]
  rcases zbl hg with ⟨h1,h2⟩ | ⟨h1,h2⟩
  ·exact .inl ⟨h1,by show (verL (zzb v)).map ver=_;rw [h2];rfl⟩
  ·exact .inr ⟨h1,by show (verL (zzb v)).map ver=_;rw [h2];rfl⟩
 | tx z =>
  rcases (show k = "words" ∨ k = "choice" from hk) with rfl | rfl
  ·rw [zzh]
   exact .inl ⟨trivial,if_pos (hg.1 rfl)⟩
  ·rw [zng]
   exact .inl ⟨trivial,if_pos (hg.2 rfl)⟩
 | nm n =>
  have hk:k∈NKN:=hk
  have hg:k = "many" ∨ zfc k≤n:=hg
  by_cases hm:k = "many"
  ·subst hm
   rw [zhm]
   rcases znf n with ⟨h1,h2⟩ | ⟨h1,h2⟩
   ·exact .inl ⟨h1,by show (ztd (numT n).cps.toList).map PyData.int=_;rw [h2];rfl⟩
   ·exact .inr ⟨h1,by show (ztd (numT n).cps.toList).map PyData.int=_;rw [h2];rfl⟩
  ·have hk5:k∈(["beat", "window", "clash", "save", "count"]:List Str):=by
    have al:∀ k∈NKN,k = "many" ∨ k∈(["beat", "window", "clash", "save", "count"]:List Str):=by decide
    exact (al k hk).resolve_left hm
   rw [zbj hk5]
   rcases zhd (hg.resolve_left hm) with ⟨h1,h2⟩ | ⟨h1,h2⟩
   ·exact .inl ⟨h1,by show (zwb (numT n) (zfc k)).map PyData.int=_;rw [h2];rfl⟩
   ·exact .inr ⟨h1,by show (zwb (numT n) (zfc k)).map PyData.int=_;rw [h2];rfl⟩
theorem zxd:∀ {ks:List Str} {fs:List Fld},Paired (λ k f=>f.isK k∧f.good k) ks fs→((∀ f∈fs,f.fits)∧zib (λ p:Str×Str=>zbb p.1 p.2) (ks.zip (fs.map Fld.text))=some (fs.map Fld.data)) ∨ (¬ (∀ f∈fs,f.fits)∧zib (λ p:Str×Str=>zbb p.1 p.2) (ks.zip (fs.map Fld.text))=none)
 | _,_,.nil=>.inl ⟨λ _ h=>(nomatch h),rfl⟩
 | k::ks,f::fs,.cons r rr=>by
  rw [List.map_cons,List.zip_cons_cons]
  unfold zib
  dsimp only
  rcases zpn r.1 r.2 with ⟨h1,h2⟩ | ⟨h1,h2⟩
  ·rw [h2]
   rcases zxd rr with ⟨g1,g2⟩ | ⟨g1,g2⟩
   ·rw [g2]
    exact .inl ⟨λ x hx=>(List.mem_cons.mp hx).elim (λ e=>e ▸ h1) (g1 x),rfl⟩
   ·rw [g2]
    exact .inr ⟨λ x=>g1 λ y hy=>x y (List.mem_cons_of_mem _ hy),rfl⟩
  ·rw [h2]
   exact .inr ⟨λ x=>h1 (x f List.mem_cons_self),rfl⟩
noncomputable def Fld.bare:Fld→Prop
 | .mk _=>True
 | .bh _=>True
 | .nm _=>True
 | _=>False
theorem zhk {f:Fld} (h:f.bare):32∉f.text.cps.toList:=by
 cases f with
 | mk m=>exact zwc (by decide)
 | bh o =>
  cases o with
  | none=>decide
  | some m=>exact zwc (by decide)
 | vr v=>exact h.elim
 | tx z=>exact h.elim
 | nm n=>exact zje n 32 (by decide)
noncomputable def rowT (w:Str) (fs:List Fld):Str:=Txt.join " " (w::fs.map Fld.text)
theorem zkf {x:Str}:∀ {ps:List Str},(∀ p∈ps,32∉p.cps.toList)→Txt.split (Str.join ⟨#[32]⟩ (ps++[x])) " " = ps++Txt.split x " "
 | [],_=>rfl
 | [p],h=>by
  show Txt.split ((p++(⟨#[32]⟩:Str))++x) ⟨#[32]⟩=_
  rw [zzc (h p List.mem_cons_self)]
  rfl
 | p::p2::ps,h=>by
  have ih:=zkf (x:=x) (ps:=p2::ps) λ q hq=>h q (List.mem_cons_of_mem _ hq)
  show Txt.split ((p++(⟨#[32]⟩:Str))++Str.join ⟨#[32]⟩ ((p2::ps)++[x])) ⟨#[32]⟩=_
  rw [zzc (h p List.mem_cons_self)]
  exact congrArg (p :: ·) ih
theorem zak {x:Str} {ps:List Str}:cutK 32 (ps++Txt.split x " ") ps.length=ps++[x]:=by
 have hne:Txt.split x " " ≠ []:=zcc x 32
 unfold cutK
 split
 ·rename_i h
  rw [List.length_append] at h
  match e:Txt.split x " ",hne with
  | [y],_ =>
   have:Str.join ⟨#[32]⟩ (Txt.split x " ")=x:=StrLaws.join_split x ⟨#[32]⟩
   rw [e] at this
   have this:y=x:=this
   rw [this]
  | y::y2::r,_ =>
   rw [e] at h
   simp at h
 ·rw [List.take_left' rfl,List.drop_left' rfl]
  rw [show Str.join ⟨#[32]⟩ (Txt.split x " ")=x from StrLaws.join_split x ⟨#[32]⟩]
theorem zzj {w:Str} {ks:List Str} {fs:List Fld} (hw:zua w=some ks) (hw2:32∉w.cps.toList) (hp:Paired (λ k f=>f.isK k∧f.good k) ks fs) (hb:∀ f∈fs.dropLast,f.bare):((∀ f∈fs,f.fits)∧rowL (rowT w fs)=some (w,fs.map Fld.data)) ∨ (¬ (∀ f∈fs,f.fits)∧rowL (rowT w fs)=none):=by
 have hl:=Paired.length hp
 have h1:=(zxc hw).1.1
 obtain ⟨f0,fl,rfl⟩:∃ f0 fl,fs=f0++[fl]:=by
  have h0:fs≠[]:=λ e=>by rw [e] at hl;simp at hl;rw [hl] at h1;exact absurd h1 (by decide)
  exact ⟨fs.dropLast,fs.getLast h0,(List.dropLast_concat_getLast h0).symm⟩
 rw [List.dropLast_concat] at hb
 have es:Txt.split (rowT w (f0++[fl])) " " = (w::f0.map Fld.text)++Txt.split fl.text " " := by
  unfold rowT
  rw [zfn,List.map_append,← List.cons_append]
  exact zkf λ p hp=>by
   rcases List.mem_cons.mp hp with rfl | hp
   ·exact hw2
   ·obtain ⟨f,hf,rfl⟩:=List.mem_map.mp hp
    exact zhk (hb f hf)
 unfold rowL
 rw [zrk (l:=f0.map Fld.text++Txt.split fl.text " ") es,hw]
 dsimp only
 have ek:ks.length=(w::f0.map Fld.text).length:=by
  rw [hl,List.length_cons,List.length_map,List.length_append]
  rfl
 rw [es]
 have ec:cutK 32 ((w::f0.map Fld.text)++Txt.split fl.text " ") ks.length=w::(f0++[fl]).map Fld.text:=by
  rw [ek,zak,List.map_append]
  rfl
 rw [ec]
 dsimp only
 rw [if_pos (by rw [List.length_map,hl])]
 rcases zxd hp with ⟨g1,g2⟩ | ⟨g1,g2⟩
 ·rw [g2]
  exact .inl ⟨g1,rfl⟩
 ·rw [g2]
  exact .inr ⟨g1,rfl⟩
noncomputable def B31 (n:Int):Prop := -(10 ^ 31)<n∧n<10 ^ 31
theorem zvc {n:Int} (h:B31 n):B40 n:=by unfold B31 B40 at *;omega
noncomputable def zge (m:Mark):Prop:=B31 m.1∧B31 m.2
structure vSmall (v:Ver):Prop where
 b:B31 v.1
 n:v.2.1.length≤5
 s:∀ s∈v.2.1,B31 s.1∧B31 s.2.1∧B31 s.2.2
 w:v.2.2.length≤13
theorem v40 {v:Ver} (h:vSmall v):G40 v:=⟨zvc h.b,by have:=h.n;omega,λ s hs=>let ⟨a,b,c⟩:=h.s s hs; ⟨zvc a,zvc b,zvc c⟩,by have:=h.w;omega⟩
noncomputable def Fld.small:Fld→Prop
 | .mk m=>zge m
 | .bh o=>∀ m,o=some m→zge m
 | .vr v=>vSmall v
 | .tx z=>z.length≤13
 | .nm n=>B31 n
theorem zkb {n:Int} (h:B31 n):(numT n).length≤32:=zfm (k:=31) (by decide) (by unfold B31 at h;omega)
theorem zpg {a b:Int} (ha:B31 a) (hb:B31 b):(dots [a,b]).length≤65:=by
 have h1:=zkb ha
 have h2:=zkb hb
 show ((numT a++(⟨#[46]⟩:Str))++numT b).length≤65
 rw [zla,zla]
 show (numT a).length+1+(numT b).length≤65
 omega
theorem zdk {s:Stp} (h:B31 s.1∧B31 s.2.1∧B31 s.2.2):(dots (sL s)).length≤98:=by
 have h1:=zkb h.1
 have h2:=zkb h.2.1
 have h3:=zkb h.2.2
 show ((((numT s.1++(⟨#[46]⟩:Str))++numT s.2.1)++(⟨#[46]⟩:Str))++numT s.2.2).length≤98
 rw [zla,zla,zla,zla]
 show (numT s.1).length+1+(numT s.2.1).length+1+(numT s.2.2).length≤98
 omega
theorem zno {v:Ver} (h:vSmall v):(zzb v).length≤542:=by
 have h1:=zkb h.b
 have hn:=h.n
 have hw:=h.w
 unfold zzb
 split
 ·rw [zla]
  show (numT v.1).length+2≤542
  omega
 ·have sl:(zyc v.2.1).length≤495:=by
   have h1:=zvf "/" (v.2.1.map λ s=>dots (sL s))
   have h2:((v.2.1.map λ s=>dots (sL s)).map (·.length)).sum≤v.2.1.length * 98:=zmh λ s hs=>zdk (h.s s hs)
   have h3:(Str.ofString "/").length=1:=rfl
   rw [h3,List.length_map] at h1
   unfold zyc
   omega
  rw [zla,zla,zla,zla]
  show (numT v.1).length+1+(zyc v.2.1).length+1+v.2.2.length≤542
  omega
noncomputable def Fld.most:Fld→Nat
 | .vr _=>542
 | _=>65
theorem zuj {f:Fld} (h:f.small):f.text.length≤f.most:=by
 cases f with
 | mk m=>exact zpg h.1 h.2
 | bh o =>
  cases o with
  | none=>decide
  | some m=>exact zpg (h m rfl).1 (h m rfl).2
 | vr v=>exact zno h
 | tx z=>exact Nat.le_trans h (show 13≤65 by decide)
 | nm n=>exact Nat.le_trans (zkb h) (show 32≤65 by decide)
noncomputable def Fld.okT:Fld→Prop
 | .vr v=>PyData.strOk v.2.2=true
 | .tx z=>PyData.strOk z=true
 | _=>True
theorem zgo {w:Str} {fs:List Fld} (h:∀ f∈fs,f.small):(rowT w fs).length≤w.length+1+(fs.map λ f=>f.most+1).sum:=by
 have h1:=zvf " " (w::fs.map Fld.text)
 have e:(Str.ofString " ").length=1:=rfl
 rw [e,List.map_cons,List.sum_cons,List.length_cons,List.length_map,List.map_map] at h1
 have h2:∀ fs:List Fld,(∀ f∈fs,f.small)→(fs.map ((·.length) ∘ Fld.text)).sum+fs.length≤(fs.map λ f=>f.most+1).sum:=λ fs=>by
  induction fs with
  | nil=>intro _;exact Nat.le_refl _
  | cons f fs ih =>
   intro h
   have:=ih λ x hx=>h x (List.mem_cons_of_mem _ hx)
   have:=zuj (h f List.mem_cons_self)
   rw [List.map_cons,List.map_cons,List.sum_cons,List.sum_cons,List.length_cons]
   show f.text.length+_+_≤_
   omega
 have:=h2 fs h
 unfold rowT
 omega
noncomputable def zzw (K:W.Frag) (A:Adr):Sp:=zlc (λ (a:Str×Fld) vs H=>∃ x,vs=[.str a.1,x]∧DV K H a.2.data x∧a.2.isK a.1∧a.2.small) (λ a r _=>a.2.fits∧r = .str a.2.text) (λ a C=>C=A.NoText∧¬ a.2.fits)
noncomputable def zcv (K:W.Frag) (A:Adr):Sp:=zlc (λ (a:Str×List Fld) vs H=>∃ x,vs=[.str a.1,x]∧DV K H (.tuple (a.2.map Fld.data)) x∧a.1.length≤20∧a.2.length≤4∧(∃ ks,zua a.1=some ks∧Paired (λ k f=>Fld.isK k f) ks a.2)∧∀ f∈a.2,f.small) (λ a r _=>(∀ f∈a.2,f.fits)∧r = .str (rowT a.1 a.2)) (λ a C=>C=A.NoText∧¬ ∀ f∈a.2,f.fits)
theorem Paired.at_ {α β:Type} {R:α→β→Prop}:∀ {xs:List α} {ys:List β},Paired R xs ys→∀ {i:Nat} {x:α} {y:β},xs[i]? = some x→ys[i]? = some y→R x y
 | _,_,.nil,i,x,y,h,_=>by simp at h
 | _,_,.cons r rr,0,x,y,h,g=>by
  cases h
  cases g
  exact r
 | _,_,.cons r rr,i+1,x,y,h,g=>Paired.at_ rr (i:=i) (by simpa using h) (by simpa using g)
noncomputable def Fld.plain:Fld→Prop
 | .vr _=>False
 | _=>True
structure FOk (j:Str) (f:Fld):Prop where
 k:f.isK j
 g:f.good j
 s:f.small
 p:f.plain
 t:f.okT
noncomputable abbrev Rec:=Bool×Str×List Fld
noncomputable def recD (r:Rec):PyData:=if r.1=true then .tuple [.str "deed",(r.2.2.map Fld.data).headD .none,.tuple (.str r.2.1::(r.2.2.map Fld.data).tail)] else .tuple (.str r.2.1::r.2.2.map Fld.data)
noncomputable def rOk (d:Bool) (w:Str):Prop:=if d=true then w∈DDS else w∈NTS
structure RecOk (r:Rec):Prop where
 d:rOk r.1 r.2.1
 f:∃ ks b fs,zua r.2.1=some (Str.ofString "beat" :: ks)∧r.2.2 = .nm b::fs∧1≤b∧B31 b∧Paired FOk ks fs∧∀ f∈fs.dropLast,f.bare
noncomputable def ztn (r:Rec):Prop:=∀ f∈r.2.2,f.fits
theorem zwo {b:Int} (h:1≤b) (h2:B31 b):FOk "beat" (.nm b):=⟨by show (Str.ofString "beat")∈NKN;decide,.inr (by show (1:Int)≤b;exact h),h2,trivial,trivial⟩
theorem zrb {α β:Type} {R:α→β→Prop}:∀ {xs:List α} {ys:List β},Paired R xs ys→∀ y∈ys,∃ x,R x y
 | _,_,.nil,y,h=>nomatch h
 | _,_,.cons r rr,y,h=>by
  rcases List.mem_cons.mp h with rfl | h
  ·exact ⟨_,r⟩
  ·exact zrb rr y h
theorem RecOk.all {r:Rec} (h:RecOk r):∃ ks,zua r.2.1=some ks∧Paired FOk ks r.2.2∧(∀ f∈r.2.2.dropLast,f.bare)∧∃ b fs,r.2.2 = .nm b::fs:=by
 obtain ⟨d,ks,b,fs,h1,h2,h3,h4,h5,h6⟩:=h
 refine ⟨_,h1,by rw [h2];exact .cons (zwo h3 h4) h5,?_,b,fs,h2⟩
 rw [h2]
 intro f hf
 cases fs with
 | nil=>cases hf
 | cons g gs =>
  rw [List.dropLast_cons_cons] at hf
  rcases List.mem_cons.mp hf with rfl | hf
  ·exact trivial
  ·exact h6 f hf
theorem zub {w:Str} {d:Bool} (h:rOk d w):w.length≤6∧32∉w.cps.toList∧PyData.strOk w=true∧¬ w = "deed" := by
 have al:∀ w∈DDS++NTS,w.length≤6∧32∉w.cps.toList∧PyData.strOk w=true∧¬ w = "deed" := by decide +kernel
 cases d with
 | true=>exact al w (List.mem_append_left _ h)
 | false=>exact al w (List.mem_append_right _ h)
theorem zxh {f:Fld} (h:f.plain):f.most=65:=by
 cases f with
 | vr v=>exact h.elim
 | _=>rfl
theorem zej {f:Fld} (h:f.plain) (h2:f.okT):zqp f.data:=by
 cases f with
 | vr v=>exact h.elim
 | mk m=>exact .inr (.inr (.inl ⟨m,rfl⟩))
 | bh o =>
  cases o with
  | none=>exact .inl rfl
  | some m=>exact .inr (.inr (.inl ⟨m,rfl⟩))
 | tx z=>exact .inr (.inr (.inr ⟨z,rfl,h2⟩))
 | nm n=>exact .inr (.inl ⟨n,rfl⟩)
theorem zye {r:Rec} (h:RecOk r):(rowT r.2.1 r.2.2).length≤640∧r.2.2.length≤4∧(∀ f∈r.2.2,f.small):=by
 obtain ⟨ks,h1,h2,_,_⟩:=h.all
 have hl:=Paired.length h2
 have h4:=(zxc h1).1.2
 have hs:∀ f∈r.2.2,f.small:=λ f hf=>let ⟨k,o⟩:=zrb h2 f hf;o.s
 have hm:∀ fs:List Fld,(∀ f∈fs,f.plain)→(fs.map λ f=>f.most+1).sum=fs.length * 66:=λ fs=>by
  induction fs with
  | nil=>intro _;rfl
  | cons f fs ih =>
   intro h
   rw [List.map_cons,List.sum_cons,ih λ x hx=>h x (List.mem_cons_of_mem _ hx),zxh (h f List.mem_cons_self),List.length_cons]
   omega
 have h5:=zgo (w:=r.2.1) hs
 rw [hm _ λ f hf=>let ⟨k,o⟩:=zrb h2 f hf;o.p] at h5
 have h6:=(zub h.d).1
 exact ⟨by omega,by omega,hs⟩
theorem zli {r:Rec} (h:RecOk r):SeqAt.shaped (recD r)=true:=by
 obtain ⟨ks,h1,h2,_,b,fs,e⟩:=h.all
 have hf:∀ d∈r.2.2.map Fld.data,zqp d:=λ d hd=>by
  obtain ⟨f,hf,rfl⟩:=List.mem_map.mp hd
  obtain ⟨k,o⟩:=zrb h2 f hf
  exact zej o.p o.t
 have hw:=(zub h.d).2.2.1
 unfold recD
 split
 ·rw [e] at hf ⊢
  exact zoh hw hf
 ·exact zch hw hf
theorem zoj {r:Rec} (h:RecOk r):(ztn r∧zcj (rowT r.2.1 r.2.2)=some (recD r)) ∨ (¬ ztn r∧zcj (rowT r.2.1 r.2.2)=none):=by
 obtain ⟨ks,h1,h2,h3,b,fs,e⟩:=h.all
 unfold zcj
 rcases zzj h1 (zub h.d).2.1 (Paired.mono (λ _ _ o=>⟨o.k,o.g⟩) h2) h3 with ⟨a1,a2⟩ | ⟨a1,a2⟩
 ·rw [a2]
  refine .inl ⟨a1,?_⟩
  show ztp _=_
  have hd:=h.d
  unfold rOk at hd
  unfold ztp recD
  dsimp only
  split
  ·rename_i hdd
   have ht:r.1=true:=by
    cases hb:r.1 with
    | true=>rfl
    | false =>
     rw [hb] at hd
     have al:∀ w∈NTS,w∉DDS:=by decide +kernel
     exact absurd hdd (al _ hd)
   rw [if_pos ht]
  ·rename_i hdd
   have ht:¬ r.1=true:=λ e=>hdd (by rw [if_pos e] at hd;exact hd)
   rw [if_neg ht] at hd ⊢
   rw [if_pos hd]
 ·rw [a2]
  exact .inr ⟨a1,rfl⟩
theorem zmc {n:Int} (h:B30 n):B31 n:=by unfold B30 B31 at *;omega
noncomputable def S94:Str := " !\"#$&'()*+,-./0123456789:;<=>?@ABCDEFGHIJKLMNOPQRSTUVWXYZ[\\]^_`abcdefghijklmnopqrstuvwxyz{|}~"
theorem zjp:S94.cps.toList.length=94:=by decide +kernel
noncomputable def okS (z:Str):Prop:=∀ c∈z.cps.toList,c∈S94.cps.toList
theorem zbh {z:Str} (h:okS z):zyb z=true∧PyData.strOk z=true:=by
 have al:∀ c∈S94.cps.toList,c≠10∧c≠9∧PyData.strOk ⟨#[c]⟩=true:=by decide +kernel
 constructor
 ·rw [zxk,decide_eq_false (λ x=>(al 10 (h 10 x)).1 rfl),decide_eq_false (λ x=>(al 9 (h 9 x)).2.1 rfl)]
  rfl
 ·rw [zmn]
  intro n hn
  have:=(al n (h n hn)).2.2
  rw [zmn] at this
  exact this n List.mem_cons_self
noncomputable def zcy (K:W.Frag) (A:Adr):Sp:=zlc (λ (r:Rec) vs H=>∃ x,vs=[x]∧DV K H (recD r) x∧RecOk r) (λ r v _=>ztn r∧v = .str (rowT r.2.1 r.2.2)) (λ r C=>C=A.NoText∧¬ ztn r)
noncomputable def ziw:Sp:=zlc (λ (n:Int) vs _=>vs=[.int n]) (λ _ v _=>∃ z,v = .str z∧z.length≤13∧okS z) (λ _ _=>False)
noncomputable def zpy:Sp:=zhh (λ (a:Int×Int) vs=>vs=[.int a.1,.int a.2]∧0≤a.2∧a.2≤1) (λ a v=>∃ m:Int,v = .int m∧a.2≤m∧B30 m)
noncomputable def zvv (K:W.Frag):Sp:=zlc (λ (n:Int) vs _=>vs=[.int n]) (λ _ v H=>∃ m:Mark,DV K H (L2.markD m) v∧zkm m∧mFit m) (λ _ _=>False)
noncomputable def ztt (K:W.Frag):Sp:=zlc (λ (n:Int) vs _=>vs=[.int n]) (λ _ v H=>∃ o:Option Mark,DV K H (Fld.data (.bh o)) v∧∀ m,o=some m→zkm m∧mFit m) (λ _ _=>False)
noncomputable def zlu:Sp:=zhh (λ (n:Int) vs=>vs=[.int n]) (λ _ v=>∃ m:Int,v = .int m∧B30 m)
noncomputable def zlv (K:W.Frag):Sp:=zlc (λ (a:Int×Int) vs _=>vs=[.int a.1,.int a.2]) (λ _ v H=>∃ w fs,DV K H (.tuple (.str w::fs.map Fld.data)) v∧(∀ f∈fs,f.fits)∧∀ b,1≤b→B31 b→RecOk (true,w,.nm b::fs)) (λ _ _=>False)
noncomputable def zwu (K:W.Frag):Sp:=zlc (λ (n:Int) vs _=>vs=[.int n]) (λ _ v H=>∃ r:Rec,DV K H (recD r) v∧RecOk r∧ztn r) (λ _ _=>False)
noncomputable def zdp (K:W.Frag):Sp:=zxl (λ (f:Fld) vs H=>∃ x,vs=[x]∧DV K H f.data x∧f.plain∧f.small) (λ f v=>v = .str f.text)
noncomputable def zhr (K:W.Frag):Sp:=zlc (λ (r:Rec) vs H=>∃ x,vs=[x]∧DV K H (recD r) x∧RecOk r) (λ r v _=>v = .str (rowT r.2.1 r.2.2)) (λ _ _=>False)
noncomputable def zhw (K:W.Frag):Sp:=zlc (λ (a:Rec×Int) vs H=>∃ x,vs=[x,.int a.2]∧DV K H (recD a.1) x∧RecOk a.1) (λ _ v H=>∃ r:Rec,DV K H (recD r) v∧RecOk r∧¬ ztn r) (λ _ _=>False)
noncomputable def zrp (K:W.Frag):Sp:=zlc (λ (a:Option Rec×Str) vs H=>∃ x,vs=[x,.str a.2]∧((a.1=none∧x = .non∧a.2.length≤640∧zcj a.2=none) ∨ ∃ r,a.1=some r∧DV K H (recD r) x∧RecOk r∧¬ ztn r)) (λ _ v _=>v = .bl true) (λ _ _=>False)
theorem zee {w:Str} {ks:List Str} {fs:List Fld} (hs:zua w=some (Str.ofString "beat" :: ks)) (hd:w∈DDS) (hp:Paired FOk ks fs) (hb:∀ f∈fs.dropLast,f.bare):∀ b,1≤b→B31 b→RecOk (true,w,.nm b::fs):=λ b h1 h2=>⟨hd,ks,b,fs,hs,rfl,h1,h2,hp,hb⟩
theorem zkl {w:Str} {ks:List Str} {fs:List Fld} (hs:zua w=some (Str.ofString "beat" :: ks)) (hd:w∈NTS) (hp:Paired FOk ks fs) (hb:∀ f∈fs.dropLast,f.bare):∀ b,1≤b→B31 b→RecOk (false,w,.nm b::fs):=λ b h1 h2=>⟨hd,ks,b,fs,hs,rfl,h1,h2,hp,hb⟩
theorem fmk {m:Mark} (g:zkm m) (f:zge m):FOk "mark" (.mk m):=⟨rfl,g,f,trivial,trivial⟩
theorem fbh {o:Option Mark} (g:∀ m,o=some m→zkm m∧mFit m):FOk "behind" (.bh o):=⟨rfl,λ m e=>(g m e).1,λ m e=>⟨zmc (g m e).2.1,zmc (g m e).2.2⟩,trivial,trivial⟩
theorem fwd {z:Str} (h:z.length≤13) (s:okS z):FOk "words" (.tx z):=⟨.inl rfl,⟨λ _=>(zbh s).1,λ e=>absurd e (by decide)⟩,h,trivial,(zbh s).2⟩
theorem fmn {n:Int} (h:B31 n):FOk "many" (.nm n):=⟨by show (Str.ofString "many")∈NKN;decide,.inl rfl,h,trivial,trivial⟩
theorem fwn {n:Int} (h0:1≤n) (h:B31 n):FOk "window" (.nm n):=⟨by show (Str.ofString "window")∈NKN;decide,.inr (by show (1:Int)≤n;exact h0),h,trivial,trivial⟩
theorem fsv {n:Int} (h0:0≤n) (h:B31 n):FOk "save" (.nm n):=⟨by show (Str.ofString "save")∈NKN;decide,.inr (by show (0:Int)≤n;exact h0),h,trivial,trivial⟩
theorem zqh {o:Option Mark} (g:∀ m,o=some m→zkm m∧mFit m):Fld.fits (.bh o):=by
 cases o with
 | none=>trivial
 | some m=>exact (g m rfl).2
theorem all1 {P:Fld→Prop} {a:Fld} (h:P a):∀ f∈[a],P f:=λ f hf=>by rw [List.mem_singleton.mp hf];exact h
theorem all2 {P:Fld→Prop} {a b:Fld} (h:P a) (h2:P b):∀ f∈[a,b],P f:=λ f hf=>by
 simp only [List.mem_cons,List.not_mem_nil,or_false] at hf
 rcases hf with rfl | rfl
 ·exact h
 ·exact h2
theorem all3 {P:Fld→Prop} {a b c:Fld} (h:P a) (h2:P b) (h3:P c):∀ f∈[a,b,c],P f:=λ f hf=>by
 simp only [List.mem_cons,List.not_mem_nil,or_false] at hf
 rcases hf with rfl | rfl | rfl
 ·exact h
 ·exact h2
 ·exact h3
theorem all0 {P:Fld→Prop}:∀ f∈([]:List Fld),P f:=λ f hf=>nomatch hf
theorem zdn {m:Mark} (h:mFit m):zge m:=⟨zmc h.1,zmc h.2⟩
theorem zpm {K:W.Frag} {H:Hp} {r:Rec} {x:V} {b:Int} {fr:List Fld} (hd:DV K H (recD r) x) (e:r.2.2 = .nm b::fr):∃ t vs,x = .ref t∧SqT K H t vs∧((r.1=true∧∃ t2 ys,vs=[.str "deed",.int b,.ref t2]∧SqT K H t2 (.str r.2.1::ys)∧DVs K H (fr.map Fld.data) ys) ∨ (¬ r.1=true∧∃ ys,vs = .str r.2.1::ys∧DVs K H (r.2.2.map Fld.data) ys)):=by
 unfold recD at hd
 split at hd
 ·rename_i h
  rw [e] at hd
  have hd:DV K H (.tuple [.str "deed",.int b,.tuple (.str r.2.1::fr.map Fld.data)]) x:=hd
  obtain ⟨t,xs,rfl,hq,x0,r0,rfl,e0,x1,r1,rfl,e1,x2,r2,rfl,e2,e3⟩:=hd
  cases (show r2=[] from e3)
  have e0:x0 = .str "deed" := e0
  have e1:x1 = .int b:=e1
  subst e0 e1
  obtain ⟨t2,ys,rfl,hq2,y0,ys,rfl,e4,hys⟩:=e2
  have e4:y0 = .str r.2.1:=e4
  subst e4
  exact ⟨t,_,rfl,hq,.inl ⟨h,t2,ys,rfl,hq2,hys⟩⟩
 ·rename_i h
  obtain ⟨t,xs,rfl,hq,y0,ys,rfl,e4,hys⟩:=hd
  have e4:y0 = .str r.2.1:=e4
  subst e4
  exact ⟨t,_,rfl,hq,.inr ⟨h,ys,rfl,hys⟩⟩
theorem at2 {x y z:V} {xs:List V}:atI (x::y::z::xs) 2=some z:=zaf (j:=2) rfl
section
variable (P:Program) (w:World) (K:W.Frag) (mg:Str→Option Value) (B:Heap) (A:Adr)
noncomputable abbrev zqn:Prop:=FnOk P w K mg B (CX1 P w B) 1 A.f_q34 A.d_q34 ["text"] zju
noncomputable abbrev zkr:Prop:=FnOk P w K mg B (CX1 P w B) 1 A.f_q35 A.d_q35 ["text", "signs"] zqq
noncomputable abbrev znr:Prop:=FnOk P w K mg B (CX1 P w B) 2 A.f_q7 A.d_q7 ["text"] (zqx A)
noncomputable abbrev zqm:Prop:=FnOk P w K mg B (CX1 P w B) 3 A.f_q26 A.d_q26 ["least", "text"] (zbx A)
noncomputable abbrev zbu:Prop:=FnOk P w K mg B (CX1 P w B) 1 A.f_q8 A.d_q8 ["window", "count"] (zyy A)
noncomputable abbrev zws:Prop:=FnOk P w K mg B (CX1 P w B) 6 A.f_q4 A.d_q4 ["text", "many"] (zuy A)
noncomputable abbrev zwq:Prop:=FnOk P w K mg B (CX1 P w B) 7 A.f_q22 A.d_q22 ["text"] (zex A)
noncomputable abbrev zep:Prop:=FnOk P w K mg B (CX1 P w B) 7 A.f_q27 A.d_q27 ["text"] (zxy A)
noncomputable abbrev zxp:Prop:=FnOk P w K mg B (CX1 P w B) 8 A.f_q20 A.d_q20 ["text"] (zaz K A)
noncomputable abbrev zrw:Prop:=FnOk P w K mg B (CX1 P w B) 1 A.f_q6 A.d_q6 ["beat"] (zps K)
noncomputable abbrev zlw:Prop:=FnOk P w K mg B (CX1 P w B) 9 A.f_q3 A.d_q3 ["text"] (zey K A)
noncomputable abbrev zdr:Prop:=FnOk P w K mg B (CX1 P w B) 2 A.f_q16 A.d_q16 ["text"] (zkx A)
noncomputable abbrev zww:Prop:=FnOk P w K mg B (CX1 P w B) 1 A.f_q5 A.d_q5 ["text"] (zcu A)
noncomputable abbrev zlo:Prop:=FnOk P w K mg B (CX1 P w B) 10 A.f_q21 A.d_q21 ["kind", "text"] (zov K A)
noncomputable abbrev zvo:Prop:=FnOk P w K mg B (CX1 P w B) 11 A.f_q32 A.d_q32 ["row"] (zrs K A)
noncomputable abbrev zzr:Prop:=FnOk P w K mg B (CX1 P w B) 12 A.f_q0 A.d_q0 ["row"] (zaw K A)
noncomputable abbrev zil:Prop:=FnOk P w K mg B (CX1 P w B) 1 A.f_q10 A.d_q10 ["number"] (zrx A)
noncomputable abbrev zwm:Prop:=FnOk P w K mg B (CX1 P w B) 2 A.f_q11 A.d_q11 ["numbers"] (zqw K A)
noncomputable abbrev zoo:Prop:=FnOk P w K mg B (CX1 P w B) 3 A.f_q24 A.d_q24 ["mark"] (zqw K A)
noncomputable abbrev zyo:Prop:=FnOk P w K mg B (CX1 P w B) 3 A.f_q19 A.d_q19 ["place"] (zax K A)
noncomputable abbrev zto:Prop:=FnOk P w K mg B (CX1 P w B) 1 A.f_q36 A.d_q36 ["version"] (zyw K)
noncomputable abbrev zvw:Prop:=FnOk P w K mg B (CX1 P w B) 4 A.f_q2 A.d_q2 ["version"] (zmy K A)
noncomputable abbrev zfp:Prop:=FnOk P w K mg B (CX1 P w B) 5 A.f_q17 A.d_q17 ["kind", "value"] (zzw K A)
noncomputable abbrev zuq:Prop:=FnOk P w K mg B (CX1 P w B) 6 A.f_q30 A.d_q30 ["word", "values"] (zcv K A)
noncomputable abbrev zhn:Prop:=FnOk P w K mg B (CX1 P w B) 7 A.f_q33 A.d_q33 ["record"] (zcy K A)
noncomputable abbrev zzo:Prop:=FnOk P w K mg B (CX1 P w B) 1 A.f_q15 A.d_q15 ["_law_number_here"] ziw
noncomputable abbrev zbk:Prop:=FnOk P w K mg B (CX1 P w B) 1 A.f_q13 A.d_q13 ["_law_number_here", "_law_least"] zpy
noncomputable abbrev zym:Prop:=FnOk P w K mg B (CX1 P w B) 2 A.f_q23 A.d_q23 ["_law_number_here"] (zvv K)
noncomputable abbrev zio:Prop:=FnOk P w K mg B (CX1 P w B) 3 A.f_q12 A.d_q12 ["_law_number_here"] (ztt K)
noncomputable abbrev zar:Prop:=FnOk P w K mg B (CX1 P w B) 2 A.f_q29 A.d_q29 ["_law_number_here"] zlu
noncomputable abbrev zdq:Prop:=FnOk P w K mg B (CX1 P w B) 4 A.f_q28 A.d_q28 ["_law_way", "_law_number_here"] (zlv K)
noncomputable abbrev zmw:Prop:=FnOk P w K mg B (CX1 P w B) 5 A.f_q9 A.d_q9 ["_law_number_here"] (zwu K)
noncomputable abbrev zzp:Prop:=FnOk P w K mg B (CX1 P w B) 1 A.f_q25 A.d_q25 ["_law_part_here"] (zdp K)
noncomputable abbrev zso:Prop:=FnOk P w K mg B (CX1 P w B) 2 A.f_q31 A.d_q31 ["_law_record_here"] (zhr K)
noncomputable abbrev zpp:Prop:=FnOk P w K mg B (CX1 P w B) 1 A.f_q18 A.d_q18 ["_law_record_here", "_law_number_here"] (zhw K)
noncomputable abbrev zuw:Prop:=FnOk P w K mg B (CX1 P w B) 13 A.f_q1 A.d_q1 ["_law_record_here", "_law_row_here"] (zrp K)
noncomputable abbrev zhq:Prop:=FnOk P w K mg B (CX1 P w B) 1 A.f_q14 A.d_q14 ["_law_cell", "_law_k"] ztx
noncomputable abbrev zeu:Prop:=FnOk P w K mg B (CX1 P w B) 14 A.f_law A.d_law ["_law_script"] (sp_law K)
end
set_option maxHeartbeats 4000000
section
variable {P:Program} {w:World} {K:W.Frag} {mg:Str→Option Value} {B:Heap} {A:Adr}
theorem zur:FnScope ["text"] ["text"] (zga zit):=by walk_at "sc"
theorem zns (T:Txt w K mg A)  : zqn P w K mg B A:=by
 refine FnOk.pure (T.F_q34.okN zur (λ vs H Q E h=>?_) (λ _ _ _ _ H vs Q E hr h=>?_))
 ·obtain ⟨_,a,rfl,_⟩:=h
  rfl
 ·obtain ⟨hp,z,rfl,q⟩:=h
  refine ⟨_,(zda (zna (ztu (zyg zed zma (pv 0) (by rfl)) (zxt (zyg zed zma (pv 0) (by rfl)))))),?_⟩
  refine ⟨_,rfl,_,_,rfl,rfl,_,rfl,?_⟩
  refine zxx (λ h1=>?_) (λ h1=>?_)
  ·refine ⟨_,rfl,_,_,rfl,rfl,?_⟩
   exact q _ _ (congrArg V.bl (by unfold zyb hasS;rw [h1,Bool.true_and])) (Same.refl _)
  ·exact q _ _ (congrArg V.bl (by unfold zyb hasS;rw [h1,Bool.false_and])) (Same.refl _)
theorem ziu:FnScope ["text", "signs"] ["text", "signs"] (zga zfu):=by walk_at "sc"
theorem zks (T:Txt w K mg A)  : zkr P w K mg B A:=by
 refine FnOk.pure (T.F_q35.okN ziu (λ vs H Q E h=>?_) (λ _ _ _ _ H vs Q E hr h=>?_))
 ·obtain ⟨_,a,⟨rfl,_⟩,_⟩:=h
  rfl
 ·obtain ⟨hp,⟨z,t⟩,⟨rfl,hz⟩,q⟩:=h
  refine ⟨_,(zda (zna (zfb (zun rfl) rfl T.n_all (by decide +kernel) (zaa (zsl ["sign", "signs"] 1 [1] rfl (zdt (pv 0)) gk1 (λ _ _ _ _ _=>zpa (i:=0) (show List.Nodup (["sign", "signs"]:List Str) by decide +kernel) rfl (Or.inl rfl)) (λ _ _ _ _ _=>ztc) (λ _ _ _ _ _=>(zyg zsk (pv 0) (pv 1) (by rfl)))) zca)))),?_⟩
  refine ⟨_,rfl,_,rfl,λ D hD=>zon (λ i=>.bl (hasS ⟨#[z.cps.toList.getD i 0]⟩ t)) (sm1 (hz)) ?_ ?_⟩
  ·intro i c H2 R hc hR
   refine ⟨_,rfl,_,rfl,_,_,rfl,rfl,hR _ ?_⟩
   have:z.cps.toList.getD i 0=c:=by rw [List.getD_eq_getElem?_getD];simp [hc]
   rw [this]
   rfl
  ·exact ⟨D,(List.range z.cps.size).map λ i=>hasS ⟨#[z.cps.toList.getD i 0]⟩ t,rfl,SqL.of (by rw [upd_same,List.map_map];rfl),q _ _ rfl (zfa hD)⟩
theorem sc_q7:FnScope ["text", "figures"] ["text"] (zga s_q7):=by walk_at "sc"
theorem zyx (T:Txt w K mg A) (G_q35:zkr P w K mg B A):znr P w K mg B A:=by
 have B_q35:=T.b_q35
 obtain ⟨t_FIGURES,g_FIGURES⟩:=T.u_FIGURES
 obtain ⟨t_MOST_FIGURES,g_MOST_FIGURES⟩:=T.u_MOST_FIGURES
 refine T.F_q7.okX sc_q7 (λ vs H Q E h=>?_) (λ _ _ _ _ H vs Q E hr h=>?_)
 ·obtain ⟨_,z,rfl,_⟩:=h
  rfl
 ·obtain ⟨hp,z,rfl,hz,q1,q2⟩:=h
  refine ⟨_,(zba (zza (i:=1) sc_q7.nd rfl (Or.inl rfl) (ztf (zld (zqj PySem.F.plainAttrs_str PySem.F.slot_str_startswith PySem.F.type_str_startswith zze (pv 0) (zaa zma zca))) (zbc zxv (pv 0) (zsd zea) zbd) (pv 0)))
   (zba (zcb (PW.pt (zrm (zja zqb (pv 1) zma (zqa _)) (zrm (zja zgx (zfb zag rfl T.n_len (by decide +kernel) (zaa (pv 1) zca)) (zdb (v := .int (30)) rfl g_MOST_FIGURES ⟨t_MOST_FIGURES,rfl⟩) (zqa _)) (zfh (zle (zld (zha G_q35 (hr.mono (by decide)) rfl T.g_q35 T.k_q35 B_q35 .nil zxb (zaa (pv 1) (zaa (zdb (v := .str "0123456789") rfl g_FIGURES ⟨t_FIGURES,rfl⟩) zca))))))))) (zda (zgb T.x_NoText zia rfl rfl T.g_NoText (zaa zma zca))) zka)
   (zba (zcb (PW.pt (zkq (zja zqb (zrd zyp (pv 1) zea (λ _ _=>rfl)) zma (zqa _)) (zvl (zja zsr (pv 0) zma (zqa _))))) (zda (zgb T.x_NoText zia rfl rfl T.g_NoText (zaa zma zca))) zka)
   (zda (zna (zhb zzf rfl T.n_int (by decide +kernel) (zaa (pv 0) zca))))))),?_⟩
  have sz:z.length≤sizeLine:=sm1 ((by omega))
  have hlz:z.cps.toList.length=z.length:=Array.length_toList
  apply join (α:=Str) (ok:=λ y=>y.cps.toList=(if z.cps.toList.head? = some 45 then z.cps.toList.tail else z.cps.toList))
  ·intro R
   refine ⟨_,rfl,rfl,⟨_,_,rfl,rfl,_,rfl,?_⟩⟩
   rw [zph]
   refine znb (λ h=>?_) (λ h=>?_)
   ·refine ⟨_,rfl,_,rfl,_,rfl,sz,?_⟩
    have e:=zwi z
    generalize Txt.slice z (some 1) none=y at e ⊢
    exact R y (by rw [if_pos h,e])
   ·refine ⟨_,rfl,?_⟩
    exact R z (by rw [if_neg h])
  intro y hy
  have hly:y.cps.toList.length=y.length:=Array.length_toList
  have hle:y.length≤z.length:=by
   rw [← hly,← hlz,hy]
   split
   ·simp
   ·exact Nat.le_refl _
  refine ⟨_,rfl,rfl,_,rfl,znb (λ h1=>iteT ?_) (λ h1=>⟨_,rfl,_,rfl,Nat.le_trans hle sz,_,_,rfl,rfl,_,rfl,znb (λ h2=>iteT ?_) (λ h2=>?_)⟩)⟩
  ·refine ⟨by decide,q2 ?_⟩
   have e:y.cps.toList=[]:=(zob _ _).mp h1
   rw [e] at hy
   unfold ztd
   split
   ·rename_i hh
    rw [if_pos hh] at hy
    rw [← hy,if_pos (.inl (by decide))]
   ·rename_i hh
    rw [if_neg hh] at hy
    rw [← hy,if_pos (.inl (by decide))]
  ·refine ⟨by decide,q2 ?_⟩
   have h2':30<y.cps.toList.length:=by rw [hly];omega
   unfold ztd
   split
   ·rename_i hh
    rw [if_pos hh] at hy
    rw [← hy,if_pos (.inr (.inl h2'))]
   ·rename_i hh
    rw [if_neg hh] at hy
    rw [← hy,if_pos (.inr (.inl h2'))]
  refine ⟨_,rfl,hp,(y,DIG),⟨rfl,by show y.length≤1000;omega⟩,λ v hv=>⟨_,hv,?_⟩⟩
  rw [zsm]
  cases hd:y.cps.toList.all znh with
  | false =>
   refine iteT ⟨by decide,q2 ?_⟩
   unfold ztd
   split
   ·rename_i hh
    rw [if_pos hh] at hy
    rw [← hy,if_pos (.inr (.inr (.inl hd)))]
   ·rename_i hh
    rw [if_neg hh] at hy
    rw [← hy,if_pos (.inr (.inr (.inl hd)))]
  | true =>
   refine iteF ?_
   obtain ⟨c,cs,hc⟩:∃ c cs,y.cps.toList=c::cs:=by
    cases e:y.cps.toList with
    | nil=>exact absurd ((zob _ _).mpr e) h1
    | cons c cs=>exact ⟨c,cs,rfl⟩
   have AD:AllDigits y.cps.toList:=(zfj _).mp hd
   have len30:¬ 30<y.cps.toList.length:=by rw [hly];omega
   have c48:(V.str ⟨#[c]⟩=V.str "0")↔c=48:=by
    rw [zob]
    have:("0" : Str).cps.toList=[48]:=rfl
    rw [this]
    simp
   refine ⟨_,rfl,_,_,_,rfl,rfl,Nat.le_trans hle sz,zvk hc,rfl,_,rfl,znb (λ h3=>⟨_,rfl,rfl,_,rfl,ztr (λ h4=>?_) (λ h4=>?_)⟩) (λ h3=>?_)⟩
   ·refine ⟨by decide,q2 ?_⟩
    have hc48:=c48.mp h3
    subst hc48
    unfold ztd
    split
    ·rename_i hh
     rw [if_pos hh] at hy
     rw [← hy,if_pos (.inr (.inr (.inr (by rw [hc];rfl))))]
    ·rename_i hh
     rw [if_neg hh] at hy
     have l1:1<y.cps.toList.length:=by
      rw [hc]
      cases cs with
      | nil =>
       exfalso
       apply h4
       rw [zob,← hy,hc]
       rfl
      | cons _ _=>simp
     rw [← hy,if_pos (.inr (.inr (.inr ⟨by rw [hc];rfl,l1⟩)))]
   ·-- text is "0"
    have e0:z.cps.toList=[48]:=(zob _ _).mp h4
    have AZ:AllDigits z.cps.toList:=by rw [e0];intro d hd';simp at hd';omega
    refine ⟨_,rfl,_,_,rfl,by omega,PySem.intText_digits AZ (by rw [e0];simp) (by omega),q1 _ ?_⟩
    rw [e0]
    rfl
   ·have c48':c≠48:=λ e=>h3 (c48.mpr e)
    by_cases hh:z.cps.toList.head? = some 45
    ·rw [if_pos hh] at hy
     obtain ⟨ds,hz45⟩:∃ ds,z.cps.toList=45::ds:=by
      cases e:z.cps.toList with
      | nil=>rw [e] at hh;cases hh
      | cons a b=>rw [e] at hh;simp at hh;exact ⟨b,by rw [hh]⟩
     have hyd:y.cps.toList=ds:=by rw [hy,hz45];rfl
     refine ⟨_,rfl,_,_,rfl,by omega,PySem.intText_neg hz45 (by rw [← hyd];exact AD) (by rw [← hyd,hc];simp) (by omega),q1 _ ?_⟩
     unfold ztd
     rw [if_pos hh,← hy,if_neg,hyd]
     rintro (z1 | z1 | z1 | z1)
     ·rw [hc] at z1;simp at z1
     ·exact len30 z1
     ·rw [hd] at z1;cases z1
     ·rw [hc] at z1;simp at z1;exact c48' z1
    ·rw [if_neg hh] at hy
     refine ⟨_,rfl,_,_,rfl,by omega,PySem.intText_digits (by rw [← hy];exact AD) (by rw [← hy,hc];simp) (by omega),q1 _ ?_⟩
     unfold ztd
     rw [if_neg hh,← hy,if_neg]
     rintro (z1 | z1 | z1 | z1)
     ·rw [hc] at z1;simp at z1
     ·exact len30 z1
     ·rw [hd] at z1;cases z1
     ·rw [hc] at z1;simp at z1;exact c48' z1.1
theorem sc_q26:FnScope ["least", "text", "number"] ["least", "text"] (zga zqu):=by walk_at "sc"
theorem zav (T:Txt w K mg A) (G_q7:znr P w K mg B A):zqm P w K mg B A:=by
 have B_q7:=T.b_q7
 refine T.F_q26.okX sc_q26 (λ vs H Q E h=>?_) (λ _ _ _ _ H vs Q E hr h=>?_)
 ·obtain ⟨_,a,⟨rfl,_⟩,_⟩:=h
  rfl
 ·obtain ⟨hp,⟨k,z⟩,⟨hv,hz⟩,q,qe⟩:=h
  obtain rfl:vs=[.int k,.str z]:=hv
  dsimp only at hz
  refine ⟨_,(zba (zza (i:=2) sc_q26.nd rfl (Or.inl rfl) (zha G_q7 (hr.mono (by decide)) rfl T.g_q7 T.k_q7 B_q7 .nil (Wants.passes zia) (zaa (pv 1) zca)))
   (zba (zcb (zja zlr (pv 2) (pv 0) (zqa _)) (zda (zgb T.x_NoText zia rfl rfl T.g_NoText (zaa zma zca))) zka)
   (zda (zna (pv 2))))),?_⟩
  refine ⟨_,rfl,hp,z,rfl,hz,λ n hn=>?_,λ hn=>qe _ _ ⟨rfl,?_⟩ (Same.refl _) hp⟩
  ·refine ⟨_,rfl,_,rfl,_,_,rfl,rfl,_,rfl,znb (λ h1=>?_) (λ h1=>?_)⟩
   ·refine ⟨sz_1,qe _ _ ⟨rfl,?_⟩ (Same.refl _) hp⟩
    unfold zwb
    rw [hn]
    exact if_pos h1
   ·refine ⟨_,rfl,q _ _ ⟨n,rfl,?_⟩ (Same.refl _) hp⟩
    unfold zwb
    rw [hn]
    exact if_neg h1
  ·unfold zwb
   rw [hn]
theorem zhx:FnScope ["window", "count"] ["window", "count"] (zga s_q8):=by walk_at "sc"
theorem zly (T:Txt w K mg A)  : zbu P w K mg B A:=by
 refine T.F_q8.okX zhx (λ vs H Q E h=>?_) (λ _ _ _ _ H vs Q E hr h=>?_)
 ·obtain ⟨_,a,rfl,_⟩:=h
  rfl
 ·obtain ⟨hp,⟨m,n⟩,hv,q,qe⟩:=h
  obtain rfl:vs=[.int m,.int n]:=hv
  dsimp only at q qe
  refine ⟨_,(zda (zcb (PW.pt (zrm (zja zlr (pv 0) zea (zqa _)) (zfh (zja zlr (pv 1) zea (zqa _))))) (zda (zgb T.x_NoText zia rfl rfl T.g_NoText (zaa zma zca))) zka)),?_⟩
  refine ⟨_,rfl,_,_,rfl,rfl,_,rfl,znb (λ h1=>iteT ?_) (λ h1=>⟨_,rfl,_,_,rfl,rfl,_,rfl,znb (λ h2=>?_) (λ h2=>?_)⟩)⟩
  ·exact ⟨by decide,qe _ _ ⟨rfl,.inl h1⟩ (Same.refl _) hp⟩
  ·exact ⟨by decide,qe _ _ ⟨rfl,.inr h2⟩ (Same.refl _) hp⟩
  ·exact q _ _ ⟨by rintro (z | z) <;> contradiction,rfl⟩ (Same.refl _) hp
theorem sc_q4:FnScope ["text", "many", "parts"] ["text", "many"] (zga s_q4):=by walk_at "sc"
theorem zsy (T:Txt w K mg A) (G_q7:znr P w K mg B A):zws P w K mg B A:=by
 have B_q7:=T.b_q7
 refine T.F_q4.okX sc_q4 (λ vs H Q E h=>?_) (λ _ _ _ _ H vs Q E hr h=>?_)
 ·obtain ⟨_,a,⟨rfl,_⟩,_⟩:=h
  rfl
 ·obtain ⟨hp,⟨z,m⟩,⟨hv,hz⟩,q,qe⟩:=h
  obtain rfl:vs=[.str z,.int m]:=hv
  dsimp only at hz
  refine ⟨_,(zba (zza (i:=2) sc_q4.nd rfl (Or.inl rfl) (zqj PySem.F.plainAttrs_str PySem.F.slot_str_split PySem.F.type_str_split zdi (pv 0) (zaa zma zca)))
   (zba (zcb (zja zsr (zfb zjb rfl T.n_len (by decide +kernel) (zaa (pv 2) zca)) (pv 1) (zqa _)) (zda (zgb T.x_NoText zia rfl rfl T.g_NoText (zaa zma zca))) zka)
   (zda (zna (znc _ ["part"] 1 [] zia ⟨⟨_,_,_,rfl,rfl,rfl⟩⟩ rfl (zaj (pv 2)) gk1 (λ _ _ _ _ _=>zpa (i:=0) (show List.Nodup (["part"]:List Str) by decide +kernel) rfl (Or.inl rfl)) (λ _ _ _ _ _=>ztc) (λ _ _ _ _ _ hW=>(zha G_q7 (hr.mono (by decide)) rfl T.g_q7 T.k_q7 B_q7 .nil (Wants.passes hW) (zaa (pv 0) zca)))))))),?_⟩
  refine ⟨_,rfl,rfl,z,_,rfl,rfl,by decide,by omega,λ l hl=>?_⟩
  have hlen:=split_le z "."
  refine ⟨_,rfl,l,_,rfl,.inl (SqL.of upd_same),_,rfl,rfl,_,rfl,ztr (λ hne=>?_) (λ heq=>?_)⟩
  ·rw [List.length_map] at hne
   refine ⟨by decide,qe _ _ ⟨rfl,?_⟩ (zfa hl) hp.lst⟩
   show dotL z m=none
   unfold dotL
   rw [if_neg (λ e=>hne (by rw [e]))]
  ·rw [List.length_map] at heq
   have heq:=V.int.inj heq
   refine ⟨_,rfl,l,rfl,⟨_,SqL.of upd_same⟩,λ D hD=>zjd (n:=((Txt.split z ".").map V.str).length) (λ i=>((Txt.split z ".").map V.str).getD i .non) (λ i y _=>∃ n,y = .int n∧∃ p,(Txt.split z ".")[i]? = some p∧ztd p.cps.toList=some n) hD hp.lst ?_ (zcn (SqL.of upd_same)) (λ _ _ _ _ h _ _=>h) ?_ ?_⟩
   ·rw [List.length_map];exact sm1 ((by omega))
   ·intro i H2 R hi hP2 hs2 hR
    rw [List.length_map] at hi
    have hn:(Txt.split z ".")[i]? = some (Txt.split z ".")[i]:=List.getElem?_eq_getElem hi
    have hm:(Txt.split z ".")[i]∈Txt.split z "." := List.getElem_mem hi
    generalize (Txt.split z ".")[i]=p at hn hm
    have hpz:=part_short hm
    have ev:((Txt.split z ".").map V.str).getD i .non = .str p:=by rw [List.getD_eq_getElem?_getD,List.getElem?_map,hn];rfl
    rw [ev]
    refine ⟨_,rfl,hP2,p,rfl,by omega,λ n hn'=>hR _ _ ⟨n,rfl,p,hn,hn'⟩ (Same.refl _) hP2,λ hnb=>qe _ _ ⟨rfl,?_⟩ ((zfa hl).trans hs2) hP2⟩
    show dotL z m=none
    unfold dotL
    rw [if_pos heq]
    exact zpc hm hnb
   ·intro ys H2 hl2 hr2 hd2 hs2 hP2
    rw [List.length_map] at hl2
    obtain ⟨ns,rfl,hns⟩:=zpl (f:=V.int) (R:=λ i n=>∃ p,(Txt.split z ".")[i]? = some p∧ztd p.cps.toList=some n) hr2
    rw [List.length_map] at hl2
    refine q _ _ ⟨D,ns,rfl,hd2,?_⟩ ((zfa hl).trans hs2) hP2
    show dotL z m=some ns
    unfold dotL
    rw [if_pos heq]
    refine zde hl2.symm λ i p hp=>?_
    have hi:i<ns.length:=by rw [hl2];exact (List.getElem?_eq_some_iff.mp hp).1
    obtain ⟨p',e1,e2⟩:=hns i ns[i] (List.getElem?_eq_getElem hi)
    rw [hp] at e1
    cases e1
    exact ⟨ns[i],List.getElem?_eq_getElem hi,e2⟩
theorem sc_q22:FnScope ["text", "window", "count"] ["text"] (zga zet):=by walk_at "sc"
theorem zfv (T:Txt w K mg A) (G_q8:zbu P w K mg B A) (G_q4:zws P w K mg B A):zwq P w K mg B A:=by
 have B_q8:=T.b_q8
 have B_q4:=T.b_q4
 refine T.F_q22.okX sc_q22 (λ vs H Q E h=>?_) (λ _ _ _ _ H vs Q E hr h=>?_)
 ·obtain ⟨_,a,⟨rfl,_⟩,_⟩:=h
  rfl
 ·obtain ⟨hp,z,⟨rfl,hz⟩,q,qe⟩:=h
  refine ⟨_,(zba (zxe (zha G_q4 (hr.mono (by decide)) rfl T.g_q4 T.k_q4 B_q4 .nil (Wants.passes zia) (zaa (pv 0) (zaa zea zca))) (zmo rfl (zoa (zpa (i:=1) sc_q22.nd rfl (Or.inl rfl)) (zoa (zpa (i:=2) sc_q22.nd rfl (Or.inl rfl)) zac))))
   (zba (zgg (zha G_q8 (hr.mono (by decide)) rfl T.g_q8 T.k_q8 B_q8 .nil (Wants.passes zia) (zaa (pv 1) (zaa (pv 2) zca))))
   (zda (zna (zxa (zaa (pv 1) (zaa (pv 2) zca))))))),?_⟩
  refine ⟨_,rfl,hp,(z,2),⟨rfl,hz⟩,λ v H1 hv hs1 hp1=>?_,λ C H1 hC hs1 hp1=>qe _ _ ⟨hC.1,?_⟩ hs1 hp1⟩
  ·obtain ⟨l,ns,rfl,hl,hd⟩:=hv
   dsimp only at hd
   obtain ⟨a,b,rfl⟩:∃ a b,ns=[a,b]:=znv hd
   refine ⟨l,_,rfl,SqL.of hl,rfl,_,_,rfl,_,_,rfl,rfl,?_⟩
   refine ⟨_,rfl,_,rfl,hp1,(a,b),rfl,λ v H2 hv hs2 hp2=>?_,λ C H2 hC hs2 hp2=>qe _ _ ⟨hC.1,?_⟩ (hs1.trans hs2) hp2⟩
   ·obtain ⟨hno,rfl⟩:=hv
    dsimp only at hno
    refine ⟨_,rfl,_,rfl,sz_2,λ t ht=>q _ _ ⟨t,a,b,rfl,upd_same,?_⟩ ((hs1.trans hs2).upd ((hs1.trans hs2).free ht)) hp2.tup⟩
    unfold zqg
    rw [hd]
    exact if_neg hno
   ·have h2:=hC.2
    dsimp only at h2
    unfold zqg
    rw [hd]
    exact if_pos h2
  ·have hd:dotL z 2=none:=hC.2
   unfold zqg
   rw [hd]
theorem sc_q27:FnScope ["text", "rank", "window", "count"] ["text"] (zga zwt):=by walk_at "sc"
theorem zst (T:Txt w K mg A) (G_q8:zbu P w K mg B A) (G_q4:zws P w K mg B A):zep P w K mg B A:=by
 have B_q8:=T.b_q8
 have B_q4:=T.b_q4
 refine T.F_q27.okX sc_q27 (λ vs H Q E h=>?_) (λ _ _ _ _ H vs Q E hr h=>?_)
 ·obtain ⟨_,a,⟨rfl,_⟩,_⟩:=h
  rfl
 ·obtain ⟨hp,z,⟨rfl,hz⟩,q,qe⟩:=h
  refine ⟨_,(zba (zxe (zha G_q4 (hr.mono (by decide)) rfl T.g_q4 T.k_q4 B_q4 .nil (Wants.passes zia) (zaa (pv 0) (zaa zea zca))) (zmo rfl (zoa (zpa (i:=1) sc_q27.nd rfl (Or.inl rfl)) (zoa (zpa (i:=2) sc_q27.nd rfl (Or.inl rfl)) (zoa (zpa (i:=3) sc_q27.nd rfl (Or.inl rfl)) zac)))))
   (zba (zgg (zha G_q8 (hr.mono (by decide)) rfl T.g_q8 T.k_q8 B_q8 .nil (Wants.passes zia) (zaa (pv 2) (zaa (pv 3) zca))))
   (zda (zna (zxa (zaa (pv 1) (zaa (pv 2) (zaa (pv 3) zca)))))))),?_⟩
  refine ⟨_,rfl,hp,(z,3),⟨rfl,hz⟩,λ v H1 hv hs1 hp1=>?_,λ C H1 hC hs1 hp1=>qe _ _ ⟨hC.1,?_⟩ hs1 hp1⟩
  ·obtain ⟨l,ns,rfl,hl,hd⟩:=hv
   dsimp only at hd
   obtain ⟨r,a,b,rfl⟩:=ztm hd
   refine ⟨l,_,rfl,SqL.of hl,rfl,_,_,rfl,_,_,rfl,_,_,rfl,rfl,?_⟩
   refine ⟨_,rfl,_,rfl,hp1,(a,b),rfl,λ v H2 hv hs2 hp2=>?_,λ C H2 hC hs2 hp2=>qe _ _ ⟨hC.1,?_⟩ (hs1.trans hs2) hp2⟩
   ·obtain ⟨hno,rfl⟩:=hv
    dsimp only at hno
    refine ⟨_,rfl,_,rfl,_,rfl,sz_3,λ t ht=>q _ _ ⟨t,(r,a,b),rfl,upd_same,?_⟩ ((hs1.trans hs2).upd ((hs1.trans hs2).free ht)) hp2.tup⟩
    unfold zlh
    rw [hd]
    exact if_neg hno
   ·have h2:=hC.2
    dsimp only at h2
    unfold zlh
    rw [hd]
    exact if_pos h2
  ·have hd:dotL z 3=none:=hC.2
   unfold zlh
   rw [hd]
theorem zjv:FnScope ["text"] ["text"] (zga zgw):=by walk_at "sc"
theorem zmu (T:Txt w K mg A) (G_q27:zep P w K mg B A):zxp P w K mg B A:=by
 have B_q27:=T.b_q27
 refine T.F_q20.okX zjv (λ vs H Q E h=>?_) (λ _ _ _ _ H vs Q E hr h=>?_)
 ·obtain ⟨_,a,⟨rfl,_⟩,_⟩:=h
  rfl
 ·obtain ⟨hp,z,⟨rfl,hz⟩,q,qe⟩:=h
  refine ⟨_,(zda (zna (zhb zsc rfl T.n_tuple (by decide +kernel) (zaa (znc _ ["part"] 1 [] zia ⟨⟨_,_,_,rfl,rfl,rfl⟩⟩ rfl (zaj (zqj PySem.F.plainAttrs_str PySem.F.slot_str_split PySem.F.type_str_split zdi (pv 0) (zaa zma zca))) gk1 (λ _ _ _ _ _=>zpa (i:=0) (show List.Nodup (["part"]:List Str) by decide +kernel) rfl (Or.inl rfl)) (λ _ _ _ _ _=>ztc) (λ _ _ _ _ _ hW=>(zha G_q27 (hr.mono (by decide)) rfl T.g_q27 T.k_q27 B_q27 .nil (Wants.passes hW) (zaa (pv 0) zca)))) zca)))),?_⟩
  refine ⟨_,rfl,rfl,z,_,rfl,rfl,by decide,by omega,λ l hl=>?_⟩
  have hlen:=split_le z "/"
  refine ⟨l,rfl,⟨_,SqL.of upd_same⟩,λ D hD=>zjd (n:=((Txt.split z "/").map V.str).length) (λ i=>((Txt.split z "/").map V.str).getD i .non) (λ i y H=>∃ s,DV K H (stp s) y∧∃ p,(Txt.split z "/")[i]? = some p∧zlh p=some s) hD hp.lst ?_ (zcn (SqL.of upd_same)) ?_ ?_ ?_⟩
  ·rw [List.length_map];exact sm1 ((by omega))
  ·rintro i y H1 H2 ⟨s,hd,r⟩ k hz
   exact ⟨s,DV.mono k hz _ _ (zmm s) hd,r⟩
  ·intro i H2 R hi hP2 hs2 hR
   rw [List.length_map] at hi
   have hn:(Txt.split z "/")[i]? = some (Txt.split z "/")[i]:=List.getElem?_eq_getElem hi
   have hm:(Txt.split z "/")[i]∈Txt.split z "/" := List.getElem_mem hi
   generalize (Txt.split z "/")[i]=p at hn hm
   have hpz:=part_short hm
   have ev:((Txt.split z "/").map V.str).getD i .non = .str p:=by rw [List.getD_eq_getElem?_getD,List.getElem?_map,hn];rfl
   rw [ev]
   refine ⟨_,rfl,hP2,p,⟨rfl,by omega⟩,λ v H6 hv hs6 hp6=>?_,λ C H6 hC hs6 hp6=>qe _ _ ⟨hC.1,zpc hm hC.2⟩ (((zfa hl).trans hs2).trans hs6) hp6⟩
   obtain ⟨t,s,rfl,ht,hs⟩:=hv
   exact hR _ _ ⟨s,zus (SqT.of ht),p,hn,hs⟩ hs6 hp6
  ·intro ys H2 hl2 hr2 hd2 hs2 hP2
   rw [List.length_map] at hl2
   obtain ⟨ss,hss,hdv,hr⟩:=zek (R:=λ i s=>∃ p,(Txt.split z "/")[i]? = some p∧zlh p=some s) hr2
   refine ⟨D,ys,rfl,.inl ⟨SqL.of hd2,λ t ht=>q _ _ ⟨ss,⟨t,ys,rfl,SqT.of upd_same,DVs.same (zfa ht) _ _ hdv⟩,?_⟩ (((zfa hl).trans hs2).upd (((zfa hl).trans hs2).free ht)) hP2.tup⟩⟩
   unfold zyf
   refine zde (by omega) λ i p hp=>?_
   have hi:i<ss.length:=by
    have:=(List.getElem?_eq_some_iff.mp hp).1
    omega
   obtain ⟨p',e1,e2⟩:=hr i ss[i] (List.getElem?_eq_getElem hi)
   rw [hp] at e1
   cases e1
   exact ⟨ss[i],List.getElem?_eq_getElem hi,e2⟩
theorem zdy:FnScope ["beat"] ["beat"] (zga s_q6):=by walk_at "sc"
theorem zdx (T:Txt w K mg A)  : zrw P w K mg B A:=by
 refine T.F_q6.okN zdy (λ vs H Q E h=>?_) (λ _ _ _ _ H vs Q E hr h=>?_)
 ·obtain ⟨_,a,rfl,_⟩:=h
  rfl
 ·obtain ⟨hp,b,rfl,q,_⟩:=h
  refine ⟨_,(zda (zna (zxa (zaa (pv 0) (zaa (zxa zca) (zaa zma zca)))))),?_⟩
  refine ⟨_,rfl,sz_0,λ te hp1=>?_⟩
  generalize hH1:upd H te (HO.tup _)=H1
  have s1:Same H H1:=hH1 ▸ zfa hp1
  have P1:Plain H1:=hH1 ▸ hp.tup
  have h1:=(congrFun hH1 te).symm.trans upd_same
  refine ⟨sz_3,λ t hp2=>?_⟩
  generalize hH2:upd H1 t (HO.tup _)=H2
  have s2:Same H1 H2:=hH2 ▸ zfa hp2
  have P2:Plain H2:=hH2 ▸ P1.tup
  have h2:=(congrFun hH2 t).symm.trans upd_same
  exact q _ _ (zko (v:=(b,[], "")) (SqT.of h2) (DV.same s2 _ _ (zhj h1))) (s1.trans s2) P2
theorem sc_q3:FnScope ["text", "beat_text", "blank", "rest", "beat", "where", "words", "place"] ["text"] (zga s_q3):=by walk_at "sc"
theorem zfx (T:Txt w K mg A) (G_q34:zqn P w K mg B A) (G_q26:zqm P w K mg B A) (G_q20:zxp P w K mg B A) (G_q6:zrw P w K mg B A):zlw P w K mg B A:=by
 have B_q34:=T.b_q34
 have B_q26:=T.b_q26
 have B_q20:=T.b_q20
 have B_q6:=T.b_q6
 obtain ⟨t_OUT,g_OUT⟩:=T.u_OUT
 refine T.F_q3.okX sc_q3 (λ vs H Q E h=>?_) (λ _ _ _ _ H vs Q E hr h=>?_)
 ·obtain ⟨_,a,⟨rfl,_⟩,_⟩:=h
  rfl
 ·obtain ⟨hp,z,⟨rfl,hz⟩,q,qe⟩:=h
  refine ⟨_,(zba (zxe (zqj PySem.F.plainAttrs_str PySem.F.slot_str_partition PySem.F.type_str_partition zdc (pv 0) (zaa zma zca)) (zgf rfl (zoa (zpa (i:=1) sc_q3.nd rfl (Or.inl rfl)) (zoa (zpa (i:=2) sc_q3.nd rfl (Or.inl rfl)) (zoa (zpa (i:=3) sc_q3.nd rfl (Or.inl rfl)) zac)))))
   (zba (zza (i:=4) sc_q3.nd rfl (Or.inl rfl) (zha G_q26 (hr.mono (by decide)) rfl T.g_q26 T.k_q26 B_q26 .nil (Wants.passes zia) (zaa zea (zaa (pv 1) zca))))
   (zba (zcb (zja zqb (pv 3) (zdb (v := .str "-") rfl g_OUT ⟨t_OUT,rfl⟩) (zqa _)) (zda (zna (zha G_q6 (hr.mono (by decide)) rfl T.g_q6 T.k_q6 B_q6 .nil zxb (zaa (pv 4) zca)))) zka)
   (zba (zxe (zqj PySem.F.plainAttrs_str PySem.F.slot_str_partition PySem.F.type_str_partition zdc (pv 3) (zaa zma zca)) (zgf rfl (zoa (zpa (i:=5) sc_q3.nd rfl (Or.inl rfl)) (zoa (zpa (i:=2) sc_q3.nd rfl (Or.inl rfl)) (zoa (zpa (i:=6) sc_q3.nd rfl (Or.inl rfl)) zac)))))
   (zba (zza (i:=7) sc_q3.nd rfl (Or.inl rfl) (zha G_q20 (hr.mono (by decide)) rfl T.g_q20 T.k_q20 B_q20 .nil (Wants.passes zia) (zaa (pv 5) zca)))
   (zba (zcb (PW.pt (zrm (zja zqb (pv 2) zma (zqa _)) (zfh (zle (zld (zha G_q34 (hr.mono (by decide)) rfl T.g_q34 T.k_q34 B_q34 .nil zxb (zaa (pv 6) zca))))))) (zda (zgb T.x_NoText zia rfl rfl T.g_NoText (zaa zma zca))) zka)
   (zda (zna (zxa (zaa (pv 4) (zaa (pv 7) (zaa (pv 6) zca)))))))))))),?_⟩
  have f1:=fact_partition z " "
  have vn:=zie (z:=z)
  have vo:=λ b=>ztj (z:=z) (b:=b)
  have vi:=λ b=>zlm (z:=z) (b:=b)
  refine ⟨_,rfl,rfl,z,_,rfl,rfl,by decide,by omega,λ t1 hp1=>?_⟩
  generalize Txt.partition z " " = pt at f1 vn vo vi ⊢
  obtain ⟨a,bl,r⟩:=pt
  dsimp only at f1 vn vo vi ⊢
  generalize hH1:upd H t1 (HO.tup _)=H1
  have s1:Same H H1:=hH1 ▸ zfa hp1
  have P1:Plain H1:=hH1 ▸ hp.tup
  have h1:=(congrFun hH1 t1).symm.trans upd_same
  refine ⟨t1,_,rfl,SqT.of h1,rfl,_,_,rfl,_,_,rfl,_,_,rfl,rfl,?_⟩
  refine ⟨_,rfl,P1,(1,a),⟨rfl,by show a.length≤640;omega⟩,λ v H2 hv s2 P2=>?_,λ C H2 hC s2 P2=>qe _ _ ⟨hC.1,vn hC.2⟩ (s1.trans s2) P2⟩
  obtain ⟨b,rfl,hb⟩:=hv
  have S2:=s1.trans s2
  refine ⟨_,rfl,rfl,_,rfl,znb (λ he=>?_) (λ he=>?_)⟩
  ·refine ⟨_,rfl,P2,b,rfl,λ v H3 hv s3 P3=>q _ _ ⟨_,hv,vo b hb (V.str.inj he)⟩ (S2.trans s3) P3,λ _ _ h=>h.elim⟩
  have vi:=vi b hb (λ e=>he (by rw [e]))
  have f2:=fact_partition r " "
  unfold zzq at vi
  refine ⟨_,rfl,rfl,r,_,rfl,rfl,by decide,by omega,λ t3 hp3=>?_⟩
  generalize Txt.partition r " " = pt at f2 vi ⊢
  obtain ⟨p,bl2,w⟩:=pt
  dsimp only at f2 vi ⊢
  generalize hH3:upd H2 t3 (HO.tup _)=H3
  have s3:Same H2 H3:=hH3 ▸ zfa hp3
  have P3:Plain H3:=hH3 ▸ P2.tup
  have h3:=(congrFun hH3 t3).symm.trans upd_same
  have S3:=S2.trans s3
  refine ⟨t3,_,rfl,SqT.of h3,rfl,_,_,rfl,_,_,rfl,_,_,rfl,rfl,?_⟩
  refine ⟨_,rfl,P3,p,⟨rfl,by omega⟩,λ v H4 hv s4 P4=>?_,λ C H4 hC s4 P4=>qe _ _ ⟨hC.1,by rw [vi,hC.2]⟩ (S3.trans s4) P4⟩
  obtain ⟨ss,hd,hpl⟩:=hv
  rw [hpl] at vi
  dsimp only at vi
  have S4:=S3.trans s4
  have no:(bl2 = "" ∨ zyb w=false)→∀ H5,Same H4 H5→Plain H5→E (.ref A.NoText) none H5:=λ h H5 s5 P5=>qe _ _ ⟨rfl,by rw [vi];exact if_pos h⟩ (S4.trans s5) P5
  refine ⟨_,rfl,rfl,_,rfl,znb (λ h1=>iteT ?_) (λ h1=>?_)⟩
  ·exact ⟨sz_1,no (.inl (V.str.inj h1)) _ (Same.refl _) P4⟩
  refine ⟨_,rfl,P4,w,rfl,λ v hv=>⟨_,hv,?_⟩⟩
  cases hw:zyb w with
  | false=>exact iteT ⟨sz_1,no (.inr hw) _ (Same.refl _) P4⟩
  | true =>
   refine iteF ⟨_,rfl,_,rfl,_,rfl,sz_3,λ t5 hp5=>?_⟩
   generalize hH5:upd H4 t5 (HO.tup _)=H5
   have s5:Same H4 H5:=hH5 ▸ zfa hp5
   have P5:Plain H5:=hH5 ▸ P4.tup
   have h5:=(congrFun hH5 t5).symm.trans upd_same
   refine q _ _ ⟨(b,ss,w),zko (v:=(b,ss,w)) (SqT.of h5) (DV.same s5 _ _ hd),?_⟩ (S4.trans s5) P5
   rw [vi]
   exact if_neg λ h=>h.elim (λ e=>h1 (by rw [e])) λ e=>by rw [hw] at e;cases e
theorem zev:FnScope ["text"] ["text"] (zga znu):=by walk_at "sc"
theorem zyu (T:Txt w K mg A) (G_q34:zqn P w K mg B A):zdr P w K mg B A:=by
 have B_q34:=T.b_q34
 refine T.F_q16.okX zev (λ vs H Q E h=>?_) (λ _ _ _ _ H vs Q E hr h=>?_)
 ·obtain ⟨_,a,⟨rfl,_⟩,_⟩:=h
  rfl
 ·obtain ⟨hp,z,rfl,q,qe⟩:=h
  refine ⟨_,(zba (zcb (zle (zld (zha G_q34 (hr.mono (by decide)) rfl T.g_q34 T.k_q34 B_q34 .nil zxb (zaa (pv 0) zca)))) (zda (zgb T.x_NoText zia rfl rfl T.g_NoText (zaa zma zca))) zka)
   (zda (zna (pv 0)))),?_⟩
  refine ⟨_,rfl,hp,z,rfl,λ v hv=>⟨_,hv,?_⟩⟩
  cases hw:zyb z with
  | false=>exact iteT ⟨sz_1,qe _ _ ⟨rfl,hw⟩ (Same.refl _) hp⟩
  | true=>exact iteF ⟨_,rfl,q _ _ ⟨rfl,hw⟩ (Same.refl _) hp⟩
theorem zlx:FnScope ["text"] ["text"] (zga s_q5):=by walk_at "sc"
theorem zcx (T:Txt w K mg A)  : zww P w K mg B A:=by
 refine T.F_q5.okX zlx (λ vs H Q E h=>?_) (λ _ _ _ _ H vs Q E hr h=>?_)
 ·obtain ⟨_,a,⟨rfl,_⟩,_⟩:=h
  rfl
 ·obtain ⟨hp,z,rfl,q,qe⟩:=h
  refine ⟨_,(zba (zcb (zja zpd (pv 0) (zdb (v := .ref A.CHOICES) rfl T.g_CHOICES rfl) (by rfl)) (zda (zgb T.x_NoText zia rfl rfl T.g_NoText (zaa zma zca))) zka)
   (zda (zna (pv 0)))),?_⟩
  refine ⟨_,rfl,A.CHOICES,_,rfl,.inr (T.t_CHOICES _),rfl,rfl,_,rfl,?_⟩
  show if (!inV (.str z) ((["stay", "turn", "both"]:List Str).map V.str))=true then _ else _
  rw [zme]
  by_cases hm:z∈(["stay", "turn", "both"]:List Str)
  ·rw [decide_eq_true hm]
   exact iteF ⟨_,rfl,q _ _ ⟨rfl,hm⟩ (Same.refl _) hp⟩
  ·rw [decide_eq_false hm]
   exact iteT ⟨sz_1,qe _ _ ⟨rfl,hm⟩ (Same.refl _) hp⟩
theorem zgu:FnScope ["kind", "text"] ["kind", "text"] (zga zyv):=by walk_at "sc"
theorem zkw (T:Txt w K mg A) (G_q7:znr P w K mg B A) (G_q26:zqm P w K mg B A) (G_q22:zwq P w K mg B A) (G_q3:zlw P w K mg B A) (G_q16:zdr P w K mg B A) (G_q5:zww P w K mg B A):zlo P w K mg B A:=by
 have B_q7:=T.b_q7
 have B_q26:=T.b_q26
 have B_q22:=T.b_q22
 have B_q3:=T.b_q3
 have B_q16:=T.b_q16
 have B_q5:=T.b_q5
 obtain ⟨t_HEAD_OF_ALL,g_HEAD_OF_ALL⟩:=T.u_HEAD_OF_ALL
 refine T.F_q21.okX zgu (λ vs H Q E h=>?_) (λ _ _ _ _ H vs Q E hr h=>?_)
 ·obtain ⟨_,a,⟨rfl,_⟩,_⟩:=h
  rfl
 ·obtain ⟨hp,⟨k,z⟩,⟨hv,hz,hk⟩,q,qe⟩:=h
  obtain rfl:vs=[.str k,.str z]:=hv
  dsimp only at hz hk
  refine ⟨_,(zba (zcb (zja zqb (pv 0) zma (zqa _)) (zda (zna (zha G_q22 (hr.mono (by decide)) rfl T.g_q22 T.k_q22 B_q22 .nil (Wants.passes zia) (zaa (pv 1) zca)))) zka)
   (zba (zcb (zja zqb (pv 0) zma (zqa _)) (zda (zna (ztf (zja zqb (pv 1) (zdb (v := .str "-") rfl g_HEAD_OF_ALL ⟨t_HEAD_OF_ALL,rfl⟩) (zqa _)) zpe (zha G_q22 (hr.mono (by decide)) rfl T.g_q22 T.k_q22 B_q22 .nil (Wants.passes zia) (zaa (pv 1) zca))))) zka)
   (zba (zcb (zja zqb (pv 0) zma (zqa _)) (zda (zna (zha G_q3 (hr.mono (by decide)) rfl T.g_q3 T.k_q3 B_q3 .nil (Wants.passes zia) (zaa (pv 1) zca)))) zka)
   (zba (zcb (zja zqb (pv 0) zma (zqa _)) (zda (zna (zha G_q16 (hr.mono (by decide)) rfl T.g_q16 T.k_q16 B_q16 .nil (Wants.passes zia) (zaa (pv 1) zca)))) zka)
   (zba (zcb (zja zqb (pv 0) zma (zqa _)) (zda (zna (zha G_q5 (hr.mono (by decide)) rfl T.g_q5 T.k_q5 B_q5 .nil (Wants.passes zia) (zaa (pv 1) zca)))) zka)
   (zba (zcb (zja zqb (pv 0) zma (zqa _)) (zda (zna (zha G_q7 (hr.mono (by decide)) rfl T.g_q7 T.k_q7 B_q7 .nil (Wants.passes zia) (zaa (pv 1) zca)))) zka)
   (zda (zna (zha G_q26 (hr.mono (by decide)) rfl T.g_q26 T.k_q26 B_q26 .nil (Wants.passes zia) (zaa (zrd (ix_C T.t_LEAST) (zdb (v := .ref A.LEAST) rfl T.g_LEAST rfl) (pv 0) (λ _ _=>rfl)) (zaa (pv 1) zca))))))))))),?_⟩
  refine ⟨_,rfl,rfl,_,rfl,znb (λ e=>?_) (λ n_mark=>?_)⟩
  ·obtain rfl:=V.str.inj e
   have fl:=zul z
   refine ⟨_,rfl,hp,z,⟨rfl,hz⟩,λ v H1 hv s1 P1=>?_,λ C H1 hC s1 P1=>qe _ _ ⟨hC.1,by dsimp only;rw [fl,hC.2];rfl⟩ s1 P1⟩
   obtain ⟨t,a,b,rfl,ht,hm⟩:=hv
   exact q _ _ ⟨markD (a,b),zpo (m:=(a,b)) (SqT.of ht),by dsimp only;rw [fl,hm];rfl⟩ s1 P1
  refine ⟨_,rfl,rfl,_,rfl,znb (λ e=>?_) (λ n_behind=>?_)⟩
  ·obtain rfl:=V.str.inj e
   have fl:=zjg z
   refine ⟨_,rfl,rfl,_,rfl,znb (λ h1=>?_) (λ h1=>?_)⟩
   ·exact q _ _ ⟨.none,rfl,by dsimp only;rw [fl,if_pos (V.str.inj h1)]⟩ (Same.refl _) hp
   rw [if_neg (λ x=>h1 (congrArg V.str x))] at fl
   refine ⟨_,rfl,hp,z,⟨rfl,hz⟩,λ v H1 hv s1 P1=>?_,λ C H1 hC s1 P1=>qe _ _ ⟨hC.1,by dsimp only;rw [fl,hC.2];rfl⟩ s1 P1⟩
   obtain ⟨t,a,b,rfl,ht,hm⟩:=hv
   exact q _ _ ⟨markD (a,b),zpo (m:=(a,b)) (SqT.of ht),by dsimp only;rw [fl,hm];rfl⟩ s1 P1
  refine ⟨_,rfl,rfl,_,rfl,znb (λ e=>?_) (λ n_version=>?_)⟩
  ·obtain rfl:=V.str.inj e
   have fl:=zff z
   refine ⟨_,rfl,hp,z,⟨rfl,hz⟩,λ v H1 hv s1 P1=>?_,λ C H1 hC s1 P1=>qe _ _ ⟨hC.1,by dsimp only;rw [fl,hC.2];rfl⟩ s1 P1⟩
   obtain ⟨x,hx,hm⟩:=hv
   exact q _ _ ⟨ver x,hx,by dsimp only;rw [fl,hm];rfl⟩ s1 P1
  refine ⟨_,rfl,rfl,_,rfl,znb (λ e=>?_) (λ n_words=>?_)⟩
  ·obtain rfl:=V.str.inj e
   have fl:=zzh z
   refine ⟨_,rfl,hp,z,rfl,λ v H1 hv s1 P1=>?_,λ C H1 hC s1 P1=>qe _ _ ⟨hC.1,by dsimp only;rw [fl,hC.2];rfl⟩ s1 P1⟩
   obtain ⟨rfl,hm⟩:=hv
   exact q _ _ ⟨.str z,rfl,by dsimp only;rw [fl,hm];rfl⟩ s1 P1
  refine ⟨_,rfl,rfl,_,rfl,znb (λ e=>?_) (λ n_choice=>?_)⟩
  ·obtain rfl:=V.str.inj e
   have fl:=zng z
   refine ⟨_,rfl,hp,z,rfl,λ v H1 hv s1 P1=>?_,λ C H1 hC s1 P1=>qe _ _ ⟨hC.1,by dsimp only;rw [fl,if_neg hC.2]⟩ s1 P1⟩
   obtain ⟨rfl,hm⟩:=hv
   exact q _ _ ⟨.str z,rfl,by dsimp only;rw [fl,if_pos hm]⟩ s1 P1
  refine ⟨_,rfl,rfl,_,rfl,znb (λ e=>?_) (λ n_many=>?_)⟩
  ·obtain rfl:=V.str.inj e
   have fl:=zhm z
   refine ⟨_,rfl,hp,z,rfl,hz,λ n hn=>?_,λ hn=>qe _ _ ⟨rfl,by dsimp only;rw [fl,hn];rfl⟩ (Same.refl _) hp⟩
   exact q _ _ ⟨.int n,rfl,by dsimp only;rw [fl,hn];rfl⟩ (Same.refl _) hp
  have hk5:k∈(["beat", "window", "clash", "save", "count"]:List Str):=by
   have al:∀ x∈zjr,x = "mark" ∨ x = "behind" ∨ x = "version" ∨ x = "words" ∨ x = "choice" ∨ x = "many" ∨ x∈(["beat", "window", "clash", "save", "count"]:List Str):=by decide +kernel
   rcases al k hk with e | e | e | e | e | e | e
   ·exact absurd (congrArg V.str e) n_mark
   ·exact absurd (congrArg V.str e) n_behind
   ·exact absurd (congrArg V.str e) n_version
   ·exact absurd (congrArg V.str e) n_words
   ·exact absurd (congrArg V.str e) n_choice
   ·exact absurd (congrArg V.str e) n_many
   ·exact e
  have fl:=zbj hk5 z
  have at_k:∃ t,valueAt ([("beat",Value.int 1 A.v_LEAST_beat),("window",Value.int 1 A.v_LEAST_window),("clash",Value.int 1 A.v_LEAST_clash),("save",Value.int 0 A.v_LEAST_save),("count",Value.int 0 A.v_LEAST_count)]:List (Str×Value)) k=some (.int (zfc k) t):=by
   simp only [List.mem_cons,List.not_mem_nil,or_false] at hk5
   rcases hk5 with rfl | rfl | rfl | rfl | rfl <;> exact ⟨_,rfl⟩
  obtain ⟨tk,hat⟩:=at_k
  refine ⟨_,rfl,rfl,k,_,.int (zfc k),rfl,hat,rfl,_,rfl,hp,(zfc k,z),⟨rfl,hz⟩,λ v H1 hv s1 P1=>?_,λ C H1 hC s1 P1=>qe _ _ ⟨hC.1,by dsimp only at hC ⊢;rw [fl,hC.2];rfl⟩ s1 P1⟩
  obtain ⟨n,rfl,hn⟩:=hv
  dsimp only at hn
  exact q _ _ ⟨.int n,rfl,by dsimp only;rw [fl,hn];rfl⟩ s1 P1
theorem sc_q32:FnScope ["row", "shape", "word", "fields"] ["row"] (zga zkv):=by walk_at "sc"
theorem zpv (T:Txt w K mg A) (G_q21:zlo P w K mg B A):zvo P w K mg B A:=by
 have B_q21:=T.b_q21
 refine T.F_q32.okX sc_q32 (λ vs H Q E h=>?_) (λ _ _ _ _ H vs Q E hr h=>?_)
 ·obtain ⟨_,a,⟨rfl,_⟩,_⟩:=h
  rfl
 ·obtain ⟨hp,z,⟨rfl,hz⟩,q,qe⟩:=h
  refine ⟨_,(zba (zza (i:=1) sc_q32.nd rfl (Or.inl rfl) (ziq T.t_SHAPES T.y_SHAPES (zdb (v := .ref A.SHAPES) rfl T.g_SHAPES rfl) (λ _ _ _ h=>h) (zrd zmb (zqj PySem.F.plainAttrs_str PySem.F.slot_str_partition PySem.F.type_str_partition zdc (pv 0) (zaa zma zca)) zea (λ _ _=>rfl))))
   (zba (zcb (zja zdl (pv 1) zpe (zqa _)) (zda (zgb T.x_NoText zia rfl rfl T.g_NoText (zaa zma zca))) zka)
   (zba (zxe (zqj PySem.F.plainAttrs_str PySem.F.slot_str_split PySem.F.type_str_split zll (pv 0) (zaa zma (zaa (zfb zjb rfl T.n_len (by decide +kernel) (zaa (pv 1) zca)) zca))) (zgp rfl (zoa (zpa (i:=2) sc_q32.nd rfl (Or.inl rfl)) (zkn (zpa (i:=3) sc_q32.nd rfl (Or.inl rfl))))))
   (zba (zcb (zja zsr (zfb zjb rfl T.n_len (by decide +kernel) (zaa (pv 3) zca)) (zfb zjb rfl T.n_len (by decide +kernel) (zaa (pv 1) zca)) (zqa _)) (zda (zgb T.x_NoText zia rfl rfl T.g_NoText (zaa zma zca))) zka)
   (zda (zna (zxa (zaa (pv 2) (zaa (zhb zsc rfl T.n_tuple (by decide +kernel) (zaa (znc _ ["kind", "field"] 2 [] zia ⟨⟨_,_,_,rfl,rfl,rfl⟩⟩ rfl (zlq true false rfl T.n_zip (by decide +kernel) (zaa (pv 1) (zaa (pv 3) zca))) gk2 (λ _ _ _ _ _=>zgf rfl (zoa (zpa (i:=0) (show List.Nodup (["kind", "field"]:List Str) by decide +kernel) rfl (Or.inl rfl)) (zoa (zpa (i:=1) (show List.Nodup (["kind", "field"]:List Str) by decide +kernel) rfl (Or.inl rfl)) zac))) (λ _ _ _ _ _=>ztc) (λ _ _ _ _ _ hW=>(zha G_q21 (hr.mono (by decide)) rfl T.g_q21 T.k_q21 B_q21 .nil (Wants.passes hW) (zaa (pv 0) (zaa (pv 1) zca))))) zca)) zca))))))))),?_⟩
  refine ⟨_,rfl,rfl,z,_,rfl,rfl,by decide,by omega,λ t1 hp1=>?_⟩
  generalize hH1:upd H t1 (HO.tup _)=H1
  have s1:Same H H1:=hH1 ▸ zfa hp1
  have P1:Plain H1:=hH1 ▸ hp.tup
  have h1:=(congrFun hH1 t1).symm.trans upd_same
  refine ⟨_,_,_,_,rfl,rfl,SqT.of h1,rfl,_,rfl,?_⟩
  have rl:rowL z=rowL z:=rfl
  conv at rl=>rhs;unfold rowL
  rcases zji T H1 (Txt.partition z " ").1 with ⟨e1,e2⟩ | ⟨a,ks,e1,e2,hks,⟨k1,k4⟩,hkk⟩
  ·rw [e2] at rl
   refine .inl ⟨e1,?_⟩
   exact ⟨_,rfl,rfl,_,rfl,zqi rfl ⟨sz_1,qe _ _ ⟨rfl,rl⟩ s1 P1⟩⟩
  rw [e2] at rl
  dsimp only at rl
  refine .inr ⟨_,_,e1,rfl,?_⟩
  refine ⟨_,rfl,rfl,_,rfl,zzd (by intro x;cases x) ?_⟩
  obtain ⟨wd,fs,hc⟩:=zaq z ks.length
  rw [hc] at rl
  dsimp only at rl
  have hsh:∀ p∈wd::fs,p.length≤z.length:=λ p hp=>zlj (z:=z) (n:=ks.length) (by rw [hc];exact hp)
  refine ⟨_,rfl,rfl,_,rfl,a,_,rfl,.inr hks,z,32,(ks.map V.str).length,rfl,rfl,by omega,by rw [List.length_map];omega,λ l hp2=>?_⟩
  rw [show cutK 32 (Txt.split z ⟨#[32]⟩) (ks.map V.str).length=wd::fs by rw [List.length_map];exact hc]
  generalize hH2:upd H1 l (HO.lst _)=H2
  have s2:Same H1 H2:=hH2 ▸ zfa hp2
  have P2:Plain H2:=hH2 ▸ P1.lst
  have h2:=(congrFun hH2 l).symm.trans upd_same
  refine ⟨l,.str wd,fs.map V.str,rfl,SqL.of h2,λ D hp3=>?_⟩
  generalize hH3:upd H2 D (HO.lst _)=H3
  have s3:Same H2 H3:=hH3 ▸ zfa hp3
  have P3:Plain H3:=hH3 ▸ P2.lst
  have h3:=(congrFun hH3 D).symm.trans upd_same
  refine ⟨_,_,rfl,_,_,rfl,rfl,?_⟩
  refine ⟨_,rfl,D,_,rfl,.inl (SqL.of h3),_,rfl,a,_,rfl,.inr ((s2.trans s3).seqT hks),rfl,_,rfl,ztr (λ hne=>?_) (λ heq=>?_)⟩
  ·rw [List.length_map,List.length_map] at hne
   refine ⟨sz_1,qe _ _ ⟨rfl,by rw [rl,if_neg (λ e=>hne (by rw [e]))]⟩ ((s1.trans s2).trans s3) P3⟩
  rw [List.length_map,List.length_map] at heq
  have heq:fs.length=ks.length:=by have:=V.int.inj heq;omega
  rw [if_pos heq] at rl
  have S3:=(s1.trans s2).trans s3
  have hk3:SqA true K H3 a (ks.map V.str):=(s2.trans s3).seqT hks
  refine ⟨_,rfl,_,rfl,_,rfl,a,D,rfl,⟨_,hk3⟩,⟨_,SqL.of h3⟩,λ L hL=>zuh (b:=true) (xs:=ks.map V.str) (ys:=fs.map V.str) (λ i y H=>∃ k f d,ks[i]? = some k∧fs[i]? = some f∧zbb k f=some d∧DV K H d y) hL P3 hk3 (SqL.of h3) ?_ ?_ ?_ ?_ ?_⟩
  ·rw [List.length_map];exact sm1 ((by omega))
  ·rw [List.length_map,List.length_map,heq]
  ·rintro i y H5 H6 ⟨k,f,d,g1,g2,g3,g4⟩ hb hz'
   exact ⟨k,f,d,g1,g2,g3,DV.mono hb hz' d y (zku g3) g4⟩
  ·intro i x y H5 T' R hx hy P5 S5 hT hR
   rw [List.getElem?_map] at hx hy
   obtain ⟨k,hk,rfl⟩:=Option.map_eq_some_iff.mp hx
   obtain ⟨f,hf,rfl⟩:=Option.map_eq_some_iff.mp hy
   have hfz:=hsh f (List.mem_cons_of_mem _ (List.mem_of_getElem? hf))
   refine ⟨T',_,rfl,SqT.of upd_same,rfl,_,_,rfl,_,_,rfl,rfl,?_⟩
   refine ⟨_,rfl,_,rfl,P5.tup,(k,f),⟨rfl,by show f.length≤640;omega,hkk k (List.mem_of_getElem? hk)⟩,λ v H7 hv s7 P7=>?_,λ C H7 hC s7 P7=>qe _ _ ⟨hC.1,?_⟩ (S3.trans (S5.trans ((zfa hT).trans s7))) P7⟩
   ·obtain ⟨d,g1,g2⟩:=hv
    exact hR _ _ ⟨k,f,d,hk,hf,g2,g1⟩ ((zfa hT).trans s7) P7
   ·have hm:(k,f)∈ks.zip fs:=List.mem_of_getElem? (i:=i) (List.getElem?_zip_eq_some.mpr ⟨hk,hf⟩)
    rw [rl,zpc (f:=λ p:Str×Str=>zbb p.1 p.2) hm hC.2]
    rfl
  ·intro vs H5 hl5 hr5 hd5 S5 P5
   rw [List.length_map] at hl5
   obtain ⟨ds,hds,hdv⟩:=zfr (K:=K) (H:=H5) (f:=λ p:Str×Str=>zbb p.1 p.2) (xs:=ks.zip fs) (ys:=vs) (by rw [List.length_zip,hl5];omega) λ i y hy=>by
    obtain ⟨k,f,d,g1,g2,g3,g4⟩:=hr5 i y hy
    exact ⟨(k,f),d,List.getElem?_zip_eq_some.mpr ⟨g1,g2⟩,g3,g4⟩
   refine ⟨L,vs,rfl,.inl ⟨SqL.of hd5,λ t6 hp6=>?_⟩⟩
   generalize hH6:upd H5 t6 (HO.tup _)=H6
   have s6:Same H5 H6:=hH6 ▸ zfa hp6
   have P6:Plain H6:=hH6 ▸ P5.tup
   have h6:=(congrFun hH6 t6).symm.trans upd_same
   refine ⟨sz_2,λ t7 hp7=>?_⟩
   generalize hH7:upd H6 t7 (HO.tup _)=H7
   have s7:Same H6 H7:=hH7 ▸ zfa hp7
   have P7:Plain H7:=hH7 ▸ P6.tup
   have h7:=(congrFun hH7 t7).symm.trans upd_same
   exact q _ _ ⟨wd,ds,⟨t7,_,rfl,SqT.of h7,_,_,rfl,rfl,_,_,rfl,⟨t6,vs,rfl,SqT.of (s7 _ _ h6),DVs.same (s6.trans s7) _ _ hdv⟩,rfl⟩,by rw [rl,hds];rfl⟩ (S3.trans (S5.trans (s6.trans s7))) P7
theorem sc_q0:FnScope ["row", "word", "values"] ["row"] (zga s_q0):=by walk_at "sc"
theorem zox (T:Txt w K mg A) (G_q32:zvo P w K mg B A):zzr P w K mg B A:=by
 have B_q32:=T.b_q32
 refine T.F_q0.okX sc_q0 (λ vs H Q E h=>?_) (λ _ _ _ _ H vs Q E hr h=>?_)
 ·obtain ⟨_,a,⟨rfl,_⟩,_⟩:=h
  rfl
 ·obtain ⟨hp,z,⟨rfl,hz⟩,q,qe⟩:=h
  refine ⟨_,(zba (zxe (zha G_q32 (hr.mono (by decide)) rfl T.g_q32 T.k_q32 B_q32 .nil (Wants.passes zia) (zaa (pv 0) zca)) (zgf rfl (zoa (zpa (i:=1) sc_q0.nd rfl (Or.inl rfl)) (zoa (zpa (i:=2) sc_q0.nd rfl (Or.inl rfl)) zac))))
   (zba (zcb (zja (zro T.t_DEEDS T.y_DEEDS) (pv 1) (zdb (v := .ref A.DEEDS) rfl T.g_DEEDS rfl) (by rfl)) (zda (zna (zxa (zaa zma (zaa (zrd zmb (pv 2) zea (λ _ _=>rfl)) (zaa (zra zrg (zxa (zaa (pv 1) zca)) (zbc zcf (pv 2) (zsd zea) zbd)) zca)))))) zka)
   (zba (zcb (zja zpd (pv 1) (zdb (v := .ref A.NOTES) rfl T.g_NOTES rfl) (by rfl)) (zda (zgb T.x_NoText zia rfl rfl T.g_NoText (zaa zma zca))) zka)
   (zda (zna (zra zrg (zxa (zaa (pv 1) zca)) (pv 2))))))),?_⟩
  refine ⟨_,rfl,hp,z,⟨rfl,hz⟩,λ v H1 hv s1 P1=>?_,λ C H1 hC s1 P1=>qe _ _ ⟨hC.1,by unfold zcj;rw [hC.2];rfl⟩ s1 P1⟩
  obtain ⟨wd,ds,hdv,hr⟩:=hv
  obtain ⟨t,x,rfl,ht,hx⟩:=zjq (r:=(wd,ds)) hdv
  obtain ⟨tq,xs,rfl,hq,hds⟩:=id hx
  have hd1:=zzn hr
  have hd4:ds.length≤4:=zup hr
  have sl:zcj z=ztp (wd,ds):=by unfold zcj;rw [hr];rfl
  unfold ztp at sl
  dsimp only at sl
  obtain ⟨d0,ds,rfl⟩:∃ d0 dr,ds=d0::dr:=by
   cases ds with
   | nil=>exact absurd hd1 (by decide)
   | cons a b=>exact ⟨a,b,rfl⟩
  obtain ⟨x0,xr,rfl,hx0,hxr⟩:=id hds
  have hxl:xr.length≤3:=by rw [hxr.length];simp at hd4;omega
  refine ⟨t,_,rfl,ht,rfl,_,_,rfl,_,_,rfl,rfl,?_⟩
  refine ⟨_,rfl,rfl,wd,rfl,_,rfl,?_⟩
  rw [zqd]
  show if decide (wd∈DDS)=true then _ else _
  refine znb (λ hin=>?_) (λ hin=>?_)
  ·rw [if_pos hin] at sl
   refine ⟨_,rfl,tq,_,_,x0,rfl,rfl,hq,at0,_,rfl,sz_1,λ t2 hp2=>?_⟩
   generalize hH2:upd H1 t2 (HO.tup _)=H2
   have s2:Same H1 H2:=hH2 ▸ zfa hp2
   have P2:Plain H2:=hH2 ▸ P1.tup
   have h2:=(congrFun hH2 t2).symm.trans upd_same
   refine ⟨_,rfl,_,rfl,tq,_,rfl,s2.seqT hq,λ t3 H3 ht3 s3 p3=>?_⟩
   rw [show cutV (x0::xr) (some 1) none=xr by rw [zkd (by decide)];rfl] at ht3
   refine ⟨t2,t3,_,_,rfl,rfl,SqT.of (s3 _ _ h2),ht3,sm1 ((by show 1+xr.length≤1000;omega)),λ t4 H4 ht4 s4 p4=>?_⟩
   have P4:=p4 (p3 P2)
   refine ⟨sz_3,λ t5 hp5=>?_⟩
   generalize hH5:upd H4 t5 (HO.tup _)=H5
   have s5:Same H4 H5:=hH5 ▸ zfa hp5
   have P5:Plain H5:=hH5 ▸ P4.tup
   have h5:=(congrFun hH5 t5).symm.trans upd_same
   have S25:=((s2.trans s3).trans s4).trans s5
   exact q _ _ ⟨.tuple [.str "deed",d0,.tuple (.str wd::ds)],⟨t5,_,rfl,SqT.of h5,_,_,rfl,rfl,_,_,rfl,DV.same S25 d0 _ hx0,_,_,rfl,⟨t4,_,rfl,s5.seqT ht4,_,_,rfl,rfl,DVs.same S25 _ _ hxr⟩,rfl⟩,sl⟩ (s1.trans S25) P5
  rw [if_neg hin] at sl
  refine ⟨_,rfl,A.NOTES,_,rfl,.inr (T.t_NOTES _),rfl,rfl,_,rfl,?_⟩
  show if (!inV (.str wd) (NTS.map V.str))=true then _ else _
  rw [zme]
  by_cases hn:wd∈NTS
  ·rw [if_pos hn] at sl
   rw [decide_eq_true hn]
   refine iteF ⟨_,rfl,sz_1,λ t2 hp2=>?_⟩
   generalize hH2:upd H1 t2 (HO.tup _)=H2
   have s2:Same H1 H2:=hH2 ▸ zfa hp2
   have P2:Plain H2:=hH2 ▸ P1.tup
   have h2:=(congrFun hH2 t2).symm.trans upd_same
   refine ⟨_,rfl,t2,tq,_,_,rfl,rfl,SqT.of h2,s2.seqT hq,sm1 ((by show 1+(xr.length+1)≤1000;omega)),λ t4 H4 ht4 s4 p4=>?_⟩
   exact q _ _ ⟨.tuple (.str wd::d0::ds),⟨t4,_,rfl,ht4,_,_,rfl,rfl,DVs.same (s2.trans s4) (d0::ds) _ hds⟩,sl⟩ ((s1.trans s2).trans s4) (p4 P2)
  ·rw [if_neg hn] at sl
   rw [decide_eq_false hn]
   exact iteT ⟨sz_1,qe _ _ ⟨rfl,sl⟩ s1 P1⟩
theorem zfw:FnScope ["number"] ["number"] (zga zvu):=by walk_at "sc"
theorem zzt (T:Txt w K mg A)  : zil P w K mg B A:=by
 obtain ⟨t_TOO_GREAT,g_TOO_GREAT⟩:=T.u_TOO_GREAT
 refine T.F_q10.okX zfw (λ vs H Q E h=>?_) (λ _ _ _ _ H vs Q E hr h=>?_)
 ·obtain ⟨_,n,rfl,_⟩:=h
  rfl
 ·obtain ⟨hp,n,rfl,h1,h2,q1,q2⟩:=h
  refine ⟨_,(zba (zcb (zja zix (zfb zbn rfl T.n_abs (by decide +kernel) (zaa (pv 0) zca)) (zdb (v := .int (1000000000000000000000000000000)) rfl g_TOO_GREAT ⟨t_TOO_GREAT,rfl⟩) (zqa _)) (zda (zgb T.x_NoText zia rfl rfl T.g_NoText (zaa zma zca))) zka)
   (zda (zna (zhb zlb rfl T.n_str (by decide +kernel) (zaa (pv 0) zca))))),?_⟩
  refine ⟨_,rfl,_,rfl,_,_,rfl,rfl,_,rfl,znb (λ h=>?_) (λ h=>?_)⟩
  ·exact ⟨by decide,q2 (by split at h <;> omega)⟩
  ·refine ⟨_,rfl,_,rfl,zco h1 h2,q1 (by split at h <;> omega) (by split at h <;> omega)⟩
theorem zas:FnScope ["numbers"] ["numbers"] (zga zut):=by walk_at "sc"
theorem zys (T:Txt w K mg A) (G_q10:zil P w K mg B A):zwm P w K mg B A:=by
 have B_q10:=T.b_q10
 refine T.F_q11.okX zas (λ vs H Q E h=>?_) (λ _ _ _ _ H vs Q E hr h=>?_)
 ·obtain ⟨_,a,⟨rfl,_⟩,_⟩:=h
  rfl
 ·obtain ⟨hp,⟨p,ns⟩,⟨hv,hq,hl,hb⟩,q,qe⟩:=h
  obtain rfl:vs=[.ref p]:=hv
  dsimp only at hq hl hb
  refine ⟨_,(zda (zna (zqj PySem.F.plainAttrs_str PySem.F.slot_str_join PySem.F.type_str_join zcg zma (zaa (znc _ ["number"] 1 [] zia ⟨⟨_,_,_,rfl,rfl,rfl⟩⟩ rfl (zsp (pv 0)) gk1 (λ _ _ _ _ _=>zpa (i:=0) (show List.Nodup (["number"]:List Str) by decide +kernel) rfl (Or.inl rfl)) (λ _ _ _ _ _=>ztc) (λ _ _ _ _ _ hW=>(zha G_q10 (hr.mono (by decide)) rfl T.g_q10 T.k_q10 B_q10 .nil (Wants.passes hW) (zaa (pv 0) zca)))) zca)))),?_⟩
  refine ⟨rfl,_,rfl,p,rfl,⟨_,hq⟩,λ D hD=>zjd (n:=(ns.map V.int).length) (λ i=>(ns.map V.int).getD i .non) (λ i y _=>∃ n,ns[i]? = some n∧B30 n∧y = .str (toString n)) hD hp ?_ (zoq hq) (λ _ _ _ _ h _ _=>h) ?_ ?_⟩
  ·rw [List.length_map];exact sm1 ((by omega))
  ·intro i H2 R hi hP2 hs2 hR
   rw [List.length_map] at hi
   have hn:ns[i]? = some ns[i]:=List.getElem?_eq_getElem hi
   have hm:ns[i]∈ns:=List.getElem_mem hi
   have b:=hb _ hm
   generalize ns[i]=n at hn hm b
   have ev:(ns.map V.int).getD i .non = .int n:=by rw [List.getD_eq_getElem?_getD,List.getElem?_map,hn];rfl
   rw [ev]
   exact ⟨_,rfl,hP2,n,rfl,b.1,b.2,λ a1 a2=>hR _ _ ⟨n,hn,⟨a1,a2⟩,rfl⟩ (Same.refl _) hP2,λ hnb=>qe _ _ ⟨rfl,n,hm,hnb⟩ hs2 hP2⟩
  ·intro ys H2 hl2 hr2 hd2 hs2 hP2
   rw [List.length_map] at hl2
   have ey:ys=(ns.map λ n=>Str.ofString (toString n)).map V.str:=by
    rw [List.map_map]
    refine znk hl2 λ i y e=>?_
    obtain ⟨n,e1,_,e2⟩:=hr2 i y e
    exact ⟨n,e1,e2⟩
   have hb30:∀ n∈ns,B30 n:=by
    intro n hn
    obtain ⟨i,hi,e⟩:=List.getElem_of_mem hn
    have:i<ys.length:=by omega
    obtain ⟨n',e1,b,_⟩:=hr2 i ys[i] (List.getElem?_eq_getElem this)
    rw [List.getElem?_eq_getElem hi,e] at e1
    cases e1
    exact b
   refine ⟨_,D,ns.map λ n=>Str.ofString (toString n),rfl,rfl,SqL.of (by rw [hd2,ey]),?_,q _ _ ⟨hb30,rfl⟩ hs2 hP2⟩
   have h1:((ns.map λ n=>Str.ofString (toString n)).map (·.length)).sum≤ns.length * 41:=zmh λ n hn=>zjl (hb n hn).1 (hb n hn).2
   rw [List.length_map]
   have:(Str.ofString ".").length=1:=rfl
   rw [this]
   omega
theorem zbt:FnScope ["mark"] ["mark"] (zga zew):=by walk_at "sc"
theorem zgv (T:Txt w K mg A) (G_q11:zwm P w K mg B A):zoo P w K mg B A:=by
 have B_q11:=T.b_q11
 refine T.F_q24.okX zbt (λ vs H Q E h=>?_) (λ _ _ _ _ H vs Q E hr h=>?_)
 ·obtain ⟨_,a,⟨rfl,_⟩,_⟩:=h
  rfl
 ·obtain ⟨hp,⟨p,ns⟩,⟨hv,hq,hl,hb⟩,q,qe⟩:=h
  obtain rfl:vs=[.ref p]:=hv
  refine ⟨_,(zda (zna (zha G_q11 (hr.mono (by decide)) rfl T.g_q11 T.k_q11 B_q11 .nil (Wants.passes zia) (zaa (pv 0) zca)))),?_⟩
  exact ⟨_,rfl,hp,(p,ns),⟨rfl,hq,hl,hb⟩,q,qe⟩
theorem zzu:FnScope ["place"] ["place"] (zga zzs):=by walk_at "sc"
theorem zfs (T:Txt w K mg A) (G_q11:zwm P w K mg B A):zyo P w K mg B A:=by
 have B_q11:=T.b_q11
 refine T.F_q19.okX zzu (λ vs H Q E h=>?_) (λ _ _ _ _ H vs Q E hr h=>?_)
 ·obtain ⟨_,a,⟨rfl,_⟩,_⟩:=h
  rfl
 ·obtain ⟨hp,⟨p,ss⟩,⟨hv,hd,hl,hb⟩,q,qe⟩:=h
  obtain rfl:vs=[.ref p]:=hv
  dsimp only at hd hl hb
  obtain ⟨p2,xs,hpe,hq,hds⟩:=hd
  cases hpe
  have hxl:xs.length=ss.length:=by rw [hds.length,List.length_map]
  refine ⟨_,(zda (zna (zqj PySem.F.plainAttrs_str PySem.F.slot_str_join PySem.F.type_str_join zcg zma (zaa (znc _ ["step"] 1 [] zia ⟨⟨_,_,_,rfl,rfl,rfl⟩⟩ rfl (zsp (pv 0)) gk1 (λ _ _ _ _ _=>zpa (i:=0) (show List.Nodup (["step"]:List Str) by decide +kernel) rfl (Or.inl rfl)) (λ _ _ _ _ _=>ztc) (λ _ _ _ _ _ hW=>(zha G_q11 (hr.mono (by decide)) rfl T.g_q11 T.k_q11 B_q11 .nil (Wants.passes hW) (zaa (pv 0) zca)))) zca)))),?_⟩
  refine ⟨rfl,_,rfl,p,rfl,⟨_,hq⟩,λ D hD=>zjd (n:=xs.length) (λ i=>xs.getD i .non) (λ i y _=>∃ s,ss[i]? = some s∧S30 s∧y = .str (dots (sL s))) hD hp ?_ (zoq hq) (λ _ _ _ _ h _ _=>h) ?_ ?_⟩
  ·exact sm1 ((by omega))
  ·intro i H2 R hi hP2 hs2 hR
   have hi':i<ss.length:=by omega
   obtain ⟨t,ht,hq2⟩:=zbr hds hi'
   have hn:ss[i]? = some ss[i]:=List.getElem?_eq_getElem hi'
   have hm:ss[i]∈ss:=List.getElem_mem hi'
   generalize ss[i]=s at hn hm hq2
   have ev:xs.getD i .non = .ref t:=by rw [List.getD_eq_getElem?_getD,ht];rfl
   rw [ev]
   refine ⟨_,rfl,hP2,(t,sL s),⟨rfl,hs2.seqT hq2,by show 3≤10;decide,zvn (hb s hm)⟩,λ v H6 hv hs6 hp6=>hR _ _ ⟨s,hn,zjo hv.1,hv.2⟩ hs6 hp6,λ C H6 hC hs6 hp6=>qe _ _ ⟨hC.1,s,hm,λ h30=>?_⟩ (hs2.trans hs6) hp6⟩
   obtain ⟨n,hn1,hn2⟩:=hC.2
   exact hn2 (zvn h30 n hn1)
  ·intro ys H2 hl2 hr2 hd2 hs2 hP2
   have ey:ys=(ss.map λ s=>dots (sL s)).map V.str:=by
    rw [List.map_map]
    refine znk (by omega) λ i y e=>?_
    obtain ⟨s,e1,_,e2⟩:=hr2 i y e
    exact ⟨s,e1,e2⟩
   have hb30:∀ s∈ss,S30 s:=by
    intro s hs
    obtain ⟨i,hi,e⟩:=List.getElem_of_mem hs
    have:i<ys.length:=by omega
    obtain ⟨s',e1,b,_⟩:=hr2 i ys[i] (List.getElem?_eq_getElem this)
    rw [List.getElem?_eq_getElem hi,e] at e1
    cases e1
    exact b
   refine ⟨_,D,ss.map λ s=>dots (sL s),rfl,rfl,SqL.of (by rw [hd2,ey]),?_,q _ _ ⟨hb30,rfl⟩ hs2 hP2⟩
   have h1:((ss.map λ s=>dots (sL s)).map (·.length)).sum≤ss.length * 125:=zmh λ s hs=>zdj (hb s hs)
   rw [List.length_map]
   have:(Str.ofString "/").length=1:=rfl
   rw [this]
   omega
theorem zmt:FnScope ["version"] ["version"] (zga zht):=by walk_at "sc"
theorem zbw (T:Txt w K mg A)  : zto P w K mg B A:=by
 refine T.F_q36.okN zmt (λ vs H Q E h=>?_) (λ _ _ _ _ H vs Q E hr h=>?_)
 ·obtain ⟨_,a,⟨x,rfl,_⟩,_⟩:=h
  rfl
 ·obtain ⟨hp,v,⟨x,hv,hx⟩,q,_⟩:=h
  obtain rfl:vs=[x]:=hv
  obtain ⟨t,pa,rfl,hq,hd⟩:=zlp hx
  refine ⟨_,(zda (zna (zyg (zmp hr.units) (zrd zmb (pv 0) zea (λ _ _=>rfl)) (zxa zca) (zqa _)))),?_⟩
  refine ⟨_,rfl,_,_,_,_,rfl,rfl,hq,rfl,sz_0,λ te hp1=>?_⟩
  generalize hH1:upd H te (HO.tup _)=H1
  have s1:Same H H1:=hH1 ▸ zfa hp1
  have P1:Plain H1:=hH1 ▸ hp.tup
  have h1:=(congrFun hH1 te).symm.trans upd_same
  refine ⟨plc v.2.1,plc [],DV.same s1 _ _ hd,zhj h1,zif _,zif _,q _ _ ?_ s1 P1⟩
  rw [zqo]
theorem sc_q2:FnScope ["version", "beat", "place", "words"] ["version"] (zga s_q2):=by walk_at "sc"
theorem zny (T:Txt w K mg A) (G_q10:zil P w K mg B A) (G_q19:zyo P w K mg B A) (G_q36:zto P w K mg B A):zvw P w K mg B A:=by
 have B_q10:=T.b_q10
 have B_q19:=T.b_q19
 have B_q36:=T.b_q36
 obtain ⟨t_OUT,g_OUT⟩:=T.u_OUT
 refine T.F_q2.okX sc_q2 (λ vs H Q E h=>?_) (λ _ _ _ _ H vs Q E hr h=>?_)
 ·obtain ⟨_,a,⟨x,rfl,_⟩,_⟩:=h
  rfl
 ·obtain ⟨hp,v,⟨x,hv,hx,hg⟩,q,qe⟩:=h
  obtain rfl:vs=[x]:=hv
  obtain ⟨t,pa,rfl,hq,hd⟩:=zlp hx
  obtain ⟨g1,g2,g3,g4⟩:=hg
  refine ⟨_,(zba (zxe (pv 0) (zgf rfl (zoa (zpa (i:=1) sc_q2.nd rfl (Or.inl rfl)) (zoa (zpa (i:=2) sc_q2.nd rfl (Or.inl rfl)) (zoa (zpa (i:=3) sc_q2.nd rfl (Or.inl rfl)) zac)))))
   (zba (zcb (zle (zld (zha G_q36 (hr.mono (by decide)) rfl T.g_q36 T.k_q36 B_q36 .nil zxb (zaa (pv 0) zca)))) (zda (zna (zzl (zsj (zha G_q10 (hr.mono (by decide)) rfl T.g_q10 T.k_q10 B_q10 .nil (Wants.passes zia) (zaa (pv 1) zca)) (zsn (zsj (zdb (v := .str "-") rfl g_OUT ⟨t_OUT,rfl⟩) znq)))))) zka)
   (zda (zna (zzl (zsj (zha G_q10 (hr.mono (by decide)) rfl T.g_q10 T.k_q10 B_q10 .nil (Wants.passes zia) (zaa (pv 1) zca)) (zsn (zsj (zha G_q19 (hr.mono (by decide)) rfl T.g_q19 T.k_q19 B_q19 .nil (Wants.passes zia) (zaa (pv 2) zca)) (zsn (zsj (pv 3) znq)))))))))),?_⟩
  have l40:=zjl g1.1 g1.2
  have n1:(Str.ofString " ").length=1:=rfl
  have n2:(Str.ofString "-").length=1:=rfl
  have n0:Str.empty.length=0:=rfl
  refine ⟨_,rfl,t,_,rfl,hq,rfl,_,_,rfl,_,_,rfl,_,_,rfl,rfl,?_⟩
  refine ⟨_,rfl,hp,v,⟨_,rfl,hx⟩,λ r H1 hr s1 P1=>⟨_,hr,?_⟩,λ _ _ h=>h.elim⟩
  have hd1:=DV.same s1 _ _ hd
  by_cases ho:v.2.1=[]
  ·rw [decide_eq_true ho]
   refine iteT ⟨_,rfl,P1,v.1,rfl,g1.1,g1.2,λ a1 a2=>?_,λ hn=>qe _ _ ⟨rfl,λ h=>hn ⟨h.1.1,h.1.2⟩⟩ s1 P1⟩
   refine ⟨_,rfl,sm1 ((by omega)),sm1 ((by rw [zla];omega)),sm1 ((by rw [zla,zla];omega)),_,rfl,by decide,sm1 ((by rw [zla,zla,zla];omega)),sm1 ((by rw [zla,zla,zla];omega)),q _ _ ⟨⟨⟨a1,a2⟩,by rw [ho];intro s hs;cases hs⟩,?_⟩ s1 P1⟩
   unfold zzb
   rw [if_pos ho,zog,zhi]
   rfl
  ·rw [decide_eq_false ho]
   obtain ⟨p,xs,rfl,hpq,hds⟩:=id hd1
   refine iteF ⟨_,rfl,P1,v.1,rfl,g1.1,g1.2,λ a1 a2=>?_,λ hn=>qe _ _ ⟨rfl,λ h=>hn ⟨h.1.1,h.1.2⟩⟩ s1 P1⟩
   refine ⟨_,rfl,sm1 ((by omega)),sm1 ((by rw [zla];omega)),sm1 ((by rw [zla,zla];omega)),_,rfl,P1,(p,v.2.1),⟨rfl,hd1,by show v.2.1.length≤10;omega,g3⟩,λ r H2 hr s2 P2=>?_,λ C H2 hC s2 P2=>qe _ _ ⟨hC.1,λ h=>?_⟩ (s1.trans s2) P2⟩
   ·obtain ⟨b30,rfl⟩:=hr
    have sl:(zyc v.2.1).length≤800:=by
     have h1:=zvf "/" (v.2.1.map λ s=>dots (sL s))
     have h2:((v.2.1.map λ s=>dots (sL s)).map (·.length)).sum≤v.2.1.length * 125:=zmh λ s hs=>zdj (g3 s hs)
     have h3:(Str.ofString "/").length=1:=rfl
     rw [h3,List.length_map] at h1
     unfold zyc
     omega
    refine ⟨_,rfl,sm1 ((by show (zyc v.2.1).length≤1000;omega)),sm1 ((by rw [zla,zla,zla];show _+(zyc v.2.1).length≤1000;omega)),sm1 ((by rw [zla,zla,zla,zla];show _+(zyc v.2.1).length+_≤1000;omega)),_,rfl,_,rfl,sm1 ((by omega)),sm1 ((by rw [zla,zla,zla,zla,zla];show _+(zyc v.2.1).length+_+_≤1000;omega)),sm1 ((by rw [zla,zla,zla,zla,zla];show _+(zyc v.2.1).length+_+_≤1000;omega)),q _ _ ⟨⟨⟨a1,a2⟩,b30⟩,?_⟩ (s1.trans s2) P2⟩
    unfold zzb
    rw [if_neg ho,zog]
   ·obtain ⟨s,hs,hn⟩:=hC.2
    exact hn (h.2 s hs)
theorem zts:FnScope ["kind", "value"] ["kind", "value"] (zga zgs):=by walk_at "sc"
theorem zzv (T:Txt w K mg A) (G_q10:zil P w K mg B A) (G_q24:zoo P w K mg B A) (G_q2:zvw P w K mg B A):zfp P w K mg B A:=by
 have B_q10:=T.b_q10
 have B_q24:=T.b_q24
 have B_q2:=T.b_q2
 obtain ⟨t_HEAD_OF_ALL,g_HEAD_OF_ALL⟩:=T.u_HEAD_OF_ALL
 refine T.F_q17.okX zts (λ vs H Q E h=>?_) (λ _ _ _ _ H vs Q E hr h=>?_)
 ·obtain ⟨_,a,⟨x,rfl,_⟩,_⟩:=h
  rfl
 ·obtain ⟨hp,⟨k,f⟩,⟨x,hv,hd,hk,hs⟩,q,qe⟩:=h
  obtain rfl:vs=[.str k,x]:=hv
  dsimp only at hd hk hs q qe
  refine ⟨_,(zba (zcb (zja zqb (pv 0) zma (zqa _)) (zda (zna (zha G_q24 (hr.mono (by decide)) rfl T.g_q24 T.k_q24 B_q24 .nil (Wants.passes zia) (zaa (pv 1) zca)))) zka)
   (zba (zcb (zja zqb (pv 0) zma (zqa _)) (zda (zna (ztf (zja zdl (pv 1) zpe (zqa _)) (zdb (v := .str "-") rfl g_HEAD_OF_ALL ⟨t_HEAD_OF_ALL,rfl⟩) (zha G_q24 (hr.mono (by decide)) rfl T.g_q24 T.k_q24 B_q24 .nil (Wants.passes zia) (zaa (pv 1) zca))))) zka)
   (zba (zcb (zja zqb (pv 0) zma (zqa _)) (zda (zna (zha G_q2 (hr.mono (by decide)) rfl T.g_q2 T.k_q2 B_q2 .nil (Wants.passes zia) (zaa (pv 1) zca)))) zka)
   (zba (zcb (zja zjk (pv 0) (zxa (zaa zma (zaa zma zca))) (by rfl)) (zda (zna (pv 1))) zka)
   (zda (zna (zha G_q10 (hr.mono (by decide)) rfl T.g_q10 T.k_q10 B_q10 .nil (Wants.passes zia) (zaa (pv 1) zca)))))))),?_⟩
  have ne:∀ {a b:Str},¬ a=b→¬ V.str a=V.str b:=λ h e=>h (V.str.inj e)
  have b40:∀ m:Mark,zge m→∀ n∈[m.1,m.2],B40 n:=λ m h n hn=>by
   simp only [List.mem_cons,List.not_mem_nil,or_false] at hn
   rcases hn with rfl | rfl
   ·exact zvc h.1
   ·exact zvc h.2
  cases f with
  | mk m =>
   have hk:k = "mark" := hk
   subst hk
   have hs':zge m:=hs
   obtain ⟨p,rfl,hq⟩:=zmg hd
   refine ⟨_,rfl,rfl,_,rfl,zqi rfl ⟨_,rfl,⟨hp,(p,[m.1,m.2]),⟨rfl,hq,by show 2≤10;decide,b40 m hs'⟩,λ v H1 hv s1 P1=>q _ _ ⟨⟨hv.1 _ (by simp),hv.1 _ (by simp)⟩,hv.2⟩ s1 P1,λ C H1 hC s1 P1=>qe _ _ ⟨hC.1,λ x=>?_⟩ s1 P1⟩⟩⟩
   obtain ⟨n,hn,hb⟩:=hC.2
   simp only [List.mem_cons,List.not_mem_nil,or_false] at hn
   rcases hn with rfl | rfl
   ·exact hb x.1
   ·exact hb x.2
  | bh o =>
   have hk:k = "behind" := hk
   subst hk
   refine ⟨_,rfl,rfl,_,rfl,zzd (ne (by decide)) ?_⟩
   refine ⟨_,rfl,rfl,_,rfl,zqi rfl ?_⟩
   cases o with
   | none =>
    have hd:x = .non:=hd
    subst hd
    exact ⟨_,rfl,rfl,_,rfl,zqi rfl (q _ _ ⟨trivial,rfl⟩ (Same.refl _) hp)⟩
   | some m =>
    have hs':zge m:=hs m rfl
    obtain ⟨p,rfl,hq⟩:=zmg hd
    refine ⟨_,rfl,rfl,_,rfl,zzd (by intro z;cases z) ⟨_,rfl,⟨hp,(p,[m.1,m.2]),⟨rfl,hq,by show 2≤10;decide,b40 m hs'⟩,λ v H1 hv s1 P1=>q _ _ ⟨⟨hv.1 _ (by simp),hv.1 _ (by simp)⟩,hv.2⟩ s1 P1,λ C H1 hC s1 P1=>qe _ _ ⟨hC.1,λ x=>?_⟩ s1 P1⟩⟩⟩
    obtain ⟨n,hn,hb⟩:=hC.2
    simp only [List.mem_cons,List.not_mem_nil,or_false] at hn
    rcases hn with rfl | rfl
    ·exact hb x.1
    ·exact hb x.2
  | vr v =>
   have hk:k = "version" := hk
   subst hk
   refine ⟨_,rfl,rfl,_,rfl,zzd (ne (by decide)) ?_⟩
   refine ⟨_,rfl,rfl,_,rfl,zzd (ne (by decide)) ?_⟩
   refine ⟨_,rfl,rfl,_,rfl,zqi rfl ?_⟩
   exact ⟨_,rfl,hp,v,⟨_,rfl,hd,v40 hs⟩,λ r H1 hr s1 P1=>q _ _ hr s1 P1,λ C H1 hC s1 P1=>qe _ _ hC s1 P1⟩
  | tx z =>
   have hd:x = .str z:=hd
   subst hd
   have h4:¬ k = "mark" ∧ ¬ k = "behind" ∧ ¬ k = "version" ∧ k∈(["words", "choice"]:List Str):=by
    rcases (show k = "words" ∨ k = "choice" from hk) with rfl | rfl <;> decide
   refine ⟨_,rfl,rfl,_,rfl,zzd (ne h4.1) ?_⟩
   refine ⟨_,rfl,rfl,_,rfl,zzd (ne h4.2.1) ?_⟩
   refine ⟨_,rfl,rfl,_,rfl,zzd (ne h4.2.2.1) ?_⟩
   refine ⟨_,rfl,sz_2,λ t1 hp1=>?_⟩
   generalize hH1:upd H t1 (HO.tup _)=H1
   have s1:Same H H1:=hH1 ▸ zfa hp1
   have P1:Plain H1:=hH1 ▸ hp.tup
   have h1:=(congrFun hH1 t1).symm.trans upd_same
   refine ⟨t1,_,rfl,.inr (SqT.of h1),rfl,rfl,_,rfl,?_⟩
   show if inV (.str k) ((["words", "choice"]:List Str).map V.str)=true then _ else _
   rw [zme,decide_eq_true h4.2.2.2]
   exact iteT ⟨_,rfl,q _ _ ⟨trivial,rfl⟩ s1 P1⟩
  | nm n =>
   have hd:x = .int n:=hd
   subst hd
   have h4:¬ k = "mark" ∧ ¬ k = "behind" ∧ ¬ k = "version" ∧ k∉(["words", "choice"]:List Str):=by
    have al:∀ k∈NKN,¬ k = "mark" ∧ ¬ k = "behind" ∧ ¬ k = "version" ∧ k∉(["words", "choice"]:List Str):=by decide
    exact al k hk
   refine ⟨_,rfl,rfl,_,rfl,zzd (ne h4.1) ?_⟩
   refine ⟨_,rfl,rfl,_,rfl,zzd (ne h4.2.1) ?_⟩
   refine ⟨_,rfl,rfl,_,rfl,zzd (ne h4.2.2.1) ?_⟩
   refine ⟨_,rfl,sz_2,λ t1 hp1=>?_⟩
   generalize hH1:upd H t1 (HO.tup _)=H1
   have s1:Same H H1:=hH1 ▸ zfa hp1
   have P1:Plain H1:=hH1 ▸ hp.tup
   have h1:=(congrFun hH1 t1).symm.trans upd_same
   refine ⟨t1,_,rfl,.inr (SqT.of h1),rfl,rfl,_,rfl,?_⟩
   show if inV (.str k) ((["words", "choice"]:List Str).map V.str)=true then _ else _
   rw [zme,decide_eq_false h4.2.2.2]
   have b:=zvc (show B31 n from hs)
   exact iteF ⟨_,rfl,P1,n,rfl,b.1,b.2,λ a1 a2=>q _ _ ⟨⟨a1,a2⟩,rfl⟩ s1 P1,λ hn=>qe _ _ ⟨rfl,λ x=>hn x⟩ s1 P1⟩
theorem zpu:FnScope ["word", "values"] ["word", "values"] (zga zyt):=by walk_at "sc"
theorem zms (T:Txt w K mg A) (G_q17:zfp P w K mg B A):zuq P w K mg B A:=by
 have B_q17:=T.b_q17
 refine T.F_q30.okX zpu (λ vs H Q E h=>?_) (λ _ _ _ _ H vs Q E hr h=>?_)
 ·obtain ⟨_,a,⟨x,rfl,_⟩,_⟩:=h
  rfl
 ·obtain ⟨hp,⟨w0,fs⟩,⟨x,hv,hd,hw,hn,⟨ks,hsh,hpk⟩,hs⟩,q,qe⟩:=h
  obtain rfl:vs=[.str w0,x]:=hv
  dsimp only at hd hw hn hsh hpk hs q qe
  refine ⟨_,(zda (zna (zqj PySem.F.plainAttrs_str PySem.F.slot_str_join PySem.F.type_str_join zcg zma (zaa (zra zcp (zbo (zaa (pv 0) zca)) (znc _ ["kind", "value"] 2 [] zia ⟨⟨_,_,_,rfl,rfl,rfl⟩⟩ rfl (zlq true true rfl T.n_zip (by decide +kernel) (zaa (zrd (ix_C T.t_SHAPES) (zdb (v := .ref A.SHAPES) rfl T.g_SHAPES rfl) (pv 0) (λ _ _=>rfl)) (zaa (pv 1) zca))) gk2 (λ _ _ _ _ _=>zgf rfl (zoa (zpa (i:=0) (show List.Nodup (["kind", "value"]:List Str) by decide +kernel) rfl (Or.inl rfl)) (zoa (zpa (i:=1) (show List.Nodup (["kind", "value"]:List Str) by decide +kernel) rfl (Or.inl rfl)) zac))) (λ _ _ _ _ _=>ztc) (λ _ _ _ _ _ hW=>(zha G_q17 (hr.mono (by decide)) rfl T.g_q17 T.k_q17 B_q17 .nil (Wants.passes hW) (zaa (pv 0) (zaa (pv 1) zca)))))) zca)))),?_⟩
  obtain ⟨tx,xs,rfl,hq,hxs⟩:=id hd
  have hxl:xs.length=fs.length:=by rw [hxs.length,List.length_map]
  have hkl:=Paired.length hpk
  refine ⟨rfl,_,rfl,sz_1,λ l1 hp1=>?_⟩
  generalize hH1:upd H l1 (HO.lst _)=H1
  have s1:Same H H1:=hH1 ▸ zfa hp1
  have P1:Plain H1:=hH1 ▸ hp.lst
  have h1:=(congrFun hH1 l1).symm.trans upd_same
  rcases zji T H1 w0 with ⟨e1,e2⟩ | ⟨a,ks',e1,e2,hks,⟨k1,k4⟩,hkk⟩
  ·rw [hsh] at e2;cases e2
  rw [hsh] at e2
  cases e2
  refine ⟨_,rfl,rfl,w0,_,_,rfl,e1,rfl,_,rfl,a,tx,rfl,⟨_,hks⟩,⟨_,s1.seqT hq⟩,λ D hD=>zuh (b:=true) (b2:=true) (xs:=ks.map V.str) (ys:=xs) (λ i y _=>∃ f,fs[i]? = some f∧f.fits∧y = .str f.text) hD P1 hks (s1.seqT hq) ?_ ?_ (λ _ _ _ _ h _ _=>h) ?_ ?_⟩
  ·rw [List.length_map];exact sm1 ((by omega))
  ·rw [List.length_map,hxl,hkl]
  ·intro i x y H5 T' R hx hy P5 S5 hT hR
   rw [List.getElem?_map] at hx
   obtain ⟨k,hk,rfl⟩:=Option.map_eq_some_iff.mp hx
   have hil:i<fs.length:=by have:=(List.getElem?_eq_some_iff.mp hk).1;omega
   have hf:fs[i]? = some fs[i]:=List.getElem?_eq_getElem hil
   have hfm:fs[i]∈fs:=List.getElem_mem hil
   generalize fs[i]=f at hf hfm
   have hkf:Fld.isK k f:=Paired.at_ hpk hk hf
   obtain ⟨y',hy',hdy⟩:=(DVs.same (s1.trans S5) _ _ hxs).get (i:=i) (d:=f.data) (by rw [List.getElem?_map,hf];rfl)
   rw [hy] at hy'
   cases hy'
   refine ⟨T',_,rfl,SqT.of upd_same,rfl,_,_,rfl,_,_,rfl,rfl,?_⟩
   refine ⟨_,rfl,_,rfl,P5.tup,(k,f),⟨_,rfl,DV.same (zfa hT) _ _ hdy,hkf,hs f hfm⟩,λ v H7 hv s7 P7=>hR _ _ ⟨f,hf,hv.1,hv.2⟩ ((zfa hT).trans s7) P7,λ C H7 hC s7 P7=>qe _ _ ⟨hC.1,λ h=>hC.2 (h f hfm)⟩ (s1.trans (S5.trans ((zfa hT).trans s7))) P7⟩
  intro vs H5 hl5 hr5 hd5 S5 P5
  rw [List.length_map] at hl5
  have ev:vs=fs.map λ f=>V.str f.text:=znk (by omega) λ i y hy=>let ⟨f,a,b,c⟩:=hr5 i y hy; ⟨f,a,c⟩
  have fit:∀ f∈fs,f.fits:=λ f hf=>by
   obtain ⟨i,hi⟩:=List.getElem?_of_mem hf
   obtain ⟨f',a,b,_⟩:=hr5 i (V.str f.text) (by rw [ev,List.getElem?_map,hi];rfl)
   rw [hi] at a
   cases a
   exact b
  rw [show (fs.map λ f=>V.str f.text)=(fs.map Fld.text).map V.str by rw [List.map_map];rfl] at ev
  subst ev
  refine ⟨l1,D,_,_,rfl,rfl,S5 _ _ h1,hd5,?_,λ l6 hp6=>?_⟩
  ·rw [List.length_map,List.length_map]
   exact sm1 ((by show 1+fs.length≤1000;omega))
  rw [show [V.str w0]++(fs.map Fld.text).map V.str=(w0::fs.map Fld.text).map V.str from rfl]
  generalize hH6:upd H5 l6 (HO.lst _)=H6
  have s6:Same H5 H6:=hH6 ▸ zfa hp6
  have P6:Plain H6:=hH6 ▸ P5.lst
  have h6:=(congrFun hH6 l6).symm.trans upd_same
  refine ⟨_,l6,w0::fs.map Fld.text,rfl,rfl,SqL.of h6,?_,q _ _ ⟨fit,rfl⟩ ((s1.trans S5).trans s6) P6⟩
  have n1:(Str.ofString " ").length=1:=rfl
  have wt:∀ gs:List Fld,(∀ f∈gs,f.small)→((gs.map Fld.text).map (·.length)).sum≤gs.length * 1000:=λ gs h=>zmh λ f hf=>Nat.le_trans (zuj (h f hf)) (by cases f <;> first | exact (show 542≤1000 by decide) | exact (show 65≤1000 by decide))
  have:=wt fs hs
  rw [n1,List.map_cons,List.sum_cons,List.length_cons,List.length_map]
  omega
theorem sc_q33:FnScope ["record", "word", "beat", "deed"] ["record"] (zga zvs):=by walk_at "sc"
theorem zis (T:Txt w K mg A) (G_q30:zuq P w K mg B A):zhn P w K mg B A:=by
 have B_q30:=T.b_q30
 refine T.F_q33.okX sc_q33 (λ vs H Q E h=>?_) (λ _ _ _ _ H vs Q E hr h=>?_)
 ·obtain ⟨_,a,⟨x,rfl,_⟩,_⟩:=h
  rfl
 ·obtain ⟨hp,⟨dd,w0,fs⟩,⟨x,hv,hd,ho⟩,q,qe⟩:=h
  obtain rfl:vs=[x]:=hv
  dsimp only at hd ho q qe
  refine ⟨_,(zba (zcb (zja zqb (zrd zmb (pv 0) zea (λ _ _=>rfl)) zma (zqa _)) (zba (zxe (pv 0) (zgf rfl (zoa (zpa (i:=1) sc_q33.nd rfl (Or.inl rfl)) (zoa (zpa (i:=2) sc_q33.nd rfl (Or.inl rfl)) (zoa (zpa (i:=3) sc_q33.nd rfl (Or.inl rfl)) zac)))))
   (zda (zna (zha G_q30 (hr.mono (by decide)) rfl T.g_q30 T.k_q30 B_q30 .nil (Wants.passes zia) (zaa (zrd zmb (pv 3) zea (λ _ _=>rfl)) (zaa (zra zrg (zxa (zaa (pv 2) zca)) (zbc zcf (pv 3) (zsd zea) zbd)) zca)))))) zka)
   (zda (zna (zha G_q30 (hr.mono (by decide)) rfl T.g_q30 T.k_q30 B_q30 .nil (Wants.passes zia) (zaa (zrd zmb (pv 0) zea (λ _ _=>rfl)) (zaa (zbc zcf (pv 0) (zsd zea) zbd) zca)))))),?_⟩
  obtain ⟨hl6,hn4,hsm⟩:=zye ho
  obtain ⟨ks,hsh,hpk,_,b,fr,hfs⟩:=ho.all
  have hw6:=zub ho.d
  have hpk2:Paired (λ k f=>Fld.isK k f) ks fs:=Paired.mono (λ _ _ o=>o.k) hpk
  dsimp only at hl6 hn4 hsm hsh hpk hfs hw6
  subst hfs
  cases dd with
  | true =>
   have hd:DV K H (.tuple [.str "deed",.int b,.tuple (.str w0::fr.map Fld.data)]) x:=hd
   obtain ⟨t,xs,rfl,hq,x0,r0,rfl,e0,x1,r1,rfl,e1,x2,r2,rfl,e2,e3⟩:=hd
   cases (show r2=[] from e3)
   have e0:x0 = .str "deed" := e0
   have e1:x1 = .int b:=e1
   subst e0 e1
   obtain ⟨t2,ys,rfl,hq2,y0,ys,rfl,e4,hys⟩:=e2
   have e4:y0 = .str w0:=e4
   subst e4
   have hyl:ys.length≤3:=by rw [hys.length,List.length_map];rw [List.length_cons] at hn4;omega
   refine ⟨_,rfl,t,_,_,.str "deed",rfl,rfl,hq,at0,rfl,_,rfl,zqi rfl ?_⟩
   refine ⟨_,rfl,t,_,rfl,hq,rfl,_,_,rfl,_,_,rfl,_,_,rfl,rfl,?_⟩
   refine ⟨_,rfl,t2,_,_,.str w0,rfl,rfl,hq2,at0,_,rfl,sz_1,λ t3 hp3=>?_⟩
   generalize hH3:upd H t3 (HO.tup _)=H3
   have s3:Same H H3:=hH3 ▸ zfa hp3
   have P3:Plain H3:=hH3 ▸ hp.tup
   have h3:=(congrFun hH3 t3).symm.trans upd_same
   refine ⟨_,rfl,_,rfl,t2,_,rfl,s3.seqT hq2,λ t4 H4 ht4 s4 p4=>?_⟩
   rw [show cutV (V.str w0::ys) (some 1) none=ys by rw [zkd (by decide)];rfl] at ht4
   refine ⟨t3,t4,_,_,rfl,rfl,SqT.of (s4 _ _ h3),ht4,sm1 ((by show 1+ys.length≤1000;omega)),λ t5 H5 ht5 s5 p5=>?_⟩
   have S5:=(s3.trans s4).trans s5
   refine ⟨p5 (p4 P3),(w0,.nm b::fr),⟨_,rfl,⟨t5,_,rfl,ht5,_,_,rfl,rfl,DVs.same S5 _ _ hys⟩,by show w0.length≤20;omega,hn4,⟨ks,hsh,hpk2⟩,hsm⟩,λ v H6 hv s6 P6=>q _ _ hv (S5.trans s6) P6,λ C H6 hC s6 P6=>qe _ _ hC (S5.trans s6) P6⟩
  | false =>
   have hd:DV K H (.tuple (.str w0::(Fld.nm b::fr).map Fld.data)) x:=hd
   obtain ⟨t,xs,rfl,hq,y0,ys,rfl,e4,hys⟩:=hd
   have e4:y0 = .str w0:=e4
   subst e4
   refine ⟨_,rfl,t,_,_,.str w0,rfl,rfl,hq,at0,rfl,_,rfl,zzd (λ e=>hw6.2.2.2 (V.str.inj e)) ?_⟩
   refine ⟨_,rfl,t,_,_,.str w0,rfl,rfl,hq,at0,_,rfl,_,rfl,t,_,rfl,hq,λ t4 H4 ht4 s4 p4=>?_⟩
   rw [show cutV (V.str w0::ys) (some 1) none=ys by rw [zkd (by decide)];rfl] at ht4
   refine ⟨p4 hp,(w0,.nm b::fr),⟨_,rfl,⟨t4,_,rfl,ht4,DVs.same s4 _ _ hys⟩,by show w0.length≤20;omega,hn4,⟨ks,hsh,hpk2⟩,hsm⟩,λ v H6 hv s6 P6=>q _ _ hv (s4.trans s6) P6,λ C H6 hC s6 P6=>qe _ _ hC (s4.trans s6) P6⟩
theorem sc_q15:FnScope ["_law_number_here", "_law_signs", "_law_words_here", "_law_rest", "_law_k"] ["_law_number_here"] (zga zsu):=by walk_at "sc"
theorem ztv (T:Txt w K mg A)  : zzo P w K mg B A:=by
 refine T.F_q15.okN sc_q15 (λ vs H Q E h=>?_) (λ _ _ _ _ H vs Q E hr h=>?_)
 ·obtain ⟨_,a,⟨rfl,_⟩,_⟩:=h
  rfl
 ·obtain ⟨hp,n,rfl,q,_⟩:=h
  refine ⟨_,(zba (zza (i:=1) sc_q15.nd rfl (Or.inl rfl) zma)
   (zba (zcb (zja zqb (zra zeb (pv 0) zea) zea (zqa _)) (zda (zna (zrd znp (zbo (zaa zma (zaa zma (zaa zma (zaa zma (zaa zma (zaa zma (zaa zma (zaa zma zca))))))))) (zra zeb (zra zta (pv 0) zea) zea) (λ _ _=>rfl)))) zka)
   (zba (zza (i:=2) sc_q15.nd rfl (Or.inl rfl) zma)
   (zba (zza (i:=3) sc_q15.nd rfl (Or.inl rfl) (zra zta (pv 0) zea))
   (zba (zap PassesOwn.never rfl (zcl rfl T.n_range (zaa (zra zeb (zra zta (pv 0) zea) zea) zca)) (zpa (i:=4) sc_q15.nd rfl (Or.inl rfl)) (zba (zza (i:=2) sc_q15.nd rfl (Or.inl rfl) (zra znd (pv 2) (zrd zyp (pv 1) (zra zeb (pv 3) zea) (λ _ _=>rfl))))
   (zda (zza (i:=3) sc_q15.nd rfl (Or.inl rfl) (zra zuc (zra zta (pv 3) zea) (zra zdd (zra zeb (pv 0) zea) zea))))))
   (zda (zna (pv 2)))))))),?_⟩
  have al:∀ z∈(["", " ", "-", "a ", " a", "end", "  ", "undo 4"]:List Str),z.length≤13∧∀ c∈z.cps.toList,c∈S94.cps.toList:=by decide +kernel
  refine ⟨_,rfl,_,_,rfl,rfl,ip_5,rfl,_,rfl,znb (λ _=>?_) (λ _=>?_)⟩
  ·refine ⟨sz_8,λ l1 hp1=>?_⟩
   generalize hH1:upd H l1 (HO.lst _)=H1
   have s1:Same H H1:=hH1 ▸ zfa hp1
   have P1:Plain H1:=hH1 ▸ hp.lst
   have h1:=(congrFun hH1 l1).symm.trans upd_same
   obtain ⟨z,ha,_,hm⟩:=zbv (zs:=["", " ", "-", "a ", " a", "end", "  ", "undo 4"]) (n:=13) (k:=n / 5 % 8) (m:=8) (zgq (by decide +kernel)) (Int.emod_nonneg _ (by decide)) (Int.emod_lt_of_pos _ (by decide)) (by decide)
   exact ⟨_,rfl,_,_,rfl,rfl,⟨by decide,by decide⟩,_,_,rfl,rfl,ip_8,l1,_,_,_,rfl,rfl,SqL.of h1,ha,q _ _ ⟨z,rfl,(al z hm).1,(al z hm).2⟩ s1 P1⟩
  refine ⟨_,rfl,_,_,rfl,rfl,⟨by decide,by decide⟩,?_⟩
  refine ⟨_,rfl,_,_,rfl,rfl,⟨by decide,by decide⟩,_,_,rfl,rfl,zux,_,rfl,by omega,by omega,?_⟩
  refine zok (lo:=0) (n:=(n / 5 % 13).toNat) (λ j σ Hc=>∃ (z:Str) (r:Int) (o:Option V),σ=[some (.int n),some (.str S94),some (.str z),some (.int r),o]∧Hc=H∧z.length≤j∧okS z) ⟨_,_,_,rfl,rfl,Nat.le_refl _,λ c hc=>absurd (show c∈([]:List Nat) from hc) (by simp)⟩ ?_ ?_
  ·rintro j σ Hc hj ⟨z,r,o,rfl,rfl,hz,hs⟩
   have hj:j<13:=by omega
   obtain ⟨c,hc,hm⟩:=zim (xs:=S94.cps.toList) (i:=r % 94) (Int.emod_nonneg _ (by decide)) (by rw [zjp];exact Int.emod_lt_of_pos _ (by decide))
   refine ⟨_,rfl,_,rfl,_,rfl,_,_,rfl,rfl,zzy,_,_,c,rfl,rfl,by decide +kernel,hc,_,_,rfl,rfl,sm1 ((by show z.length+1≤1000;omega)),?_⟩
   refine ⟨_,rfl,_,_,rfl,rfl,⟨by decide,by decide⟩,_,rfl,_,_,rfl,rfl,zhp,_,_,rfl,rfl,Or.inr ⟨by decide,by decide⟩,_,_,rfl,rfl,?_⟩
   refine ⟨_,_,_,rfl,rfl,?_,?_⟩
   ·rw [zla]
    show z.length+1≤j+1
    omega
   ·intro d hd
    rw [zsa] at hd
    rcases List.mem_append.mp hd with h | h
    ·exact hs d h
    ·rw [List.mem_singleton.mp (show d∈[c] from h)]
     exact hm
  ·rintro σ Hc ⟨z,r,o,rfl,rfl,hz,hs⟩
   exact ⟨_,rfl,q _ _ ⟨z,rfl,by omega,hs⟩ (Same.refl _) hp⟩
theorem zjt:FnScope ["_law_number_here", "_law_least"] ["_law_number_here", "_law_least"] (zga zqt):=by walk_at "sc"
theorem zhs (T:Txt w K mg A)  : zbk P w K mg B A:=by
 refine FnOk.pure (T.F_q13.okN zjt (λ vs H Q E h=>?_) (λ _ _ _ _ H vs Q E hr h=>?_))
 ·obtain ⟨_,a,⟨rfl,_⟩,_⟩:=h
  rfl
 ·obtain ⟨hp,⟨n,k⟩,⟨hv,h0,h1⟩,q⟩:=h
  obtain rfl:vs=[.int n,.int k]:=hv
  dsimp only at h0 h1 q
  refine ⟨_,(zba (zcb (zja zqb (zra zeb (pv 0) zea) zea (zqa _)) (zda (zna (zra zuc (pv 1) (zra zeb (zra zta (pv 0) zea) (zra zvi (zra zjj zea zea) (pv 1)))))) zka)
   (zba (zcb (zja zqb (zra zeb (pv 0) zea) zea (zqa _)) (zda (zna (zra zvi (zra zvi (zra zjj zea zea) zea) (zra zeb (zra zta (pv 0) zea) zea)))) zka)
   (zda (zna (zra zuc (pv 1) (zra zeb (zra zta (pv 0) zea) zea)))))),?_⟩
  have e30:(10:Int) ^ Int.toNat 30=10 ^ 30:=rfl
  refine ⟨_,rfl,_,_,rfl,rfl,ip_4,rfl,_,rfl,znb (λ _=>?_) (λ _=>?_)⟩
  ·refine ⟨_,rfl,_,rfl,_,_,rfl,rfl,⟨by decide,by decide⟩,_,_,rfl,rfl,⟨by decide,by decide,by decide⟩,_,rfl,_,_,rfl,rfl,_,_,rfl,rfl,(by show (0:Int)<10 ^ Int.toNat 30 - k;rw [e30];omega),_,_,rfl,rfl,q _ _ ⟨_,rfl,?_,?_⟩ (Same.refl _)⟩
   ·have:=Int.emod_nonneg (n / 4) (show (10:Int) ^ Int.toNat 30 - k≠0 by rw [e30];omega)
    omega
   ·have a:=Int.emod_nonneg (n / 4) (show (10:Int) ^ Int.toNat 30 - k≠0 by rw [e30];omega)
    have b:=Int.emod_lt_of_pos (n / 4) (show (0:Int)<10 ^ Int.toNat 30 - k by rw [e30];omega)
    unfold B30
    rw [e30] at a b ⊢
    omega
  refine ⟨_,rfl,_,_,rfl,rfl,ip_4,rfl,_,rfl,znb (λ _=>?_) (λ _=>?_)⟩
  ·refine ⟨_,_,rfl,rfl,⟨by decide,by decide,by decide⟩,_,_,rfl,rfl,_,rfl,_,_,rfl,rfl,⟨by decide,by decide⟩,_,_,rfl,rfl,zum,_,_,rfl,rfl,q _ _ ⟨_,rfl,?_,?_⟩ (Same.refl _)⟩
   ·rw [e30]
    omega
   ·unfold B30
    rw [e30]
    omega
  refine ⟨_,rfl,_,rfl,_,_,rfl,rfl,⟨by decide,by decide⟩,_,_,rfl,rfl,zcw,_,_,rfl,rfl,q _ _ ⟨_,rfl,?_,?_⟩ (Same.refl _)⟩
  ·omega
  ·unfold B30
   omega
theorem zes:FnScope ["_law_number_here"] ["_law_number_here"] (zga zuv):=by walk_at "sc"
theorem zwr (T:Txt w K mg A) (G_q13:zbk P w K mg B A):zym P w K mg B A:=by
 have B_q13:=T.b_q13
 refine T.F_q23.okN zes (λ vs H Q E h=>?_) (λ _ _ _ _ H vs Q E hr h=>?_)
 ·obtain ⟨_,a,⟨rfl,_⟩,_⟩:=h
  rfl
 ·obtain ⟨hp,n,rfl,q,_⟩:=h
  refine ⟨_,(zda (zna (zxa (zaa (zha G_q13 (hr.mono (by decide)) rfl T.g_q13 T.k_q13 B_q13 .nil zxb (zaa (pv 0) (zaa zea zca))) (zaa (zha G_q13 (hr.mono (by decide)) rfl T.g_q13 T.k_q13 B_q13 .nil zxb (zaa (zra zuc (zra zta (pv 0) zea) zea) (zaa zea zca))) zca))))),?_⟩
  refine ⟨_,rfl,hp,(n,0),⟨rfl,Int.le_refl _,by show (0:Int)≤1;decide⟩,λ v hv=>?_⟩
  obtain ⟨a,rfl,a0,ab⟩:=hv
  refine ⟨_,rfl,_,_,rfl,rfl,⟨by decide,by decide⟩,_,_,rfl,rfl,hp,(n / 7+5,1),⟨rfl,by show (0:Int)≤1;decide,by show (1:Int)≤1;decide⟩,λ v hv=>?_⟩
  obtain ⟨c,rfl,c0,cb⟩:=hv
  refine ⟨sz_2,λ t1 hp1=>?_⟩
  generalize hH1:upd H t1 (HO.tup _)=H1
  have s1:Same H H1:=hH1 ▸ zfa hp1
  have P1:Plain H1:=hH1 ▸ hp.tup
  have h1:=(congrFun hH1 t1).symm.trans upd_same
  exact q _ _ ⟨(a,c),⟨t1,_,rfl,SqT.of h1,_,_,rfl,rfl,_,_,rfl,rfl,rfl⟩,⟨a0,c0⟩,ab,cb⟩ s1 P1
theorem zru:FnScope ["_law_number_here"] ["_law_number_here"] (zga zxr):=by walk_at "sc"
theorem zdv (T:Txt w K mg A) (G_q23:zym P w K mg B A):zio P w K mg B A:=by
 have B_q23:=T.b_q23
 refine T.F_q12.okN zru (λ vs H Q E h=>?_) (λ _ _ _ _ H vs Q E hr h=>?_)
 ·obtain ⟨_,a,⟨rfl,_⟩,_⟩:=h
  rfl
 ·obtain ⟨hp,n,rfl,q,_⟩:=h
  refine ⟨_,(zba (zcb (zja zqb (zra zeb (pv 0) zea) zea (zqa _)) (zda (zna zpe)) zka)
   (zda (zna (zha G_q23 (hr.mono (by decide)) rfl T.g_q23 T.k_q23 B_q23 .nil zxb (zaa (zra zta (pv 0) zea) zca))))),?_⟩
  refine ⟨_,rfl,_,_,rfl,rfl,ip_3,rfl,_,rfl,znb (λ _=>?_) (λ _=>?_)⟩
  ·exact q _ _ ⟨none,rfl,λ m e=>by cases e⟩ (Same.refl _) hp
  refine ⟨_,rfl,_,_,rfl,rfl,⟨by decide,by decide⟩,hp,n / 3,rfl,λ v H1 hv s1 P1=>?_,λ _ _ h=>h.elim⟩
  obtain ⟨m,hd,hg,hf⟩:=hv
  exact q _ _ ⟨some m,hd,λ m' e=>by cases e;exact ⟨hg,hf⟩⟩ s1 P1
theorem zls:FnScope ["_law_number_here"] ["_law_number_here"] (zga zuu):=by walk_at "sc"
theorem zmv (T:Txt w K mg A) (G_q13:zbk P w K mg B A):zar P w K mg B A:=by
 have B_q13:=T.b_q13
 refine FnOk.pure (T.F_q29.okN zls (λ vs H Q E h=>?_) (λ _ _ _ _ H vs Q E hr h=>?_))
 ·obtain ⟨_,a,⟨rfl,_⟩,_⟩:=h
  rfl
 ·obtain ⟨hp,n,rfl,q⟩:=h
  refine ⟨_,(zba (zcb (zja zqb (zra zeb (pv 0) zea) zea (zqa _)) (zda (zna (zra zvi zea (zha G_q13 (hr.mono (by decide)) rfl T.g_q13 T.k_q13 B_q13 .nil zxb (zaa (zra zta (pv 0) zea) (zaa zea zca)))))) zka)
   (zda (zna (zha G_q13 (hr.mono (by decide)) rfl T.g_q13 T.k_q13 B_q13 .nil zxb (zaa (zra zta (pv 0) zea) (zaa zea zca)))))),?_⟩
  refine ⟨_,rfl,_,_,rfl,rfl,ip_3,rfl,_,rfl,znb (λ _=>?_) (λ _=>?_)⟩
  ·refine ⟨_,rfl,_,_,rfl,rfl,⟨by decide,by decide⟩,hp,(n / 3,0),⟨rfl,Int.le_refl _,by show (0:Int)≤1;decide⟩,λ v hv=>?_⟩
   obtain ⟨m,rfl,h0,hb⟩:=hv
   refine ⟨_,_,rfl,rfl,q _ _ ⟨_,rfl,?_⟩ (Same.refl _)⟩
   unfold B30 at *
   dsimp only at h0
   omega
  ·refine ⟨_,rfl,_,_,rfl,rfl,⟨by decide,by decide⟩,hp,(n / 3,0),⟨rfl,Int.le_refl _,by show (0:Int)≤1;decide⟩,λ v hv=>?_⟩
   obtain ⟨m,rfl,h0,hb⟩:=hv
   exact q _ _ ⟨_,rfl,hb⟩ (Same.refl _)
theorem sc_q28:FnScope ["_law_way", "_law_number_here", "_law_mark_here"] ["_law_way", "_law_number_here"] (zga zot):=by walk_at "sc"
theorem zbs (T:Txt w K mg A) (G_q15:zzo P w K mg B A) (G_q23:zym P w K mg B A) (G_q12:zio P w K mg B A) (G_q29:zar P w K mg B A):zdq P w K mg B A:=by
 have B_q15:=T.b_q15
 have B_q23:=T.b_q23
 have B_q12:=T.b_q12
 have B_q29:=T.b_q29
 refine T.F_q28.okN sc_q28 (λ vs H Q E h=>?_) (λ _ _ _ _ H vs Q E hr h=>?_)
 ·obtain ⟨_,a,⟨rfl,_⟩,_⟩:=h
  rfl
 ·obtain ⟨hp,⟨w0,n⟩,rfl,q,_⟩:=h
  refine ⟨_,(zba (zza (i:=2) sc_q28.nd rfl (Or.inl rfl) (zha G_q23 (hr.mono (by decide)) rfl T.g_q23 T.k_q23 B_q23 .nil zxb (zaa (pv 1) zca)))
   (zba (zcb (zja zqb (pv 0) zea (zqa _)) (zda (zna (zxa (zaa zma (zaa (zha G_q12 (hr.mono (by decide)) rfl T.g_q12 T.k_q12 B_q12 .nil zxb (zaa (pv 1) zca)) (zaa (zha G_q15 (hr.mono (by decide)) rfl T.g_q15 T.k_q15 B_q15 .nil zxb (zaa (zra zta (pv 1) zea) zca)) zca)))))) zka)
   (zba (zcb (zja zqb (pv 0) zea (zqa _)) (zda (zna (zxa (zaa zma (zaa (pv 2) zca))))) zka)
   (zba (zcb (zja zqb (pv 0) zea (zqa _)) (zda (zna (zxa (zaa zma (zaa (pv 2) (zaa (zha G_q12 (hr.mono (by decide)) rfl T.g_q12 T.k_q12 B_q12 .nil zxb (zaa (zra zta (pv 1) zea) zca)) zca)))))) zka)
   (zba (zcb (zja zqb (pv 0) zea (zqa _)) (zda (zna (zxa (zaa zma (zaa (pv 2) (zaa (zha G_q15 (hr.mono (by decide)) rfl T.g_q15 T.k_q15 B_q15 .nil zxb (zaa (zra zta (pv 1) zea) zca)) zca)))))) zka)
   (zba (zcb (zja zqb (pv 0) zea (zqa _)) (zda (zna (zxa (zaa zma (zaa (pv 2) (zaa (zha G_q29 (hr.mono (by decide)) rfl T.g_q29 T.k_q29 B_q29 .nil zxb (zaa (zra zta (pv 1) zea) zca)) zca)))))) zka)
   (zba (zcb (zja zqb (pv 0) zea (zqa _)) (zda (zna (zxa (zaa zma (zaa (pv 2) zca))))) zka)
   (zda (zna (zxa (zaa zma (zaa (pv 2) (zaa (zha G_q23 (hr.mono (by decide)) rfl T.g_q23 T.k_q23 B_q23 .nil zxb (zaa (zra zta (pv 1) zea) zca)) (zaa (zha G_q12 (hr.mono (by decide)) rfl T.g_q12 T.k_q12 B_q12 .nil zxb (zaa (zra zta (pv 1) zea) zca)) zca)))))))))))))),?_⟩
  refine ⟨_,rfl,hp,n,rfl,λ v H1 hv s1 P1=>?_,λ _ _ h=>h.elim⟩
  obtain ⟨m,hm,mg,mf⟩:=hv
  refine ⟨_,rfl,rfl,_,rfl,znb (λ _=>?_) (λ _=>?_)⟩
  ·refine ⟨_,rfl,P1,_,rfl,λ v2 H2 hv s2 P2=>?_,λ _ _ h=>h.elim⟩
   obtain ⟨o,hd2,ho⟩:=hv
   refine ⟨_,rfl,_,_,rfl,rfl,⟨by decide,by decide⟩,P2,_,rfl,λ v3 H3 hv s3 P3=>?_,λ _ _ h=>h.elim⟩
   obtain ⟨z,rfl,hz,hzs⟩:=hv
   refine ⟨sz_3,λ t4 hp4=>?_⟩
   generalize hH4:upd H3 t4 (HO.tup _)=H4
   have s4:Same H3 H4:=hH4 ▸ zfa hp4
   have P4:Plain H4:=hH4 ▸ P3.tup
   have h4:=(congrFun hH4 t4).symm.trans upd_same
   exact q _ _ ⟨"put",[.bh o,.tx z],⟨t4,_,rfl,SqT.of h4,_,_,rfl,rfl,_,_,rfl,DV.same (s3.trans s4) (Fld.data (.bh o)) _ hd2,_,_,rfl,rfl,rfl⟩,all2 (zqh ho) trivial,zee (show zua "put" = some (Str.ofString "beat" :: [Str.ofString "behind",Str.ofString "words"]) by decide +kernel) (by decide) (.cons (fbh ho) (.cons (fwd hz hzs) .nil)) (all1 trivial)⟩ (((s1.trans s2).trans s3).trans s4) P4
  refine ⟨_,rfl,rfl,_,rfl,znb (λ _=>?_) (λ _=>?_)⟩
  ·refine ⟨_,rfl,?_⟩
   refine ⟨sz_2,λ t5 hp5=>?_⟩
   generalize hH5:upd H1 t5 (HO.tup _)=H5
   have s5:Same H1 H5:=hH5 ▸ zfa hp5
   have P5:Plain H5:=hH5 ▸ P1.tup
   have h5:=(congrFun hH5 t5).symm.trans upd_same
   exact q _ _ ⟨"take",[.mk m],⟨t5,_,rfl,SqT.of h5,_,_,rfl,rfl,_,_,rfl,DV.same (s5) (L2.markD m) _ hm,rfl⟩,all1 mf,zee (show zua "take" = some (Str.ofString "beat" :: [Str.ofString "mark"]) by decide +kernel) (by decide) (.cons (fmk mg (zdn mf)) .nil) all0⟩ (s1.trans s5) P5
  refine ⟨_,rfl,rfl,_,rfl,znb (λ _=>?_) (λ _=>?_)⟩
  ·refine ⟨_,rfl,?_⟩
   refine ⟨_,rfl,_,_,rfl,rfl,⟨by decide,by decide⟩,P1,_,rfl,λ v2 H2 hv s2 P2=>?_,λ _ _ h=>h.elim⟩
   obtain ⟨o,hd2,ho⟩:=hv
   refine ⟨sz_3,λ t6 hp6=>?_⟩
   generalize hH6:upd H2 t6 (HO.tup _)=H6
   have s6:Same H2 H6:=hH6 ▸ zfa hp6
   have P6:Plain H6:=hH6 ▸ P2.tup
   have h6:=(congrFun hH6 t6).symm.trans upd_same
   exact q _ _ ⟨"move",[.mk m,.bh o],⟨t6,_,rfl,SqT.of h6,_,_,rfl,rfl,_,_,rfl,DV.same (s2.trans s6) (L2.markD m) _ hm,_,_,rfl,DV.same s6 (Fld.data (.bh o)) _ hd2,rfl⟩,all2 mf (zqh ho),zee (show zua "move" = some (Str.ofString "beat" :: [Str.ofString "mark",Str.ofString "behind"]) by decide +kernel) (by decide) (.cons (fmk mg (zdn mf)) (.cons (fbh ho) .nil)) (all1 trivial)⟩ ((s1.trans s2).trans s6) P6
  refine ⟨_,rfl,rfl,_,rfl,znb (λ _=>?_) (λ _=>?_)⟩
  ·refine ⟨_,rfl,?_⟩
   refine ⟨_,rfl,_,_,rfl,rfl,⟨by decide,by decide⟩,P1,_,rfl,λ v2 H2 hv s2 P2=>?_,λ _ _ h=>h.elim⟩
   obtain ⟨z,rfl,hz,hzs⟩:=hv
   refine ⟨sz_3,λ t6 hp6=>?_⟩
   generalize hH6:upd H2 t6 (HO.tup _)=H6
   have s6:Same H2 H6:=hH6 ▸ zfa hp6
   have P6:Plain H6:=hH6 ▸ P2.tup
   have h6:=(congrFun hH6 t6).symm.trans upd_same
   exact q _ _ ⟨"write",[.mk m,.tx z],⟨t6,_,rfl,SqT.of h6,_,_,rfl,rfl,_,_,rfl,DV.same (s2.trans s6) (L2.markD m) _ hm,_,_,rfl,rfl,rfl⟩,all2 mf trivial,zee (show zua "write" = some (Str.ofString "beat" :: [Str.ofString "mark",Str.ofString "words"]) by decide +kernel) (by decide) (.cons (fmk mg (zdn mf)) (.cons (fwd hz hzs) .nil)) (all1 trivial)⟩ ((s1.trans s2).trans s6) P6
  refine ⟨_,rfl,rfl,_,rfl,znb (λ _=>?_) (λ _=>?_)⟩
  ·refine ⟨_,rfl,?_⟩
   refine ⟨_,rfl,_,_,rfl,rfl,⟨by decide,by decide⟩,P1,_,rfl,λ v2 hv=>?_⟩
   obtain ⟨k,rfl,hkb⟩:=hv
   refine ⟨sz_3,λ t5 hp5=>?_⟩
   generalize hH5:upd H1 t5 (HO.tup _)=H5
   have s5:Same H1 H5:=hH5 ▸ zfa hp5
   have P5:Plain H5:=hH5 ▸ P1.tup
   have h5:=(congrFun hH5 t5).symm.trans upd_same
   exact q _ _ ⟨"part",[.mk m,.nm k],⟨t5,_,rfl,SqT.of h5,_,_,rfl,rfl,_,_,rfl,DV.same (s5) (L2.markD m) _ hm,_,_,rfl,rfl,rfl⟩,all2 mf hkb,zee (show zua "part" = some (Str.ofString "beat" :: [Str.ofString "mark",Str.ofString "many"]) by decide +kernel) (by decide) (.cons (fmk mg (zdn mf)) (.cons (fmn (zmc hkb)) .nil)) (all1 trivial)⟩ (s1.trans s5) P5
  refine ⟨_,rfl,rfl,_,rfl,znb (λ _=>?_) (λ _=>?_)⟩
  ·refine ⟨_,rfl,?_⟩
   refine ⟨sz_2,λ t5 hp5=>?_⟩
   generalize hH5:upd H1 t5 (HO.tup _)=H5
   have s5:Same H1 H5:=hH5 ▸ zfa hp5
   have P5:Plain H5:=hH5 ▸ P1.tup
   have h5:=(congrFun hH5 t5).symm.trans upd_same
   exact q _ _ ⟨"join",[.mk m],⟨t5,_,rfl,SqT.of h5,_,_,rfl,rfl,_,_,rfl,DV.same (s5) (L2.markD m) _ hm,rfl⟩,all1 mf,zee (show zua "join" = some (Str.ofString "beat" :: [Str.ofString "mark"]) by decide +kernel) (by decide) (.cons (fmk mg (zdn mf)) .nil) all0⟩ (s1.trans s5) P5
  refine ⟨_,rfl,?_⟩
  refine ⟨_,rfl,_,_,rfl,rfl,⟨by decide,by decide⟩,P1,_,rfl,λ v2 H2 hv s2 P2=>?_,λ _ _ h=>h.elim⟩
  obtain ⟨m2,hm2,mg2,mf2⟩:=hv
  refine ⟨_,rfl,_,_,rfl,rfl,⟨by decide,by decide⟩,P2,_,rfl,λ v3 H3 hv s3 P3=>?_,λ _ _ h=>h.elim⟩
  obtain ⟨o,hd3,ho⟩:=hv
  refine ⟨sz_4,λ t4 hp4=>?_⟩
  generalize hH4:upd H3 t4 (HO.tup _)=H4
  have s4:Same H3 H4:=hH4 ▸ zfa hp4
  have P4:Plain H4:=hH4 ▸ P3.tup
  have h4:=(congrFun hH4 t4).symm.trans upd_same
  exact q _ _ ⟨"carry",[.mk m,.mk m2,.bh o],⟨t4,_,rfl,SqT.of h4,_,_,rfl,rfl,_,_,rfl,DV.same ((s2.trans s3).trans s4) (L2.markD m) _ hm,_,_,rfl,DV.same (s3.trans s4) (L2.markD m2) _ hm2,_,_,rfl,DV.same s4 (Fld.data (.bh o)) _ hd3,rfl⟩,all3 mf mf2 (zqh ho),zee (show zua "carry" = some (Str.ofString "beat" :: [Str.ofString "mark",Str.ofString "mark",Str.ofString "behind"]) by decide +kernel) (by decide) (.cons (fmk mg (zdn mf)) (.cons (fmk mg2 (zdn mf2)) (.cons (fbh ho) .nil))) (all2 trivial trivial)⟩ (((s1.trans s2).trans s3).trans s4) P4
theorem sc_q9:FnScope ["_law_number_here", "_law_way", "_law_rest", "_law_beat"] ["_law_number_here"] (zga s_q9):=by walk_at "sc"
theorem zqy (T:Txt w K mg A) (G_q13:zbk P w K mg B A) (G_q28:zdq P w K mg B A):zmw P w K mg B A:=by
 have B_q13:=T.b_q13
 have B_q28:=T.b_q28
 refine T.F_q9.okN sc_q9 (λ vs H Q E h=>?_) (λ _ _ _ _ H vs Q E hr h=>?_)
 ·obtain ⟨_,a,⟨rfl,_⟩,_⟩:=h
  rfl
 ·obtain ⟨hp,n,rfl,q,_⟩:=h
  refine ⟨_,(zba (zza (i:=1) sc_q9.nd rfl (Or.inl rfl) (zra zeb (pv 0) zea))
   (zba (zza (i:=2) sc_q9.nd rfl (Or.inl rfl) (zra zta (pv 0) zea))
   (zba (zza (i:=3) sc_q9.nd rfl (Or.inl rfl) (zha G_q13 (hr.mono (by decide)) rfl T.g_q13 T.k_q13 B_q13 .nil zxb (zaa (zra zta (pv 2) zea) (zaa zea zca))))
   (zba (zcb (zja zlr (pv 1) zea (zqa _)) (zda (zna (zxa (zaa zma (zaa (pv 3) (zaa (zha G_q28 (hr.mono (by decide)) rfl T.g_q28 T.k_q28 B_q28 .nil zxb (zaa (pv 1) (zaa (pv 2) zca))) zca)))))) zka)
   (zba (zcb (zja zqb (pv 1) zea (zqa _)) (zda (zna (zxa (zaa zma (zaa (pv 3) (zaa (zha G_q13 (hr.mono (by decide)) rfl T.g_q13 T.k_q13 B_q13 .nil zxb (zaa (zra zta (pv 2) zea) (zaa zea zca))) (zaa (zha G_q13 (hr.mono (by decide)) rfl T.g_q13 T.k_q13 B_q13 .nil zxb (zaa (zra zta (pv 2) zea) (zaa zea zca))) zca))))))) zka)
   (zba (zcb (zja zqb (pv 1) zea (zqa _)) (zda (zna (zxa (zaa zma (zaa (pv 3) zca))))) zka)
   (zba (zcb (zja zqb (pv 1) zea (zqa _)) (zda (zna (zxa (zaa zma (zaa (pv 3) zca))))) zka)
   (zda (zna (zxa (zaa zma (zaa (pv 3) (zaa (zha G_q13 (hr.mono (by decide)) rfl T.g_q13 T.k_q13 B_q13 .nil zxb (zaa (zra zta (pv 2) zea) (zaa zea zca))) zca))))))))))))),?_⟩
  refine ⟨_,rfl,_,_,rfl,rfl,zwx,?_⟩
  refine ⟨_,rfl,_,_,rfl,rfl,⟨by decide,by decide⟩,?_⟩
  refine ⟨_,rfl,_,_,rfl,rfl,⟨by decide,by decide⟩,hp,(_,1),⟨rfl,by show (0:Int)≤1;decide,by show (1:Int)≤1;decide⟩,λ v hv=>?_⟩
  obtain ⟨b,rfl,b0,bb⟩:=hv
  dsimp only at b0
  refine ⟨_,rfl,_,_,rfl,rfl,_,rfl,znb (λ _=>?_) (λ _=>?_)⟩
  ·refine ⟨_,rfl,_,rfl,_,rfl,hp,(_,_),rfl,λ v H1 hv s1 P1=>?_,λ _ _ h=>h.elim⟩
   obtain ⟨w0,fs,hd,hf,hok⟩:=hv
   refine ⟨sz_3,λ t2 hp2=>?_⟩
   generalize hH2:upd H1 t2 (HO.tup _)=H2
   have s2:Same H1 H2:=hH2 ▸ zfa hp2
   have P2:Plain H2:=hH2 ▸ P1.tup
   have h2:=(congrFun hH2 t2).symm.trans upd_same
   exact q _ _ ⟨(true,w0,.nm b::fs),⟨t2,_,rfl,SqT.of h2,_,_,rfl,rfl,_,_,rfl,rfl,_,_,rfl,DV.same s2 _ _ hd,rfl⟩,hok b b0 (zmc bb),λ f h=>(List.mem_cons.mp h).elim (λ e=>e ▸ bb) (hf f)⟩ (s1.trans s2) P2
  refine ⟨_,rfl,rfl,_,rfl,znb (λ _=>?_) (λ _=>?_)⟩
  ·refine ⟨_,rfl,?_⟩
   refine ⟨_,rfl,_,_,rfl,rfl,⟨by decide,by decide⟩,hp,(_,1),⟨rfl,by show (0:Int)≤1;decide,by show (1:Int)≤1;decide⟩,λ v hv=>?_⟩
   obtain ⟨c,rfl,c0,cb⟩:=hv
   dsimp only at c0
   refine ⟨_,rfl,_,_,rfl,rfl,⟨by decide,by decide⟩,hp,(_,0),⟨rfl,by show (0:Int)≤0;decide,by show (0:Int)≤1;decide⟩,λ v hv=>?_⟩
   obtain ⟨d,rfl,d0,db⟩:=hv
   dsimp only at d0
   refine ⟨sz_4,λ t1 hp1=>?_⟩
   generalize hH1:upd H t1 (HO.tup _)=H1
   have s1:Same H H1:=hH1 ▸ zfa hp1
   have P1:Plain H1:=hH1 ▸ hp.tup
   have h1:=(congrFun hH1 t1).symm.trans upd_same
   exact q _ _ ⟨(false, "begin",[.nm b,.nm c,.nm d]),⟨t1,_,rfl,SqT.of h1,_,_,rfl,rfl,_,_,rfl,rfl,_,_,rfl,rfl,_,_,rfl,rfl,rfl⟩,zkl (show zua "begin" = some (Str.ofString "beat" :: [Str.ofString "window",Str.ofString "save"]) by decide +kernel) (by decide) (.cons (fwn c0 (zmc cb)) (.cons (fsv d0 (zmc db)) .nil)) (all1 trivial) b b0 (zmc bb),all3 bb cb db⟩ s1 P1
  refine ⟨_,rfl,rfl,_,rfl,znb (λ _=>?_) (λ _=>?_)⟩
  ·refine ⟨_,rfl,?_⟩
   refine ⟨sz_2,λ t1 hp1=>?_⟩
   generalize hH1:upd H t1 (HO.tup _)=H1
   have s1:Same H H1:=hH1 ▸ zfa hp1
   have P1:Plain H1:=hH1 ▸ hp.tup
   have h1:=(congrFun hH1 t1).symm.trans upd_same
   exact q _ _ ⟨(false, "undo",[.nm b]),⟨t1,_,rfl,SqT.of h1,_,_,rfl,rfl,_,_,rfl,rfl,rfl⟩,zkl (show zua "undo" = some (Str.ofString "beat" :: []) by decide +kernel) (by decide) .nil all0 b b0 (zmc bb),all1 bb⟩ s1 P1
  refine ⟨_,rfl,rfl,_,rfl,znb (λ _=>?_) (λ _=>?_)⟩
  ·refine ⟨_,rfl,?_⟩
   refine ⟨sz_2,λ t1 hp1=>?_⟩
   generalize hH1:upd H t1 (HO.tup _)=H1
   have s1:Same H H1:=hH1 ▸ zfa hp1
   have P1:Plain H1:=hH1 ▸ hp.tup
   have h1:=(congrFun hH1 t1).symm.trans upd_same
   exact q _ _ ⟨(false, "again",[.nm b]),⟨t1,_,rfl,SqT.of h1,_,_,rfl,rfl,_,_,rfl,rfl,rfl⟩,zkl (show zua "again" = some (Str.ofString "beat" :: []) by decide +kernel) (by decide) .nil all0 b b0 (zmc bb),all1 bb⟩ s1 P1
  refine ⟨_,rfl,?_⟩
  refine ⟨_,rfl,_,_,rfl,rfl,⟨by decide,by decide⟩,hp,(_,0),⟨rfl,by show (0:Int)≤0;decide,by show (0:Int)≤1;decide⟩,λ v hv=>?_⟩
  obtain ⟨c,rfl,c0,cb⟩:=hv
  dsimp only at c0
  refine ⟨sz_3,λ t1 hp1=>?_⟩
  generalize hH1:upd H t1 (HO.tup _)=H1
  have s1:Same H H1:=hH1 ▸ zfa hp1
  have P1:Plain H1:=hH1 ▸ hp.tup
  have h1:=(congrFun hH1 t1).symm.trans upd_same
  exact q _ _ ⟨(false, "reload",[.nm b,.nm c]),⟨t1,_,rfl,SqT.of h1,_,_,rfl,rfl,_,_,rfl,rfl,_,_,rfl,rfl,rfl⟩,zkl (show zua "reload" = some (Str.ofString "beat" :: [Str.ofString "save"]) by decide +kernel) (by decide) (.cons (fsv c0 (zmc cb)) .nil) all0 b b0 (zmc bb),all2 bb cb⟩ s1 P1
theorem zkt:FnScope ["_law_part_here"] ["_law_part_here"] (zga zrt):=by walk_at "sc"
theorem zqv (T:Txt w K mg A)  : zzp P w K mg B A:=by
 refine FnOk.pureH (T.F_q25.okN zkt (λ vs H Q E h=>?_) (λ _ _ _ _ H vs Q E hr h=>?_))
 ·obtain ⟨_,a,⟨x,rfl,_⟩,_⟩:=h
  rfl
 ·obtain ⟨hp,f,⟨x,hv,hd,hpl,hs⟩,q⟩:=h
  obtain rfl:vs=[x]:=hv
  refine ⟨_,(zba (zcb (zja zdl (pv 0) zpe (zqa _)) (zda (zna zma)) zka)
   (zba (zcb (zld (zfb zgh rfl T.n_isinstance (by decide +kernel) (zaa (pv 0) (zaa (zki (v := .ty "tuple") rfl T.n_tuple (by decide +kernel) rfl) zca)))) (zda (zna (zra znd (zra znd (zhb zlb rfl T.n_str (by decide +kernel) (zaa (zrd zmb (pv 0) zea (λ _ _=>rfl)) zca)) zma) (zhb zlb rfl T.n_str (by decide +kernel) (zaa (zrd zmb (pv 0) zea (λ _ _=>rfl)) zca))))) zka)
   (zba (zcb (zld (zfb zjh rfl T.n_isinstance (by decide +kernel) (zaa (pv 0) (zaa (zki (v := .ty "int") rfl T.n_int (by decide +kernel) rfl) zca)))) (zda (zna (zhb zlb rfl T.n_str (by decide +kernel) (zaa (pv 0) zca)))) zka)
   (zda (zna (pv 0)))))),?_⟩
  cases f with
  | vr v=>exact hpl.elim
  | mk m =>
   have b1:=zvc (show B31 m.1 from hs.1)
   have b2:=zvc (show B31 m.2 from hs.2)
   have l1:=zjl b1.1 b1.2
   have l2:=zjl b2.1 b2.2
   have lp:(Str.ofString ".").length=1:=rfl
   obtain ⟨p,rfl,hq⟩:=zmg hd
   refine ⟨_,rfl,rfl,_,rfl,zzd (by intro z;cases z) ?_⟩
   refine ⟨_,rfl,.inl ⟨p,_,rfl,hq,_,rfl,iteT ?_⟩⟩
   refine ⟨_,rfl,p,_,_,.int m.1,rfl,rfl,hq,at0,_,rfl,zco b1.1 b1.2,_,_,rfl,rfl,sm1 ((by (try simp only [zla]);omega)),_,rfl,p,_,_,.int m.2,rfl,rfl,hq,at1,_,rfl,zco b2.1 b2.2,_,_,rfl,rfl,sm1 ((by (try simp only [zla]);omega)),q _ _ rfl (Same.refl _)⟩
  | bh o =>
   cases o with
   | none =>
    have hd:x = .non:=hd
    subst hd
    exact ⟨_,rfl,rfl,_,rfl,zqi rfl (q _ _ rfl (Same.refl _))⟩
   | some m =>
    have hs:zge m:=hs m rfl
    have b1:=zvc (show B31 m.1 from hs.1)
    have b2:=zvc (show B31 m.2 from hs.2)
    have l1:=zjl b1.1 b1.2
    have l2:=zjl b2.1 b2.2
    have lp:(Str.ofString ".").length=1:=rfl
    obtain ⟨p,rfl,hq⟩:=zmg hd
    refine ⟨_,rfl,rfl,_,rfl,zzd (by intro z;cases z) ?_⟩
    refine ⟨_,rfl,.inl ⟨p,_,rfl,hq,_,rfl,iteT ?_⟩⟩
    refine ⟨_,rfl,p,_,_,.int m.1,rfl,rfl,hq,at0,_,rfl,zco b1.1 b1.2,_,_,rfl,rfl,sm1 ((by (try simp only [zla]);omega)),_,rfl,p,_,_,.int m.2,rfl,rfl,hq,at1,_,rfl,zco b2.1 b2.2,_,_,rfl,rfl,sm1 ((by (try simp only [zla]);omega)),q _ _ rfl (Same.refl _)⟩
  | tx z =>
   have hd:x = .str z:=hd
   subst hd
   refine ⟨_,rfl,rfl,_,rfl,zzd (by intro z;cases z) ?_⟩
   refine ⟨_,rfl,.inr (.inr ⟨z,rfl,_,rfl,iteF ?_⟩)⟩
   refine ⟨_,rfl,.inr ⟨z,rfl,_,rfl,iteF ?_⟩⟩
   exact ⟨_,rfl,q _ _ rfl (Same.refl _)⟩
  | nm n =>
   have b1:=zvc (show B31 n from hs)
   have hd:x = .int n:=hd
   subst hd
   refine ⟨_,rfl,rfl,_,rfl,zzd (by intro z;cases z) ?_⟩
   refine ⟨_,rfl,.inr (.inl ⟨n,rfl,_,rfl,iteF ?_⟩)⟩
   refine ⟨_,rfl,.inl ⟨n,rfl,_,rfl,iteT ?_⟩⟩
   exact ⟨_,rfl,_,rfl,zco b1.1 b1.2,q _ _ rfl (Same.refl _)⟩
theorem sc_q31:FnScope ["_law_record_here", "_law_parts"] ["_law_record_here"] (zga zwv):=by walk_at "sc"
theorem zrv (T:Txt w K mg A) (G_q25:zzp P w K mg B A):zso P w K mg B A:=by
 have B_q25:=T.b_q25
 refine T.F_q31.okN sc_q31 (λ vs H Q E h=>?_) (λ _ _ _ _ H vs Q E hr h=>?_)
 ·obtain ⟨_,a,⟨x,rfl,_⟩,_⟩:=h
  rfl
 ·obtain ⟨hp,⟨dd,w0,fs⟩,⟨x,hv,hd,ho⟩,q,_⟩:=h
  obtain rfl:vs=[x]:=hv
  dsimp only at hd ho q
  refine ⟨_,(zba (zza (i:=1) sc_q31.nd rfl (Or.inl rfl) (zhb zfd rfl T.n_list (by decide +kernel) (zaa (pv 0) zca)))
   (zba (zcb (zja zqb (zrd zmb (pv 0) zea (λ _ _=>rfl)) zma (zqa _)) (zda (zza (i:=1) sc_q31.nd rfl (Or.inl rfl) (zra zcp (zbo (zaa (zrd zmb (zrd zmb (pv 0) zea (λ _ _=>rfl)) zea (λ _ _=>rfl)) (zaa (zrd zmb (pv 0) zea (λ _ _=>rfl)) zca))) (zhb zfd rfl T.n_list (by decide +kernel) (zaa (zbc zcf (zrd zmb (pv 0) zea (λ _ _=>rfl)) (zsd zea) zbd) zca))))) zka)
   (zda (zna (zqj PySem.F.plainAttrs_str PySem.F.slot_str_join PySem.F.type_str_join zcg zma (zaa (zsl ["_law_part_here"] 1 [] rfl (zaj (pv 1)) gk1 (λ _ _ _ _ _=>zpa (i:=0) (show List.Nodup (["_law_part_here"]:List Str) by decide +kernel) rfl (Or.inl rfl)) (λ _ _ _ _ _=>ztc) (λ _ _ _ _ _=>(zha G_q25 (hr.mono (by decide)) rfl T.g_q25 T.k_q25 B_q25 .nil zxb (zaa (pv 0) zca)))) zca)))))),?_⟩
  obtain ⟨hl6,hn4,hsm⟩:=zye ho
  obtain ⟨ks,hsh,hpk,_,b,fr,hfs⟩:=ho.all
  have hw6:=zub ho.d
  have hpl:∀ f∈fs,f.plain:=λ f hf=>let ⟨k,o⟩:=zrb hpk f hf;o.p
  dsimp only at hl6 hn4 hsm hsh hpk hfs hw6
  obtain ⟨t,vs,rfl,hq,hcs⟩:=zpm hd (b:=b) (fr:=fr) hfs
  dsimp only at hcs
  refine ⟨_,rfl,t,_,rfl,.inr hq,λ l1 hp1=>?_⟩
  generalize hH1:upd H l1 (HO.lst _)=H1
  have s1:Same H H1:=hH1 ▸ zfa hp1
  have P1:Plain H1:=hH1 ▸ hp.lst
  have h1:=(congrFun hH1 l1).symm.trans upd_same
  apply zhy (α:=Addr) (β:=Hp) (ok:=λ lp He=>Same H He∧Plain He∧∃ xs,He lp=some (.lst xs)∧DVs K He ((Fld.tx w0::fs).map Fld.data) xs)
  ·intro R
   have hcs':=hcs
   rcases hcs' with ⟨hdt,t2,ys,hvs,hq2,hys⟩ | ⟨hdt,ys,hvs,hys⟩
   ·have hq':=hq
    rw [hvs] at hq'
    have hyl:ys.length≤4:=by rw [hys.length,List.length_map];rw [hfs,List.length_cons] at hn4;omega
    have hq1:=s1.seqT hq'
    refine ⟨_,rfl,t,_,_,.str "deed",rfl,rfl,hq1,at0,rfl,_,rfl,zqi rfl ?_⟩
    refine ⟨_,rfl,t,_,_,.ref t2,rfl,rfl,hq1,at2,t2,_,_,.str w0,rfl,rfl,s1.seqT hq2,at0,_,rfl,t,_,_,.int b,rfl,rfl,hq1,at1,sz_2,λ l2 hp2=>?_⟩
    generalize hH2:upd H1 l2 (HO.lst _)=H2
    have s2:Same H1 H2:=hH2 ▸ zfa hp2
    have P2:Plain H2:=hH2 ▸ P1.lst
    have h2:=(congrFun hH2 l2).symm.trans upd_same
    refine ⟨_,rfl,t,_,_,.ref t2,rfl,rfl,s2.seqT hq1,at2,_,rfl,t2,_,rfl,(s1.trans s2).seqT hq2,λ t3 H3 ht3 s3 p3=>?_⟩
    rw [show cutV (V.str w0::ys) (some 1) none=ys by rw [zkd (by decide)];rfl] at ht3
    have P3:=p3 P2
    refine ⟨t3,_,rfl,.inr ht3,λ l4 hp4=>?_⟩
    generalize hH4:upd H3 l4 (HO.lst _)=H4
    have s4:Same H3 H4:=hH4 ▸ zfa hp4
    have P4:Plain H4:=hH4 ▸ P3.lst
    have h4:=(congrFun hH4 l4).symm.trans upd_same
    refine ⟨l2,l4,_,_,rfl,rfl,(s3.trans s4) _ _ h2,h4,sm1 ((by show 2+ys.length≤1000;omega)),λ l5 hp5=>?_⟩
    generalize hH5:upd H4 l5 (HO.lst _)=H5
    have s5:Same H4 H5:=hH5 ▸ zfa hp5
    have P5:Plain H5:=hH5 ▸ P4.lst
    have h5:=(congrFun hH5 l5).symm.trans upd_same
    have S5:=(((s1.trans s2).trans s3).trans s4).trans s5
    exact R l5 H5 ⟨S5,P5,_,h5,by rw [hfs];exact ⟨_,_,rfl,rfl,_,_,rfl,rfl,DVs.same S5 _ _ hys⟩⟩
   ·have hq':=hq
    rw [hvs] at hq'
    have h1':=h1
    rw [hvs] at h1'
    refine ⟨_,rfl,t,_,_,.str w0,rfl,rfl,s1.seqT hq',at0,rfl,_,rfl,zzd (λ e=>hw6.2.2.2 (V.str.inj e)) ?_⟩
    exact R l1 H1 ⟨s1,P1,_,h1',_,_,rfl,rfl,DVs.same s1 _ _ hys⟩
  rintro lp He ⟨Se,Pe,xs,hlp,hxs⟩
  have hxl:xs.length=fs.length+1:=by rw [hxs.length,List.length_map,List.length_cons]
  refine ⟨rfl,_,rfl,lp,rfl,⟨_,SqL.of hlp⟩,λ D hD=>zjd (n:=xs.length) (λ i=>xs.getD i .non) (λ i y _=>∃ f,(Fld.tx w0::fs)[i]? = some f∧y = .str f.text) hD Pe ?_ (zcn (SqL.of hlp)) (λ _ _ _ _ h _ _=>h) ?_ ?_⟩
  ·exact sm1 ((by omega))
  ·intro i H6 R hi P6 S6 hR
   have hi':i<(Fld.tx w0::fs).length:=by rw [List.length_cons];omega
   have hf:(Fld.tx w0::fs)[i]? = some (Fld.tx w0::fs)[i]:=List.getElem?_eq_getElem hi'
   have hfm:(Fld.tx w0::fs)[i]∈Fld.tx w0::fs:=List.getElem_mem hi'
   generalize (Fld.tx w0::fs)[i]=f at hf hfm
   obtain ⟨y,hy,hdy⟩:=(DVs.same S6 _ _ hxs).get (i:=i) (d:=f.data) (by rw [List.getElem?_map,hf];rfl)
   rw [show xs.getD i .non=y by rw [List.getD_eq_getElem?_getD,hy];rfl]
   have hps:f.plain∧f.small:=by
    rcases List.mem_cons.mp hfm with rfl | h
    ·exact ⟨trivial,by show w0.length≤13;omega⟩
    ·exact ⟨hpl f h,hsm f h⟩
   refine ⟨_,rfl,P6,f,⟨_,rfl,hdy,hps.1,hps.2⟩,λ v hv=>?_⟩
   exact hR _ _ ⟨f,hf,hv⟩ (Same.refl _) P6
  intro us H7 hl7 hr7 hd7 S7 P7
  have eu:us=(Fld.tx w0::fs).map λ f=>V.str f.text:=znk (by rw [hl7,hxl,List.length_cons]) hr7
  rw [show ((Fld.tx w0::fs).map λ f=>V.str f.text)=(w0::fs.map Fld.text).map V.str by rw [List.map_cons,List.map_cons,List.map_map];rfl] at eu
  subst eu
  refine ⟨_,D,w0::fs.map Fld.text,rfl,rfl,SqL.of hd7,?_,q _ _ rfl (Se.trans S7) P7⟩
  have n1:(Str.ofString " ").length=1:=rfl
  have wt:∀ gs:List Fld,(∀ f∈gs,f.small)→((gs.map Fld.text).map (·.length)).sum≤gs.length * 1000:=λ gs h=>zmh λ f hf=>Nat.le_trans (zuj (h f hf)) (by cases f <;> first | exact (show 542≤1000 by decide) | exact (show 65≤1000 by decide))
  have:=wt fs hsm
  rw [n1,List.map_cons,List.sum_cons,List.length_cons,List.length_map]
  omega
theorem sc_q18:FnScope ["_law_record_here", "_law_number_here", "_law_mark_here"] ["_law_record_here", "_law_number_here"] (zga zvr):=by walk_at "sc"
theorem zcs (T:Txt w K mg A)  : zpp P w K mg B A:=by
 refine T.F_q18.okN sc_q18 (λ vs H Q E h=>?_) (λ _ _ _ _ H vs Q E hr h=>?_)
 ·obtain ⟨_,a,⟨x,rfl,_⟩,_⟩:=h
  rfl
 ·obtain ⟨hp,⟨⟨dd,w0,fs⟩,n⟩,⟨x,hv,hd,ho⟩,q,_⟩:=h
  obtain rfl:vs=[x,.int n]:=hv
  dsimp only at hd ho q
  refine ⟨_,(zba (zcb (PW.pt (zkq (zja zqb (zrd zmb (pv 0) zea (λ _ _=>rfl)) zma (zqa _)) (zvl (zja zqb (zra zeb (pv 1) zea) zea (zqa _))))) (zba (zza (i:=2) sc_q18.nd rfl (Or.inl rfl) (zxa (zaa (zra zeb (zra zta (pv 1) zea) zea) (zaa (zra zuc (zra zjj zea zea) (zra zeb (zra zta (pv 1) zea) zea)) zca))))
   (zda (zna (zxa (zaa zma (zaa (zrd zmb (pv 0) zea (λ _ _=>rfl)) (zaa (zxa (zaa zma (zaa (pv 2) zca))) zca))))))) zka)
   (zba (zcb (zja zqb (zrd zmb (pv 0) zea (λ _ _=>rfl)) zma (zqa _)) (zda (zna (zxa (zaa zma (zaa (zrd zmb (pv 0) zea (λ _ _=>rfl)) (zaa (zxa (zaa zma (zaa (zxa (zaa zea (zaa zea zca))) (zaa (zra zdd (zra zjj zea zea) (zra zvi zea (zra zdd (zra zeb (zra zta (pv 1) zea) zea) zea))) zca)))) zca)))))) zka)
   (zda (zna (zra zrg (zxa (zaa (zrd zmb (pv 0) zea (λ _ _=>rfl)) (zaa (zra zuc (zra zjj zea zea) (zra zeb (pv 1) zea)) zca))) (zbc zcf (pv 0) (zsd zea) zbd)))))),?_⟩
  have e30:(10:Int) ^ Int.toNat 30=10 ^ 30:=rfl
  obtain ⟨hdr,ks,b,fr,hsh,hfs,hb1,hb31,hpk,hbr⟩:=id ho
  dsimp only at hdr hsh hfs
  obtain ⟨t,vs,rfl,hq,hcs⟩:=zpm hd (b:=b) (fr:=fr) hfs
  dsimp only at hcs
  have hw6:=(zub (w:=w0) (d:=dd) hdr).2.2.2
  rcases hcs with ⟨hdt,t2,ys,rfl,hq2,hys⟩ | ⟨hdt,ys,rfl,hys⟩
  ·apply join (α:=Nat) (ok:=λ _=>True)
   ·intro R
    obtain ⟨n0,_⟩:∃ n:Nat,n=n:=⟨0,rfl⟩
    refine ⟨_,rfl,t,_,_,.str "deed",rfl,rfl,hq,at0,rfl,_,rfl,zqi rfl ?_⟩
    refine ⟨_,rfl,_,_,rfl,rfl,ip_2,rfl,_,rfl,znb (λ _=>?_) (λ _=>R n0 trivial)⟩
    refine ⟨_,rfl,_,_,rfl,rfl,⟨by decide,by decide⟩,_,_,rfl,rfl,ip_9,_,_,rfl,rfl,⟨by decide,by decide,by decide⟩,_,rfl,_,_,rfl,rfl,⟨by decide,by decide⟩,_,_,rfl,rfl,zum,_,_,rfl,rfl,sz_2,λ t1 hp1=>?_⟩
    generalize hH1:upd H t1 (HO.tup _)=H1
    have s1:Same H H1:=hH1 ▸ zfa hp1
    have P1:Plain H1:=hH1 ▸ hp.tup
    have h1:=(congrFun hH1 t1).symm.trans upd_same
    refine ⟨_,rfl,t,_,_,.int b,rfl,rfl,s1.seqT hq,at1,_,rfl,sz_2,λ t3 hp3=>?_⟩
    generalize hH3:upd H1 t3 (HO.tup _)=H3
    have s3:Same H1 H3:=hH3 ▸ zfa hp3
    have P3:Plain H3:=hH3 ▸ P1.tup
    have h3:=(congrFun hH3 t3).symm.trans upd_same
    refine ⟨sz_3,λ t4 hp4=>?_⟩
    generalize hH4:upd H3 t4 (HO.tup _)=H4
    have s4:Same H3 H4:=hH4 ▸ zfa hp4
    have P4:Plain H4:=hH4 ▸ P3.tup
    have h4:=(congrFun hH4 t4).symm.trans upd_same
    have hm:zkm (n / 2 % 9,10 ^ Int.toNat 30+n / 18 % 100)∧zge (n / 2 % 9,10 ^ Int.toNat 30+n / 18 % 100)∧¬ B30 (10 ^ Int.toNat 30+n / 18 % 100):=by
     rw [e30]
     refine ⟨⟨?_,?_⟩,⟨?_,?_⟩,?_⟩
     ·show 0≤n / 2 % 9
      omega
     ·show 1≤10 ^ 30+n / 18 % 100
      omega
     ·show B31 (n / 2 % 9)
      unfold B31
      omega
     ·show B31 (10 ^ 30+n / 18 % 100)
      unfold B31
      omega
     ·unfold B30
      omega
    exact q _ _ ⟨(true, "join",[.nm b,.mk (n / 2 % 9,10 ^ Int.toNat 30+n / 18 % 100)]),⟨t4,_,rfl,SqT.of h4,_,_,rfl,rfl,_,_,rfl,rfl,_,_,rfl,⟨t3,_,rfl,SqT.of (s4 _ _ h3),_,_,rfl,rfl,_,_,rfl,⟨t1,_,rfl,SqT.of ((s3.trans s4) _ _ h1),_,_,rfl,rfl,_,_,rfl,rfl,rfl⟩,rfl⟩,rfl⟩,zee (show zua "join" = some (Str.ofString "beat" :: [Str.ofString "mark"]) by decide +kernel) (by decide) (.cons (fmk hm.1 hm.2.1) .nil) all0 b hb1 hb31,λ x=>hm.2.2 (show mFit _ from x (.mk (n / 2 % 9,10 ^ Int.toNat 30+n / 18 % 100)) (List.mem_cons_of_mem _ List.mem_cons_self)).2⟩ ((s1.trans s3).trans s4) P4
   intro _ _
   refine ⟨_,rfl,t,_,_,.str "deed",rfl,rfl,hq,at0,rfl,_,rfl,zqi rfl ?_⟩
   refine ⟨_,rfl,t,_,_,.int b,rfl,rfl,hq,at1,sz_2,λ t1 hp1=>?_⟩
   generalize hH1:upd H t1 (HO.tup _)=H1
   have s1:Same H H1:=hH1 ▸ zfa hp1
   have P1:Plain H1:=hH1 ▸ hp.tup
   have h1:=(congrFun hH1 t1).symm.trans upd_same
   refine ⟨_,_,rfl,rfl,⟨by decide,by decide,by decide⟩,_,rfl,_,_,rfl,rfl,⟨by decide,by decide⟩,_,_,rfl,rfl,ip_2,_,_,rfl,rfl,Or.inr ⟨by decide,by decide⟩,_,_,rfl,rfl,_,_,rfl,rfl,Or.inr ⟨by show -(2 ^ 64)<1 - n / 2 % 2 * 2;omega,by show 1 - n / 2 % 2 * 2<2 ^ 64;omega⟩,sz_3,λ t3 hp3=>?_⟩
   generalize hH3:upd H1 t3 (HO.tup _)=H3
   have s3:Same H1 H3:=hH3 ▸ zfa hp3
   have P3:Plain H3:=hH3 ▸ P1.tup
   have h3:=(congrFun hH3 t3).symm.trans upd_same
   refine ⟨sz_3,λ t4 hp4=>?_⟩
   generalize hH4:upd H3 t4 (HO.tup _)=H4
   have s4:Same H3 H4:=hH4 ▸ zfa hp4
   have P4:Plain H4:=hH4 ▸ P3.tup
   have h4:=(congrFun hH4 t4).symm.trans upd_same
   have hk:B31 (10 ^ Int.toNat 30 * (1 - n / 2 % 2 * 2))∧¬ B30 (10 ^ Int.toNat 30 * (1 - n / 2 % 2 * 2)):=by
    rw [e30]
    unfold B31 B30
    have h01:n / 2 % 2=0 ∨ n / 2 % 2=1:=by omega
    rcases h01 with e | e <;> rw [e] <;> decide
   exact q _ _ ⟨(true, "part",[.nm b,.mk (1,1),.nm (10 ^ Int.toNat 30 * (1 - n / 2 % 2 * 2))]),⟨t4,_,rfl,SqT.of h4,_,_,rfl,rfl,_,_,rfl,rfl,_,_,rfl,⟨t3,_,rfl,SqT.of (s4 _ _ h3),_,_,rfl,rfl,_,_,rfl,⟨t1,_,rfl,SqT.of ((s3.trans s4) _ _ h1),_,_,rfl,rfl,_,_,rfl,rfl,rfl⟩,_,_,rfl,rfl,rfl⟩,rfl⟩,zee (show zua "part" = some (Str.ofString "beat" :: [Str.ofString "mark",Str.ofString "many"]) by decide +kernel) (by decide) (.cons (fmk ⟨by decide,by decide⟩ ⟨by unfold B31;decide,by unfold B31;decide⟩) (.cons (fmn hk.1) .nil)) (all1 trivial) b hb1 hb31,λ x=>hk.2 (show B30 _ from x (.nm (10 ^ Int.toNat 30 * (1 - n / 2 % 2 * 2))) (List.mem_cons_of_mem _ (List.mem_cons_of_mem _ List.mem_cons_self)))⟩ ((s1.trans s3).trans s4) P4
  ·refine ⟨_,rfl,t,_,_,.str w0,rfl,rfl,hq,at0,rfl,_,rfl,zzd (λ e=>hw6 (V.str.inj e)) ?_⟩
   refine ⟨_,rfl,t,_,_,.str w0,rfl,rfl,hq,at0,rfl,_,rfl,zzd (λ e=>hw6 (V.str.inj e)) ?_⟩
   rw [hfs] at hys
   obtain ⟨y0,yr,rfl,e0,hyr⟩:=hys
   have e0:y0 = .int b:=e0
   subst e0
   have hyl:yr.length≤4:=by
    have hl4:=(zye ho).2.1
    dsimp only at hl4
    rw [hfs,List.length_cons] at hl4
    rw [hyr.length,List.length_map]
    omega
   refine ⟨_,rfl,t,_,_,.str w0,rfl,rfl,hq,at0,_,_,rfl,rfl,⟨by decide,by decide,by decide⟩,_,rfl,_,_,rfl,rfl,zum,_,_,rfl,rfl,sz_2,λ t1 hp1=>?_⟩
   generalize hH1:upd H t1 (HO.tup _)=H1
   have s1:Same H H1:=hH1 ▸ zfa hp1
   have P1:Plain H1:=hH1 ▸ hp.tup
   have h1:=(congrFun hH1 t1).symm.trans upd_same
   refine ⟨_,rfl,_,rfl,t,_,rfl,s1.seqT hq,λ t2 H2 ht2 s2 p2=>?_⟩
   rw [show cutV (V.str w0::V.int b::yr) (some 2) none=yr by rw [zkd (by decide)];rfl] at ht2
   refine ⟨t1,t2,_,_,rfl,rfl,SqT.of (s2 _ _ h1),ht2,sm1 ((by show 2+yr.length≤1000;omega)),λ t3 H3 ht3 s3 p3=>?_⟩
   have hk:1≤(10:Int) ^ Int.toNat 30+n % 100∧B31 (10 ^ Int.toNat 30+n % 100)∧¬ B30 (10 ^ Int.toNat 30+n % 100):=by
    rw [e30]
    unfold B31 B30
    omega
   have hnt:w0∈NTS:=by
    unfold rOk at hdr
    rw [if_neg hdt] at hdr
    exact hdr
   refine q _ _ ⟨(false,w0,.nm (10 ^ Int.toNat 30+n % 100)::fr),⟨t3,_,rfl,ht3,_,_,rfl,rfl,_,_,rfl,rfl,DVs.same ((s1.trans s2).trans s3) _ _ hyr⟩,⟨hnt,ks,_,fr,hsh,rfl,hk.1,hk.2.1,hpk,hbr⟩,λ x=>hk.2.2 (x (.nm _) List.mem_cons_self)⟩ ((s1.trans s2).trans s3) (p3 (p2 P1))
theorem sc_q1:FnScope ["_law_record_here", "_law_row_here", "_law_refusal", "e"] ["_law_record_here", "_law_row_here"] (zga s_q1):=by walk_at "sc"
theorem zby (T:Txt w K mg A) (G_q0:zzr P w K mg B A) (G_q33:zhn P w K mg B A):zuw P w K mg B A:=by
 have B_q0:=T.b_q0
 have B_q33:=T.b_q33
 refine T.F_q1.okN sc_q1 (λ vs H Q E h=>?_) (λ _ _ _ _ H vs Q E hr h=>?_)
 ·obtain ⟨_,a,⟨x,rfl,_⟩,_⟩:=h
  rfl
 ·obtain ⟨hp,⟨r,z⟩,⟨x,hv,ha⟩,q,_⟩:=h
  obtain rfl:vs=[x,.str z]:=hv
  dsimp only at ha q
  refine ⟨_,(zba (zza (i:=2) sc_q1.nd rfl (Or.inl rfl) zpe)
   (zba (zsq (i:=3) sc_q1.nd T.x_DraftError rfl T.g_DraftError ⟨⟨_,_,_,rfl,rfl,rfl⟩⟩ (λ _ _ _ _ hx=>(zda (zcb (zja zdl (pv 0) zpe (zqa _)) (zda (zgg (zwh G_q0 (hr.mono (by decide)) rfl T.g_q0 T.k_q0 B_q0 .nil hx (zaa (pv 1) zca)))) (zda (zgg (zwh G_q33 (hr.mono (by decide)) rfl T.g_q33 T.k_q33 B_q33 .nil hx (zaa (pv 0) zca))))))) (λ _=>(zda (zza (i:=2) sc_q1.nd rfl (Or.inl rfl) (pv 3)))))
   (zba (zcb (PW.pt (zrm (zle (zld (zfb zwe rfl T.n_isinstance (by decide +kernel) (zaa (pv 2) (zaa (zdb (v := .ref A.NoText) rfl T.g_NoText rfl) zca))))) (zfh (zle (zld (zfb zwe rfl T.n_isinstance (by decide +kernel) (zaa (pv 2) (zaa (zki (v := .ty "ValueError") rfl T.n_ValueError (by decide +kernel) rfl) zca)))))))) (zda (zna zor)) zka)
   (zda (zna (zds (zfb zkh rfl T.n_isinstance (by decide +kernel) (zaa (pv 2) (zaa (zxa (zaa (zdb (v := .ref A.NoBuilt) rfl T.g_NoBuilt rfl) (zaa (zdb (v := .ref A.NoPaper) rfl T.g_NoPaper rfl) (zaa (zdb (v := .ref A.NoRow) rfl T.g_NoRow rfl) zca)))) zca))))))))),?_⟩
  refine ⟨λ c _ H2=>c = .ref A.NoText∧Same H H2∧Plain H2,?_,λ C y H2 hEX hy=>?_⟩
  ·refine ⟨_,rfl,rfl,_,rfl,?_⟩
   rcases ha with ⟨rfl,rfl,hz,hno⟩ | ⟨r,rfl,hd,ho,hnf⟩
   ·refine zqi rfl ⟨rfl,_,rfl,hp,z,⟨rfl,hz⟩,λ u H2 hu s2 P2=>?_,λ C H2 hC s2 P2=>⟨by rw [hC.1],s2,P2⟩⟩
    obtain ⟨d,_,e⟩:=hu
    rw [hno] at e
    cases e
   ·obtain ⟨ks,_,_,_,b,fr,hfs⟩:=ho.all
    obtain ⟨t,vs,rfl,_,_⟩:=zpm hd (b:=b) (fr:=fr) hfs
    exact zzd (by intro e;cases e) ⟨rfl,_,rfl,hp,r,⟨_,rfl,hd,ho⟩,λ u H2 hu s2 P2=>absurd hu.1 hnf,λ C H2 hC s2 P2=>⟨by rw [hC.1],s2,P2⟩⟩
  ·obtain ⟨hC,s2,P2⟩:=hEX
   obtain rfl:C=A.NoText:=by cases hC;rfl
   refine ⟨T.x_NoText,T.m_nd,?_⟩
   refine ⟨_,rfl,?_⟩
   have S2:=s2.upd (s2.free hy) (o:=excO y A.NoText)
   have P3:Plain (upd H2 y (excO y A.NoText)):=P2.upd trivial
   refine ⟨_,rfl,_,_,_,_,_,rfl,upd_same,T.x_NoText,rfl,(by show (if (Value.ref _ == Value.ref _)=true then _ else _)=_;rw [if_pos (beq_self_eq_true _)]),true,rfl,iteF ?_⟩
   refine ⟨_,rfl,_,_,_,_,_,rfl,upd_same,T.x_NoText,rfl,T.kv,true,rfl,iteF ?_⟩
   refine ⟨_,rfl,(sz_3),λ tp htp=>?_⟩
   refine ⟨_,_,_,_,_,_,rfl,by rw [zva (zab upd_same htp)];exact upd_same,T.x_NoText,upd_same,rfl,T.kt,_,rfl,q _ _ rfl (S2.trans (zfa htp)) P3.tup⟩
theorem sc_q14:FnScope ["_law_cell", "_law_k", "_law_one", "_law_two", "_law_three", "_law_four"] ["_law_cell", "_law_k"] (zga zdw):=by walk_at "sc"
theorem zqs (T:Txt w K mg A)  : zhq P w K mg B A:=by
 refine FnOk.pure (T.F_q14.okN sc_q14 (λ vs H Q E h=>?_) (λ _ _ _ _ H vs Q E hr h=>?_))
 ·obtain ⟨_,a,⟨rfl,_⟩,_⟩:=h
  rfl
 ·obtain ⟨hp,⟨c,k⟩,⟨hv,h0,h1⟩,q⟩:=h
  obtain rfl:vs=[.int c,.int k]:=hv
  dsimp only at h0 h1
  refine ⟨_,(zba (zza (i:=2) sc_q14.nd rfl (Or.inl rfl) (zra zuc (zra zuc (zra zeb (zra zdd (zra zuc (zra zeb (pv 0) zea) zea) zea) zea) (zra zdd (zra zdd (pv 1) (pv 1)) zea)) (pv 1)))
   (zba (zza (i:=3) sc_q14.nd rfl (Or.inl rfl) (zra zta (zra zeb (zra zdd (pv 2) zea) zea) zea))
   (zba (zza (i:=4) sc_q14.nd rfl (Or.inl rfl) (zra zta (zra zeb (zra zdd (pv 2) zea) zea) zea))
   (zba (zza (i:=5) sc_q14.nd rfl (Or.inl rfl) (zra zta (zra zeb (zra zuc (zra zdd (pv 3) zea) (pv 2)) zea) zea))
   (zda (zna (zra zuc (zra zdd (zra zuc (zra zdd (pv 5) zea) (pv 4)) zea) (pv 3)))))))),?_⟩
  walk_at "rd"
  refine ⟨Or.inr ⟨by omega,by omega⟩,?_⟩
  walk_at "rd"
  exact q _ _ ⟨_,rfl⟩ (Same.refl _)
theorem sc_law:FnScope ["_law_script", "_law_k", "_law_cell", "_law_number_here", "_law_record_here", "_law_row_here", "_law_great_here"] ["_law_script"] (zga zeo):=by walk_at "sc"
theorem zhu (T:Txt w K mg A) (G_q0:zzr P w K mg B A) (G_q33:zhn P w K mg B A) (G_q9:zmw P w K mg B A) (G_q31:zso P w K mg B A) (G_q18:zpp P w K mg B A) (G_q1:zuw P w K mg B A) (G_q14:zhq P w K mg B A):zeu P w K mg B A:=by
 have B_q0:=T.b_q0
 have B_q33:=T.b_q33
 have B_q9:=T.b_q9
 have B_q31:=T.b_q31
 have B_q18:=T.b_q18
 have B_q1:=T.b_q1
 have B_q14:=T.b_q14
 refine T.F_law.okN sc_law (λ vs H Q E h=>?_) (λ _ _ _ _ H vs Q E hr h=>?_)
 ·obtain ⟨a,ns,rfl,_⟩:=h
  rfl
 ·obtain ⟨a,ns,rfl,hS,hlen,kq,hP⟩:=h
  refine ⟨_,(zba (zap PassesOwn.never rfl (zxo rfl T.n_enumerate (by decide +kernel) (zaa (zbc zeq (pv 0) zbd (zsd zea)) zca)) (zgf rfl (zoa (zpa (i:=1) sc_law.nd rfl (Or.inl rfl)) (zoa (zpa (i:=2) sc_law.nd rfl (Or.inl rfl)) zac))) (zba (zza (i:=3) sc_law.nd rfl (Or.inl rfl) (zra zta (pv 2) zea))
   (zba (zcb (zja zqb (zra zeb (pv 2) zea) zea (zqa _)) (zda (zza (i:=3) sc_law.nd rfl (Or.inl rfl) (zha G_q14 (hr.mono (by decide)) rfl T.g_q14 T.k_q14 B_q14 .nil zxb (zaa (pv 2) (zaa (pv 1) zca))))) zka)
   (zba (zza (i:=4) sc_law.nd rfl (Or.inl rfl) (zha G_q9 (hr.mono (by decide)) rfl T.g_q9 T.k_q9 B_q9 .nil zxb (zaa (pv 3) zca)))
   (zba (zza (i:=5) sc_law.nd rfl (Or.inl rfl) (zha G_q31 (hr.mono (by decide)) rfl T.g_q31 T.k_q31 B_q31 .nil zxb (zaa (pv 4) zca)))
   (zba (zcb (PW.pt (zrm (zja zsr (zha G_q33 (hr.mono (by decide)) rfl T.g_q33 T.k_q33 B_q33 .nil zxb (zaa (pv 4) zca)) (pv 5) (zqa _)) (zfh (zja (zmp hr.units) (zha G_q0 (hr.mono (by decide)) rfl T.g_q0 T.k_q0 B_q0 .nil zxb (zaa (pv 5) zca)) (pv 4) (zqa _))))) (zda (zna zor)) zka)
   (zda (zcb (zja zqb (zra zeb (zra zta (pv 2) zea) zea) zea (zqa _)) (zba (zza (i:=6) sc_law.nd rfl (Or.inl rfl) (zha G_q18 (hr.mono (by decide)) rfl T.g_q18 T.k_q18 B_q18 .nil zxb (zaa (pv 4) (zaa (pv 3) zca))))
   (zda (zcb (PW.pt (zrm (zle (zld (zha G_q1 (hr.mono (by decide)) rfl T.g_q1 T.k_q1 B_q1 .nil zxb (zaa (pv 6) (zaa zma zca))))) (zfh (zle (zld (zha G_q1 (hr.mono (by decide)) rfl T.g_q1 T.k_q1 B_q1 .nil zxb (zaa zpe (zaa (zha G_q31 (hr.mono (by decide)) rfl T.g_q31 T.k_q31 B_q31 .nil zxb (zaa (pv 6) zca)) zca)))))))) (zda (zna zor)) zka))) zka))))))))
   (zda (zna zor))),?_⟩
  refine ⟨_,rfl,_,rfl,a,_,rfl,hS,λ p hp=>⟨p,rfl,⟨_,SqL.of upd_same⟩,?_⟩⟩
  refine zgn (K:=K) (a:=p) (xs:=cutV (ns.map V.int) none (some 63)) (λ i σ H2=>∃ o1 o2 o3 o4 o5 o6,σ=[some (.ref a),o1,o2,o3,o4,o5,o6]∧Plain H2∧H2 p=some (.lst (cutV (ns.map V.int) none (some 63))))
   ⟨_,_,_,_,_,_,rfl,hP.lst,upd_same⟩ (λ i σ H2 _ ⟨_,_,_,_,_,_,_,_,e⟩=>SqL.of e) ?_ ?_
  ·rintro i x T' σ H2 hx ⟨o1,o2,o3,o4,o5,o6,rfl,hP2,hp2⟩ hT
   have hi:i<64:=by
    have h1:=(List.getElem?_eq_some_iff.mp hx).1
    have h2:=zoc (ns.map V.int) none (some 63)
    rw [List.length_map] at h2
    omega
   obtain ⟨cell,rfl⟩:=zmq hx
   refine ⟨T',_,rfl,SqT.of upd_same,rfl,_,_,rfl,_,_,rfl,rfl,?_⟩
   have PT:Plain (upd H2 T' (.tup [.int i,.int cell])):=hP2.tup
   have hpT:(upd H2 T' (.tup [.int i,.int cell])) p=some (.lst (cutV (ns.map V.int) none (some 63))):=(zfa hT) _ _ hp2
   generalize upd H2 T' (.tup [.int i,.int cell])=H3 at PT hpT ⊢
   refine ⟨_,rfl,_,_,rfl,rfl,⟨by decide,by decide⟩,?_⟩
   apply join (α:=Int) (ok:=λ _=>True)
   ·intro R
    refine ⟨_,rfl,_,_,rfl,rfl,ip_2,rfl,_,rfl,znb (λ _=>?_) (λ _=>?_)⟩
    ·refine ⟨_,rfl,_,rfl,PT,(cell,i),⟨rfl,by show (0:Int)≤i;omega,by show (i:Int)≤100;omega⟩,λ v hv=>?_⟩
     obtain ⟨N,rfl⟩:=hv
     exact R N trivial
    ·exact R (cell / 2) trivial
   intro N _
   refine ⟨_,rfl,PT,N,rfl,λ v H4 hv s4 P4=>?_,λ _ _ h=>h.elim⟩
   obtain ⟨r,hd,ho,hf⟩:=hv
   refine ⟨_,rfl,P4,r,⟨_,rfl,hd,ho⟩,λ v' H5 hv s5 P5=>?_,λ _ _ h=>h.elim⟩
   have hv:v' = .str (rowT r.2.1 r.2.2):=hv
   subst hv
   have hd5:=DV.same s5 _ _ hd
   refine ⟨_,rfl,P5,r,⟨_,rfl,hd5,ho⟩,λ v' H6 hv s6 P6=>?_,λ C H6 hC s6 P6=>(hC.2 hf).elim⟩
   obtain ⟨_,rfl⟩:=hv
   refine ⟨_,rfl,rfl,_,rfl,ztr (λ h=>absurd rfl h) (λ _=>?_)⟩
   have hd6:=DV.same s6 _ _ hd5
   have rr:zcj (rowT r.2.1 r.2.2)=some (recD r):=by
    rcases zoj ho with h | h
    ·exact h.2
    ·exact absurd hf h.1
   refine ⟨_,rfl,P6,rowT r.2.1 r.2.2,⟨rfl,(zye ho).1⟩,λ v' H7 hv s7 P7=>?_,λ C H7 hC s7 P7=>?_⟩
   case refine_2 =>
    have:=hC.2
    rw [rr] at this
    cases this
   obtain ⟨d,hdd,e⟩:=hv
   rw [rr] at e
   cases e
   have hd7:=DV.same s7 _ _ hd6
   have shp:=zli ho
   refine ⟨_,rfl,recD r,recD r,hdd,hd7,shp,shp,_,rfl,?_⟩
   rw [SeqAt.eqv_refl _ (SeqAt.canLay_of_shaped shp)]
   refine iteF ?_
   have S47:Same H3 H7:=((s4.trans s5).trans s6).trans s7
   refine ⟨_,rfl,_,_,rfl,rfl,⟨by decide,by decide⟩,_,_,rfl,rfl,ip_8,rfl,_,rfl,znb (λ _=>?_) (λ _=>?_)⟩
   ·refine ⟨_,rfl,_,rfl,P7,(r,N),⟨_,rfl,hd7,ho⟩,λ v' H8 hv s8 P8=>?_,λ _ _ h=>h.elim⟩
    obtain ⟨r2,hd2,ho2,hnf⟩:=hv
    refine ⟨_,rfl,P8,(some r2, ""),⟨_,rfl,.inr ⟨r2,rfl,hd2,ho2,hnf⟩⟩,λ v' H9 hv s9 P9=>⟨true,hv,iteF ?_⟩,λ _ _ h=>h.elim⟩
    refine ⟨_,rfl,P9,r2,⟨_,rfl,DV.same s9 _ _ hd2,ho2⟩,λ v' Ha hv sa Pa=>?_,λ _ _ h=>h.elim⟩
    have hv:v' = .str (rowT r2.2.1 r2.2.2):=hv
    subst hv
    have rn:zcj (rowT r2.2.1 r2.2.2)=none:=by
     rcases zoj ho2 with h | h
     ·exact absurd h.1 hnf
     ·exact h.2
    refine ⟨Pa,(none,rowT r2.2.1 r2.2.2),⟨_,rfl,.inl ⟨rfl,rfl,(zye ho2).1,rn⟩⟩,λ v' Hb hv sb Pb=>⟨true,hv,iteF ?_⟩,λ _ _ h=>h.elim⟩
    exact ⟨_,_,_,_,_,_,rfl,Pb,(S47.trans (((s8.trans s9).trans sa).trans sb)) _ _ hpT⟩
   ·exact ⟨_,_,_,_,_,_,rfl,P7,S47 _ _ hpT⟩
  ·rintro σ H2 ⟨o1,o2,o3,o4,o5,o6,rfl,hP2,hp2⟩
   exact kq _
end
theorem ln_1 {us:List Value} (h:us.length=1):∃ a0,us=[a0]:=match us,h with | [a0],_=>⟨a0,rfl⟩
theorem ln_2 {us:List Value} (h:us.length=2):∃ a0 a1,us=[a0,a1]:=match us,h with | [a0,a1],_=>⟨a0,a1,rfl⟩
set_option maxHeartbeats 0 in
theorem all_mk {l:W.OpenLaw} {w:World} {K:W.Frag} {h:Heap} {mg:Str→Option Value} {fa:Addr} (X:K.In h) (G:h.Ns mainGlobals mg) (hfa:mg "law" = some (.ref fa))
  {f_q34:Addr} {d_q34:FuncData}
  {f_q35:Addr} {d_q35:FuncData}
  {f_q7:Addr} {d_q7:FuncData}
  {f_q26:Addr} {d_q26:FuncData}
  {f_q8:Addr} {d_q8:FuncData}
  {f_q4:Addr} {d_q4:FuncData}
  {f_q22:Addr} {d_q22:FuncData}
  {f_q27:Addr} {d_q27:FuncData}
  {f_q20:Addr} {d_q20:FuncData}
  {f_q6:Addr} {d_q6:FuncData}
  {f_q3:Addr} {d_q3:FuncData}
  {f_q16:Addr} {d_q16:FuncData}
  {f_q5:Addr} {d_q5:FuncData}
  {f_q21:Addr} {d_q21:FuncData}
  {f_q32:Addr} {d_q32:FuncData}
  {f_q0:Addr} {d_q0:FuncData}
  {f_q10:Addr} {d_q10:FuncData}
  {f_q11:Addr} {d_q11:FuncData}
  {f_q24:Addr} {d_q24:FuncData}
  {f_q19:Addr} {d_q19:FuncData}
  {f_q36:Addr} {d_q36:FuncData}
  {f_q2:Addr} {d_q2:FuncData}
  {f_q17:Addr} {d_q17:FuncData}
  {f_q30:Addr} {d_q30:FuncData}
  {f_q33:Addr} {d_q33:FuncData}
  {f_q15:Addr} {d_q15:FuncData}
  {f_q13:Addr} {d_q13:FuncData}
  {f_q23:Addr} {d_q23:FuncData}
  {f_q12:Addr} {d_q12:FuncData}
  {f_q29:Addr} {d_q29:FuncData}
  {f_q28:Addr} {d_q28:FuncData}
  {f_q9:Addr} {d_q9:FuncData}
  {f_q25:Addr} {d_q25:FuncData}
  {f_q31:Addr} {d_q31:FuncData}
  {f_q18:Addr} {d_q18:FuncData}
  {f_q1:Addr} {d_q1:FuncData}
  {f_q14:Addr} {d_q14:FuncData}
  {f_law:Addr} {d_law:FuncData}
  {t_FIGURES:Tok}
  {t_HEAD_OF_ALL:Tok}
  {t_MOST_FIGURES:Tok}
  {t_OUT:Tok}
  {t_TOO_GREAT:Tok}
  {C_DraftError:Addr}
  {C_NoBuilt:Addr}
  {C_NoPaper:Addr}
  {C_NoRow:Addr}
  {C_NoText:Addr}
  {C_NOTES:Addr} {od_NOTES:Option Addr} {sl_NOTES:Array (Option Value)} {n_NOTES:Nat} {t0_NOTES t1_NOTES t2_NOTES t3_NOTES:Tok}
  {C_CHOICES:Addr} {od_CHOICES:Option Addr} {sl_CHOICES:Array (Option Value)} {n_CHOICES:Nat} {t0_CHOICES t1_CHOICES t2_CHOICES:Tok}
  (a_q34:W.nsIn K mainGlobals "is_words" = some (some (.ref f_q34))) (F_q34:Fun K "is_words" "is_words" zit f_q34 d_q34)
  (a_q35:W.nsIn K mainGlobals "made_of" = some (some (.ref f_q35))) (F_q35:Fun K "made_of" "made_of" zfu f_q35 d_q35)
  (a_q7:W.nsIn K mainGlobals "read_number" = some (some (.ref f_q7))) (F_q7:Fun K "read_number" "read_number" s_q7 f_q7 d_q7)
  (a_q26:W.nsIn K mainGlobals "read_from" = some (some (.ref f_q26))) (F_q26:Fun K "read_from" "read_from" zqu f_q26 d_q26)
  (a_q8:W.nsIn K mainGlobals "check_maker" = some (some (.ref f_q8))) (F_q8:Fun K "check_maker" "check_maker" s_q8 f_q8 d_q8)
  (a_q4:W.nsIn K mainGlobals "read_dotted" = some (some (.ref f_q4))) (F_q4:Fun K "read_dotted" "read_dotted" s_q4 f_q4 d_q4)
  (a_q22:W.nsIn K mainGlobals "read_mark" = some (some (.ref f_q22))) (F_q22:Fun K "read_mark" "read_mark" zet f_q22 d_q22)
  (a_q27:W.nsIn K mainGlobals "read_step" = some (some (.ref f_q27))) (F_q27:Fun K "read_step" "read_step" zwt f_q27 d_q27)
  (a_q20:W.nsIn K mainGlobals "read_place" = some (some (.ref f_q20))) (F_q20:Fun K "read_place" "read_place" zgw f_q20 d_q20)
  (a_q6:W.nsIn K mainGlobals "out_version" = some (some (.ref f_q6))) (F_q6:Fun K "out_version" "out_version" s_q6 f_q6 d_q6)
  (a_q3:W.nsIn K mainGlobals "read_version" = some (some (.ref f_q3))) (F_q3:Fun K "read_version" "read_version" s_q3 f_q3 d_q3)
  (a_q16:W.nsIn K mainGlobals "read_words" = some (some (.ref f_q16))) (F_q16:Fun K "read_words" "read_words" znu f_q16 d_q16)
  (a_q5:W.nsIn K mainGlobals "read_choice" = some (some (.ref f_q5))) (F_q5:Fun K "read_choice" "read_choice" s_q5 f_q5 d_q5)
  (a_q21:W.nsIn K mainGlobals "read_field" = some (some (.ref f_q21))) (F_q21:Fun K "read_field" "read_field" zyv f_q21 d_q21)
  (a_q32:W.nsIn K mainGlobals "read_row" = some (some (.ref f_q32))) (F_q32:Fun K "read_row" "read_row" zkv f_q32 d_q32)
  (a_q0:W.nsIn K mainGlobals "read_slip_row" = some (some (.ref f_q0))) (F_q0:Fun K "read_slip_row" "read_slip_row" s_q0 f_q0 d_q0)
  (a_q10:W.nsIn K mainGlobals "number_text" = some (some (.ref f_q10))) (F_q10:Fun K "number_text" "number_text" zvu f_q10 d_q10)
  (a_q11:W.nsIn K mainGlobals "dotted_text" = some (some (.ref f_q11))) (F_q11:Fun K "dotted_text" "dotted_text" zut f_q11 d_q11)
  (a_q24:W.nsIn K mainGlobals "mark_text" = some (some (.ref f_q24))) (F_q24:Fun K "mark_text" "mark_text" zew f_q24 d_q24)
  (a_q19:W.nsIn K mainGlobals "place_text" = some (some (.ref f_q19))) (F_q19:Fun K "place_text" "place_text" zzs f_q19 d_q19)
  (a_q36:W.nsIn K mainGlobals "is_in" = some (some (.ref f_q36))) (F_q36:Fun K "is_in" "is_in" zht f_q36 d_q36)
  (a_q2:W.nsIn K mainGlobals "version_text" = some (some (.ref f_q2))) (F_q2:Fun K "version_text" "version_text" s_q2 f_q2 d_q2)
  (a_q17:W.nsIn K mainGlobals "field_text" = some (some (.ref f_q17))) (F_q17:Fun K "field_text" "field_text" zgs f_q17 d_q17)
  (a_q30:W.nsIn K mainGlobals "row_text" = some (some (.ref f_q30))) (F_q30:Fun K "row_text" "row_text" zyt f_q30 d_q30)
  (a_q33:W.nsIn K mainGlobals "slip_row" = some (some (.ref f_q33))) (F_q33:Fun K "slip_row" "slip_row" zvs f_q33 d_q33)
  (a_q15:W.nsIn K mainGlobals "_law_words" = some (some (.ref f_q15))) (F_q15:Fun K "_law_words" "_law_words" zsu f_q15 d_q15)
  (a_q13:W.nsIn K mainGlobals "_law_number" = some (some (.ref f_q13))) (F_q13:Fun K "_law_number" "_law_number" zqt f_q13 d_q13)
  (a_q23:W.nsIn K mainGlobals "_law_mark" = some (some (.ref f_q23))) (F_q23:Fun K "_law_mark" "_law_mark" zuv f_q23 d_q23)
  (a_q12:W.nsIn K mainGlobals "_law_behind" = some (some (.ref f_q12))) (F_q12:Fun K "_law_behind" "_law_behind" zxr f_q12 d_q12)
  (a_q29:W.nsIn K mainGlobals "_law_many" = some (some (.ref f_q29))) (F_q29:Fun K "_law_many" "_law_many" zuu f_q29 d_q29)
  (a_q28:W.nsIn K mainGlobals "_law_deed" = some (some (.ref f_q28))) (F_q28:Fun K "_law_deed" "_law_deed" zot f_q28 d_q28)
  (a_q9:W.nsIn K mainGlobals "_law_record" = some (some (.ref f_q9))) (F_q9:Fun K "_law_record" "_law_record" s_q9 f_q9 d_q9)
  (a_q25:W.nsIn K mainGlobals "_law_part" = some (some (.ref f_q25))) (F_q25:Fun K "_law_part" "_law_part" zrt f_q25 d_q25)
  (a_q31:W.nsIn K mainGlobals "_law_row" = some (some (.ref f_q31))) (F_q31:Fun K "_law_row" "_law_row" zwv f_q31 d_q31)
  (a_q18:W.nsIn K mainGlobals "_law_great" = some (some (.ref f_q18))) (F_q18:Fun K "_law_great" "_law_great" zvr f_q18 d_q18)
  (a_q1:W.nsIn K mainGlobals "_law_refused" = some (some (.ref f_q1))) (F_q1:Fun K "_law_refused" "_law_refused" s_q1 f_q1 d_q1)
  (a_q14:W.nsIn K mainGlobals "_law_mixed" = some (some (.ref f_q14))) (F_q14:Fun K "_law_mixed" "_law_mixed" zdw f_q14 d_q14)
  (a_law:W.nsIn K mainGlobals "law" = some (some (.ref f_law))) (F_law:Fun K "law" "law" zeo f_law d_law)
  (u_FIGURES:W.nsIn K mainGlobals "FIGURES" = some (some (.str "0123456789" t_FIGURES)))
  (u_HEAD_OF_ALL:W.nsIn K mainGlobals "HEAD_OF_ALL" = some (some (.str "-" t_HEAD_OF_ALL)))
  (u_MOST_FIGURES:W.nsIn K mainGlobals "MOST_FIGURES" = some (some (.int (30) t_MOST_FIGURES)))
  (u_OUT:W.nsIn K mainGlobals "OUT" = some (some (.str "-" t_OUT)))
  (u_TOO_GREAT:W.nsIn K mainGlobals "TOO_GREAT" = some (some (.int (1000000000000000000000000000000) t_TOO_GREAT)))
  (q_DraftError:W.nsIn K mainGlobals "DraftError" = some (some (.ref C_DraftError)))
  (x_DraftError:XCls K C_DraftError)
  (q_NoBuilt:W.nsIn K mainGlobals "NoBuilt" = some (some (.ref C_NoBuilt)))
  (x_NoBuilt:XCls K C_NoBuilt)
  (q_NoPaper:W.nsIn K mainGlobals "NoPaper" = some (some (.ref C_NoPaper)))
  (x_NoPaper:XCls K C_NoPaper)
  (q_NoRow:W.nsIn K mainGlobals "NoRow" = some (some (.ref C_NoRow)))
  (x_NoRow:XCls K C_NoRow)
  (q_NoText:W.nsIn K mainGlobals "NoText" = some (some (.ref C_NoText)))
  (x_NoText:XCls K C_NoText)
  (g_NOTES:W.nsIn K mainGlobals "NOTES" = some (some (.ref C_NOTES))) (t_NOTES:K.lookup C_NOTES=some ⟨.type "tuple",od_NOTES,.seq #[.str "begin" t0_NOTES,.str "undo" t1_NOTES,.str "again" t2_NOTES,.str "reload" t3_NOTES] n_NOTES,sl_NOTES⟩)
  (g_CHOICES:W.nsIn K mainGlobals "CHOICES" = some (some (.ref C_CHOICES))) (t_CHOICES:K.lookup C_CHOICES=some ⟨.type "tuple",od_CHOICES,.seq #[.str "stay" t0_CHOICES,.str "turn" t1_CHOICES,.str "both" t2_CHOICES] n_CHOICES,sl_CHOICES⟩)
  {C_DEEDS:Addr} {es_DEEDS:Array DictEntry} {ep_DEEDS:Nat} {v_DEEDS_put v_DEEDS_take v_DEEDS_move v_DEEDS_write v_DEEDS_part v_DEEDS_join v_DEEDS_carry:Value} (g_DEEDS:W.nsIn K mainGlobals "DEEDS" = some (some (.ref C_DEEDS))) (t_DEEDS:K.lookup C_DEEDS=some ⟨.type "dict",none,.dict es_DEEDS ep_DEEDS, #[]⟩) (e_DEEDS:EntK w es_DEEDS.toList [("put",v_DEEDS_put),("take",v_DEEDS_take),("move",v_DEEDS_move),("write",v_DEEDS_write),("part",v_DEEDS_part),("join",v_DEEDS_join),("carry",v_DEEDS_carry)])
  {C_SHAPES:Addr} {es_SHAPES:Array DictEntry} {ep_SHAPES:Nat} {v_SHAPES_begin:Addr} {v_SHAPES_put:Addr} {v_SHAPES_take:Addr} {v_SHAPES_move:Addr} {v_SHAPES_write:Addr} {v_SHAPES_part:Addr} {v_SHAPES_join:Addr} {v_SHAPES_carry:Addr} {v_SHAPES_undo:Addr} {v_SHAPES_again:Addr} {v_SHAPES_reload:Addr} {v_SHAPES_save:Addr} {v_SHAPES_back:Addr} {v_SHAPES_settle:Addr} {v_SHAPES_piece:Addr} {v_SHAPES_clash:Addr} (g_SHAPES:W.nsIn K mainGlobals "SHAPES" = some (some (.ref C_SHAPES))) (y_SHAPES:(C_SHAPES == sysModules)=false) (t_SHAPES:K.lookup C_SHAPES=some ⟨.type "dict",none,.dict es_SHAPES ep_SHAPES, #[]⟩) (e_SHAPES:EntK w es_SHAPES.toList [("begin",.ref v_SHAPES_begin),("put",.ref v_SHAPES_put),("take",.ref v_SHAPES_take),("move",.ref v_SHAPES_move),("write",.ref v_SHAPES_write),("part",.ref v_SHAPES_part),("join",.ref v_SHAPES_join),("carry",.ref v_SHAPES_carry),("undo",.ref v_SHAPES_undo),("again",.ref v_SHAPES_again),("reload",.ref v_SHAPES_reload),("save",.ref v_SHAPES_save),("back",.ref v_SHAPES_back),("settle",.ref v_SHAPES_settle),("piece",.ref v_SHAPES_piece),("clash",.ref v_SHAPES_clash)])
  {od_SHAPES_begin:Option Addr} {sl_SHAPES_begin:Array (Option Value)} {n_SHAPES_begin:Nat} {t0_SHAPES_begin t1_SHAPES_begin t2_SHAPES_begin:Tok} (q_SHAPES_begin:K.lookup v_SHAPES_begin=some ⟨.type "tuple",od_SHAPES_begin,.seq #[.str "beat" t0_SHAPES_begin,.str "window" t1_SHAPES_begin,.str "save" t2_SHAPES_begin] n_SHAPES_begin,sl_SHAPES_begin⟩)
  {od_SHAPES_put:Option Addr} {sl_SHAPES_put:Array (Option Value)} {n_SHAPES_put:Nat} {t0_SHAPES_put t1_SHAPES_put t2_SHAPES_put:Tok} (q_SHAPES_put:K.lookup v_SHAPES_put=some ⟨.type "tuple",od_SHAPES_put,.seq #[.str "beat" t0_SHAPES_put,.str "behind" t1_SHAPES_put,.str "words" t2_SHAPES_put] n_SHAPES_put,sl_SHAPES_put⟩)
  {od_SHAPES_take:Option Addr} {sl_SHAPES_take:Array (Option Value)} {n_SHAPES_take:Nat} {t0_SHAPES_take t1_SHAPES_take:Tok} (q_SHAPES_take:K.lookup v_SHAPES_take=some ⟨.type "tuple",od_SHAPES_take,.seq #[.str "beat" t0_SHAPES_take,.str "mark" t1_SHAPES_take] n_SHAPES_take,sl_SHAPES_take⟩)
  {od_SHAPES_move:Option Addr} {sl_SHAPES_move:Array (Option Value)} {n_SHAPES_move:Nat} {t0_SHAPES_move t1_SHAPES_move t2_SHAPES_move:Tok} (q_SHAPES_move:K.lookup v_SHAPES_move=some ⟨.type "tuple",od_SHAPES_move,.seq #[.str "beat" t0_SHAPES_move,.str "mark" t1_SHAPES_move,.str "behind" t2_SHAPES_move] n_SHAPES_move,sl_SHAPES_move⟩)
  {od_SHAPES_write:Option Addr} {sl_SHAPES_write:Array (Option Value)} {n_SHAPES_write:Nat} {t0_SHAPES_write t1_SHAPES_write t2_SHAPES_write:Tok} (q_SHAPES_write:K.lookup v_SHAPES_write=some ⟨.type "tuple",od_SHAPES_write,.seq #[.str "beat" t0_SHAPES_write,.str "mark" t1_SHAPES_write,.str "words" t2_SHAPES_write] n_SHAPES_write,sl_SHAPES_write⟩)
  {od_SHAPES_part:Option Addr} {sl_SHAPES_part:Array (Option Value)} {n_SHAPES_part:Nat} {t0_SHAPES_part t1_SHAPES_part t2_SHAPES_part:Tok} (q_SHAPES_part:K.lookup v_SHAPES_part=some ⟨.type "tuple",od_SHAPES_part,.seq #[.str "beat" t0_SHAPES_part,.str "mark" t1_SHAPES_part,.str "many" t2_SHAPES_part] n_SHAPES_part,sl_SHAPES_part⟩)
  {od_SHAPES_join:Option Addr} {sl_SHAPES_join:Array (Option Value)} {n_SHAPES_join:Nat} {t0_SHAPES_join t1_SHAPES_join:Tok} (q_SHAPES_join:K.lookup v_SHAPES_join=some ⟨.type "tuple",od_SHAPES_join,.seq #[.str "beat" t0_SHAPES_join,.str "mark" t1_SHAPES_join] n_SHAPES_join,sl_SHAPES_join⟩)
  {od_SHAPES_carry:Option Addr} {sl_SHAPES_carry:Array (Option Value)} {n_SHAPES_carry:Nat} {t0_SHAPES_carry t1_SHAPES_carry t2_SHAPES_carry t3_SHAPES_carry:Tok} (q_SHAPES_carry:K.lookup v_SHAPES_carry=some ⟨.type "tuple",od_SHAPES_carry,.seq #[.str "beat" t0_SHAPES_carry,.str "mark" t1_SHAPES_carry,.str "mark" t2_SHAPES_carry,.str "behind" t3_SHAPES_carry] n_SHAPES_carry,sl_SHAPES_carry⟩)
  {od_SHAPES_undo:Option Addr} {sl_SHAPES_undo:Array (Option Value)} {n_SHAPES_undo:Nat} {t0_SHAPES_undo:Tok} (q_SHAPES_undo:K.lookup v_SHAPES_undo=some ⟨.type "tuple",od_SHAPES_undo,.seq #[.str "beat" t0_SHAPES_undo] n_SHAPES_undo,sl_SHAPES_undo⟩)
  {od_SHAPES_again:Option Addr} {sl_SHAPES_again:Array (Option Value)} {n_SHAPES_again:Nat} {t0_SHAPES_again:Tok} (q_SHAPES_again:K.lookup v_SHAPES_again=some ⟨.type "tuple",od_SHAPES_again,.seq #[.str "beat" t0_SHAPES_again] n_SHAPES_again,sl_SHAPES_again⟩)
  {od_SHAPES_reload:Option Addr} {sl_SHAPES_reload:Array (Option Value)} {n_SHAPES_reload:Nat} {t0_SHAPES_reload t1_SHAPES_reload:Tok} (q_SHAPES_reload:K.lookup v_SHAPES_reload=some ⟨.type "tuple",od_SHAPES_reload,.seq #[.str "beat" t0_SHAPES_reload,.str "save" t1_SHAPES_reload] n_SHAPES_reload,sl_SHAPES_reload⟩)
  {od_SHAPES_save:Option Addr} {sl_SHAPES_save:Array (Option Value)} {n_SHAPES_save:Nat} {t0_SHAPES_save t1_SHAPES_save t2_SHAPES_save:Tok} (q_SHAPES_save:K.lookup v_SHAPES_save=some ⟨.type "tuple",od_SHAPES_save,.seq #[.str "beat" t0_SHAPES_save,.str "window" t1_SHAPES_save,.str "count" t2_SHAPES_save] n_SHAPES_save,sl_SHAPES_save⟩)
  {od_SHAPES_back:Option Addr} {sl_SHAPES_back:Array (Option Value)} {n_SHAPES_back:Nat} {t0_SHAPES_back t1_SHAPES_back:Tok} (q_SHAPES_back:K.lookup v_SHAPES_back=some ⟨.type "tuple",od_SHAPES_back,.seq #[.str "beat" t0_SHAPES_back,.str "save" t1_SHAPES_back] n_SHAPES_back,sl_SHAPES_back⟩)
  {od_SHAPES_settle:Option Addr} {sl_SHAPES_settle:Array (Option Value)} {n_SHAPES_settle:Nat} {t0_SHAPES_settle t1_SHAPES_settle t2_SHAPES_settle:Tok} (q_SHAPES_settle:K.lookup v_SHAPES_settle=some ⟨.type "tuple",od_SHAPES_settle,.seq #[.str "beat" t0_SHAPES_settle,.str "clash" t1_SHAPES_settle,.str "choice" t2_SHAPES_settle] n_SHAPES_settle,sl_SHAPES_settle⟩)
  {od_SHAPES_piece:Option Addr} {sl_SHAPES_piece:Array (Option Value)} {n_SHAPES_piece:Nat} {t0_SHAPES_piece t1_SHAPES_piece:Tok} (q_SHAPES_piece:K.lookup v_SHAPES_piece=some ⟨.type "tuple",od_SHAPES_piece,.seq #[.str "mark" t0_SHAPES_piece,.str "version" t1_SHAPES_piece] n_SHAPES_piece,sl_SHAPES_piece⟩)
  {od_SHAPES_clash:Option Addr} {sl_SHAPES_clash:Array (Option Value)} {n_SHAPES_clash:Nat} {t0_SHAPES_clash t1_SHAPES_clash:Tok} (q_SHAPES_clash:K.lookup v_SHAPES_clash=some ⟨.type "tuple",od_SHAPES_clash,.seq #[.str "mark" t0_SHAPES_clash,.str "version" t1_SHAPES_clash] n_SHAPES_clash,sl_SHAPES_clash⟩)
  {C_LEAST:Addr} {es_LEAST:Array DictEntry} {ep_LEAST:Nat} {v_LEAST_beat:Tok} {v_LEAST_window:Tok} {v_LEAST_clash:Tok} {v_LEAST_save:Tok} {v_LEAST_count:Tok} (g_LEAST:W.nsIn K mainGlobals "LEAST" = some (some (.ref C_LEAST))) (y_LEAST:(C_LEAST == sysModules)=false) (t_LEAST:K.lookup C_LEAST=some ⟨.type "dict",none,.dict es_LEAST ep_LEAST, #[]⟩) (e_LEAST:EntK w es_LEAST.toList [("beat",.int 1 v_LEAST_beat),("window",.int 1 v_LEAST_window),("clash",.int 1 v_LEAST_clash),("save",.int 0 v_LEAST_save),("count",.int 0 v_LEAST_count)])
  (m_nd:W.mroIn K C_NoText (.ref C_DraftError)=some true)
  (kv:W.kitOne K (.ref C_NoText) (.type "ValueError")=some true)
  (kt:W.kitAny K (.ref C_NoText) [.ref C_NoBuilt,.ref C_NoPaper,.ref C_NoRow]=some false)
  (y_DEEDS:(C_DEEDS == sysModules)=false)
  (n_ValueError:W.nsIn K mainGlobals "ValueError" = some none)
  (n_abs:W.nsIn K mainGlobals "abs" = some none)
  (n_all:W.nsIn K mainGlobals "all" = some none)
  (n_enumerate:W.nsIn K mainGlobals "enumerate" = some none)
  (n_int:W.nsIn K mainGlobals "int" = some none)
  (n_isinstance:W.nsIn K mainGlobals "isinstance" = some none)
  (n_len:W.nsIn K mainGlobals "len" = some none)
  (n_list:W.nsIn K mainGlobals "list" = some none)
  (n_range:W.nsIn K mainGlobals "range" = some none)
  (n_str:W.nsIn K mainGlobals "str" = some none)
  (n_tuple:W.nsIn K mainGlobals "tuple" = some none)
  (n_zip:W.nsIn K mainGlobals "zip" = some none)
  : ∃ fd:FuncData,(∀ (s:Shared) (v:Value),BindsTo s fd ⟨[v],[]⟩ [("_law_script",v)])∧∀ B:Heap,K.In B→B.Ns mainGlobals mg→FnOk l.prog w K mg B (CX1 l.prog w B) 14 fa fd ["_law_script"] (sp_law K):=by
 have e:=hfa.symm.trans (W.mg_of X G a_law)
 cases e
 obtain ⟨oc_law,od_law,kV_law,dc_law,pm_law,an_law,cd_law,ct_law,sl_law,rfl,l_law,c_law⟩:=id F_law.ex
 have T:Txt w K mg ⟨f_q34,d_q34,f_q35,d_q35,f_q7,d_q7,f_q26,d_q26,f_q8,d_q8,f_q4,d_q4,f_q22,d_q22,f_q27,d_q27,f_q20,d_q20,f_q6,d_q6,f_q3,d_q3,f_q16,d_q16,f_q5,d_q5,f_q21,d_q21,f_q32,d_q32,f_q0,d_q0,f_q10,d_q10,f_q11,d_q11,f_q24,d_q24,f_q19,d_q19,f_q36,d_q36,f_q2,d_q2,f_q17,d_q17,f_q30,d_q30,f_q33,d_q33,f_q15,d_q15,f_q13,d_q13,f_q23,d_q23,f_q12,d_q12,f_q29,d_q29,f_q28,d_q28,f_q9,d_q9,f_q25,d_q25,f_q31,d_q31,f_q18,d_q18,f_q1,d_q1,f_q14,d_q14,fa,_,C_DraftError,C_NoBuilt,C_NoPaper,C_NoRow,C_NoText,C_NOTES,C_CHOICES,C_DEEDS,v_DEEDS_put,v_DEEDS_take,v_DEEDS_move,v_DEEDS_write,v_DEEDS_part,v_DEEDS_join,v_DEEDS_carry,C_SHAPES,v_SHAPES_begin,v_SHAPES_put,v_SHAPES_take,v_SHAPES_move,v_SHAPES_write,v_SHAPES_part,v_SHAPES_join,v_SHAPES_carry,v_SHAPES_undo,v_SHAPES_again,v_SHAPES_reload,v_SHAPES_save,v_SHAPES_back,v_SHAPES_settle,v_SHAPES_piece,v_SHAPES_clash,C_LEAST,v_LEAST_beat,v_LEAST_window,v_LEAST_clash,v_LEAST_save,v_LEAST_count⟩:=⟨F_q34,(W.mg_of X G a_q34),F_q34.kp,(F_q34.binds λ _ _ _ _ _ _ us hl=>by obtain ⟨a0,rfl⟩:=ln_1 hl;rfl),F_q35,(W.mg_of X G a_q35),F_q35.kp,(F_q35.binds λ _ _ _ _ _ _ us hl=>by obtain ⟨a0,a1,rfl⟩:=ln_2 hl;rfl),F_q7,(W.mg_of X G a_q7),F_q7.kp,(F_q7.binds λ _ _ _ _ _ _ us hl=>by obtain ⟨a0,rfl⟩:=ln_1 hl;rfl),F_q26,(W.mg_of X G a_q26),F_q26.kp,(F_q26.binds λ _ _ _ _ _ _ us hl=>by obtain ⟨a0,a1,rfl⟩:=ln_2 hl;rfl),F_q8,(W.mg_of X G a_q8),F_q8.kp,(F_q8.binds λ _ _ _ _ _ _ us hl=>by obtain ⟨a0,a1,rfl⟩:=ln_2 hl;rfl),F_q4,(W.mg_of X G a_q4),F_q4.kp,(F_q4.binds λ _ _ _ _ _ _ us hl=>by obtain ⟨a0,a1,rfl⟩:=ln_2 hl;rfl),F_q22,(W.mg_of X G a_q22),F_q22.kp,(F_q22.binds λ _ _ _ _ _ _ us hl=>by obtain ⟨a0,rfl⟩:=ln_1 hl;rfl),F_q27,(W.mg_of X G a_q27),F_q27.kp,(F_q27.binds λ _ _ _ _ _ _ us hl=>by obtain ⟨a0,rfl⟩:=ln_1 hl;rfl),F_q20,(W.mg_of X G a_q20),F_q20.kp,(F_q20.binds λ _ _ _ _ _ _ us hl=>by obtain ⟨a0,rfl⟩:=ln_1 hl;rfl),F_q6,(W.mg_of X G a_q6),F_q6.kp,(F_q6.binds λ _ _ _ _ _ _ us hl=>by obtain ⟨a0,rfl⟩:=ln_1 hl;rfl),F_q3,(W.mg_of X G a_q3),F_q3.kp,(F_q3.binds λ _ _ _ _ _ _ us hl=>by obtain ⟨a0,rfl⟩:=ln_1 hl;rfl),F_q16,(W.mg_of X G a_q16),F_q16.kp,(F_q16.binds λ _ _ _ _ _ _ us hl=>by obtain ⟨a0,rfl⟩:=ln_1 hl;rfl),F_q5,(W.mg_of X G a_q5),F_q5.kp,(F_q5.binds λ _ _ _ _ _ _ us hl=>by obtain ⟨a0,rfl⟩:=ln_1 hl;rfl),F_q21,(W.mg_of X G a_q21),F_q21.kp,(F_q21.binds λ _ _ _ _ _ _ us hl=>by obtain ⟨a0,a1,rfl⟩:=ln_2 hl;rfl),F_q32,(W.mg_of X G a_q32),F_q32.kp,(F_q32.binds λ _ _ _ _ _ _ us hl=>by obtain ⟨a0,rfl⟩:=ln_1 hl;rfl),F_q0,(W.mg_of X G a_q0),F_q0.kp,(F_q0.binds λ _ _ _ _ _ _ us hl=>by obtain ⟨a0,rfl⟩:=ln_1 hl;rfl),F_q10,(W.mg_of X G a_q10),F_q10.kp,(F_q10.binds λ _ _ _ _ _ _ us hl=>by obtain ⟨a0,rfl⟩:=ln_1 hl;rfl),F_q11,(W.mg_of X G a_q11),F_q11.kp,(F_q11.binds λ _ _ _ _ _ _ us hl=>by obtain ⟨a0,rfl⟩:=ln_1 hl;rfl),F_q24,(W.mg_of X G a_q24),F_q24.kp,(F_q24.binds λ _ _ _ _ _ _ us hl=>by obtain ⟨a0,rfl⟩:=ln_1 hl;rfl),F_q19,(W.mg_of X G a_q19),F_q19.kp,(F_q19.binds λ _ _ _ _ _ _ us hl=>by obtain ⟨a0,rfl⟩:=ln_1 hl;rfl),F_q36,(W.mg_of X G a_q36),F_q36.kp,(F_q36.binds λ _ _ _ _ _ _ us hl=>by obtain ⟨a0,rfl⟩:=ln_1 hl;rfl),F_q2,(W.mg_of X G a_q2),F_q2.kp,(F_q2.binds λ _ _ _ _ _ _ us hl=>by obtain ⟨a0,rfl⟩:=ln_1 hl;rfl),F_q17,(W.mg_of X G a_q17),F_q17.kp,(F_q17.binds λ _ _ _ _ _ _ us hl=>by obtain ⟨a0,a1,rfl⟩:=ln_2 hl;rfl),F_q30,(W.mg_of X G a_q30),F_q30.kp,(F_q30.binds λ _ _ _ _ _ _ us hl=>by obtain ⟨a0,a1,rfl⟩:=ln_2 hl;rfl),F_q33,(W.mg_of X G a_q33),F_q33.kp,(F_q33.binds λ _ _ _ _ _ _ us hl=>by obtain ⟨a0,rfl⟩:=ln_1 hl;rfl),F_q15,(W.mg_of X G a_q15),F_q15.kp,(F_q15.binds λ _ _ _ _ _ _ us hl=>by obtain ⟨a0,rfl⟩:=ln_1 hl;rfl),F_q13,(W.mg_of X G a_q13),F_q13.kp,(F_q13.binds λ _ _ _ _ _ _ us hl=>by obtain ⟨a0,a1,rfl⟩:=ln_2 hl;rfl),F_q23,(W.mg_of X G a_q23),F_q23.kp,(F_q23.binds λ _ _ _ _ _ _ us hl=>by obtain ⟨a0,rfl⟩:=ln_1 hl;rfl),F_q12,(W.mg_of X G a_q12),F_q12.kp,(F_q12.binds λ _ _ _ _ _ _ us hl=>by obtain ⟨a0,rfl⟩:=ln_1 hl;rfl),F_q29,(W.mg_of X G a_q29),F_q29.kp,(F_q29.binds λ _ _ _ _ _ _ us hl=>by obtain ⟨a0,rfl⟩:=ln_1 hl;rfl),F_q28,(W.mg_of X G a_q28),F_q28.kp,(F_q28.binds λ _ _ _ _ _ _ us hl=>by obtain ⟨a0,a1,rfl⟩:=ln_2 hl;rfl),F_q9,(W.mg_of X G a_q9),F_q9.kp,(F_q9.binds λ _ _ _ _ _ _ us hl=>by obtain ⟨a0,rfl⟩:=ln_1 hl;rfl),F_q25,(W.mg_of X G a_q25),F_q25.kp,(F_q25.binds λ _ _ _ _ _ _ us hl=>by obtain ⟨a0,rfl⟩:=ln_1 hl;rfl),F_q31,(W.mg_of X G a_q31),F_q31.kp,(F_q31.binds λ _ _ _ _ _ _ us hl=>by obtain ⟨a0,rfl⟩:=ln_1 hl;rfl),F_q18,(W.mg_of X G a_q18),F_q18.kp,(F_q18.binds λ _ _ _ _ _ _ us hl=>by obtain ⟨a0,a1,rfl⟩:=ln_2 hl;rfl),F_q1,(W.mg_of X G a_q1),F_q1.kp,(F_q1.binds λ _ _ _ _ _ _ us hl=>by obtain ⟨a0,a1,rfl⟩:=ln_2 hl;rfl),F_q14,(W.mg_of X G a_q14),F_q14.kp,(F_q14.binds λ _ _ _ _ _ _ us hl=>by obtain ⟨a0,a1,rfl⟩:=ln_2 hl;rfl),F_law,(W.mg_of X G a_law),F_law.kp,(F_law.binds λ _ _ _ _ _ _ us hl=>match us,hl with | [_],_=>rfl),⟨t_FIGURES,W.mg_of X G u_FIGURES⟩,⟨t_HEAD_OF_ALL,W.mg_of X G u_HEAD_OF_ALL⟩,⟨t_MOST_FIGURES,W.mg_of X G u_MOST_FIGURES⟩,⟨t_OUT,W.mg_of X G u_OUT⟩,⟨t_TOO_GREAT,W.mg_of X G u_TOO_GREAT⟩,(W.mg_of X G q_DraftError),x_DraftError,(W.mg_of X G q_NoBuilt),x_NoBuilt,(W.mg_of X G q_NoPaper),x_NoPaper,(W.mg_of X G q_NoRow),x_NoRow,(W.mg_of X G q_NoText),x_NoText,(W.mg_of X G g_NOTES),(λ H=>.inr ⟨_,_,_,t_NOTES,rfl,rfl,sz_4,(.cons ⟨_,rfl⟩ (.cons ⟨_,rfl⟩ (.cons ⟨_,rfl⟩ (.cons ⟨_,rfl⟩ .nil))))⟩),(W.mg_of X G g_CHOICES),(λ H=>.inr ⟨_,_,_,t_CHOICES,rfl,rfl,sz_3,(.cons ⟨_,rfl⟩ (.cons ⟨_,rfl⟩ (.cons ⟨_,rfl⟩ .nil)))⟩),(W.mg_of X G g_DEEDS),⟨_,_,t_DEEDS,e_DEEDS,(show List.Nodup (["put", "take", "move", "write", "part", "join", "carry"]:List Str) by decide +kernel)⟩,(W.mg_of X G g_SHAPES),y_SHAPES,⟨_,_,t_SHAPES,e_SHAPES,(show List.Nodup (["begin", "put", "take", "move", "write", "part", "join", "carry", "undo", "again", "reload", "save", "back", "settle", "piece", "clash"]:List Str) by decide +kernel)⟩,(λ H=>.inr ⟨_,_,_,q_SHAPES_begin,rfl,rfl,sz_3,(.cons ⟨_,rfl⟩ (.cons ⟨_,rfl⟩ (.cons ⟨_,rfl⟩ .nil)))⟩),(λ H=>.inr ⟨_,_,_,q_SHAPES_put,rfl,rfl,sz_3,(.cons ⟨_,rfl⟩ (.cons ⟨_,rfl⟩ (.cons ⟨_,rfl⟩ .nil)))⟩),(λ H=>.inr ⟨_,_,_,q_SHAPES_take,rfl,rfl,sz_2,(.cons ⟨_,rfl⟩ (.cons ⟨_,rfl⟩ .nil))⟩),(λ H=>.inr ⟨_,_,_,q_SHAPES_move,rfl,rfl,sz_3,(.cons ⟨_,rfl⟩ (.cons ⟨_,rfl⟩ (.cons ⟨_,rfl⟩ .nil)))⟩),(λ H=>.inr ⟨_,_,_,q_SHAPES_write,rfl,rfl,sz_3,(.cons ⟨_,rfl⟩ (.cons ⟨_,rfl⟩ (.cons ⟨_,rfl⟩ .nil)))⟩),(λ H=>.inr ⟨_,_,_,q_SHAPES_part,rfl,rfl,sz_3,(.cons ⟨_,rfl⟩ (.cons ⟨_,rfl⟩ (.cons ⟨_,rfl⟩ .nil)))⟩),(λ H=>.inr ⟨_,_,_,q_SHAPES_join,rfl,rfl,sz_2,(.cons ⟨_,rfl⟩ (.cons ⟨_,rfl⟩ .nil))⟩),(λ H=>.inr ⟨_,_,_,q_SHAPES_carry,rfl,rfl,sz_4,(.cons ⟨_,rfl⟩ (.cons ⟨_,rfl⟩ (.cons ⟨_,rfl⟩ (.cons ⟨_,rfl⟩ .nil))))⟩),(λ H=>.inr ⟨_,_,_,q_SHAPES_undo,rfl,rfl,sz_1,(.cons ⟨_,rfl⟩ .nil)⟩),(λ H=>.inr ⟨_,_,_,q_SHAPES_again,rfl,rfl,sz_1,(.cons ⟨_,rfl⟩ .nil)⟩),(λ H=>.inr ⟨_,_,_,q_SHAPES_reload,rfl,rfl,sz_2,(.cons ⟨_,rfl⟩ (.cons ⟨_,rfl⟩ .nil))⟩),(λ H=>.inr ⟨_,_,_,q_SHAPES_save,rfl,rfl,sz_3,(.cons ⟨_,rfl⟩ (.cons ⟨_,rfl⟩ (.cons ⟨_,rfl⟩ .nil)))⟩),(λ H=>.inr ⟨_,_,_,q_SHAPES_back,rfl,rfl,sz_2,(.cons ⟨_,rfl⟩ (.cons ⟨_,rfl⟩ .nil))⟩),(λ H=>.inr ⟨_,_,_,q_SHAPES_settle,rfl,rfl,sz_3,(.cons ⟨_,rfl⟩ (.cons ⟨_,rfl⟩ (.cons ⟨_,rfl⟩ .nil)))⟩),(λ H=>.inr ⟨_,_,_,q_SHAPES_piece,rfl,rfl,sz_2,(.cons ⟨_,rfl⟩ (.cons ⟨_,rfl⟩ .nil))⟩),(λ H=>.inr ⟨_,_,_,q_SHAPES_clash,rfl,rfl,sz_2,(.cons ⟨_,rfl⟩ (.cons ⟨_,rfl⟩ .nil))⟩),(W.mg_of X G g_LEAST),y_LEAST,⟨_,_,t_LEAST,e_LEAST,(show List.Nodup (["beat", "window", "clash", "save", "count"]:List Str) by decide +kernel)⟩,m_nd,kv,kt,y_DEEDS,(W.mg_none_of X G n_ValueError),(W.mg_none_of X G n_abs),(W.mg_none_of X G n_all),(W.mg_none_of X G n_enumerate),(W.mg_none_of X G n_int),(W.mg_none_of X G n_isinstance),(W.mg_none_of X G n_len),(W.mg_none_of X G n_list),(W.mg_none_of X G n_range),(W.mg_none_of X G n_str),(W.mg_none_of X G n_tuple),(W.mg_none_of X G n_zip)⟩
 refine ⟨W.fnOf "law" "law" (zdf zeo) (zgd zeo) (zga zeo) .none kV_law dc_law pm_law an_law cd_law ct_law,λ s v=>.of_eq rfl,λ B _ _=>?_⟩
 have G_q34:=zns (P:=l.prog) (w:=w) (B:=B) T
 have G_q35:=zks (P:=l.prog) (w:=w) (B:=B) T
 have G_q7:=zyx (P:=l.prog) (w:=w) (B:=B) T G_q35
 have G_q26:=zav (P:=l.prog) (w:=w) (B:=B) T G_q7
 have G_q8:=zly (P:=l.prog) (w:=w) (B:=B) T
 have G_q4:=zsy (P:=l.prog) (w:=w) (B:=B) T G_q7
 have G_q22:=zfv (P:=l.prog) (w:=w) (B:=B) T G_q8 G_q4
 have G_q27:=zst (P:=l.prog) (w:=w) (B:=B) T G_q8 G_q4
 have G_q20:=zmu (P:=l.prog) (w:=w) (B:=B) T G_q27
 have G_q6:=zdx (P:=l.prog) (w:=w) (B:=B) T
 have G_q3:=zfx (P:=l.prog) (w:=w) (B:=B) T G_q34 G_q26 G_q20 G_q6
 have G_q16:=zyu (P:=l.prog) (w:=w) (B:=B) T G_q34
 have G_q5:=zcx (P:=l.prog) (w:=w) (B:=B) T
 have G_q21:=zkw (P:=l.prog) (w:=w) (B:=B) T G_q7 G_q26 G_q22 G_q3 G_q16 G_q5
 have G_q32:=zpv (P:=l.prog) (w:=w) (B:=B) T G_q21
 have G_q0:=zox (P:=l.prog) (w:=w) (B:=B) T G_q32
 have G_q10:=zzt (P:=l.prog) (w:=w) (B:=B) T
 have G_q11:=zys (P:=l.prog) (w:=w) (B:=B) T G_q10
 have G_q24:=zgv (P:=l.prog) (w:=w) (B:=B) T G_q11
 have G_q19:=zfs (P:=l.prog) (w:=w) (B:=B) T G_q11
 have G_q36:=zbw (P:=l.prog) (w:=w) (B:=B) T
 have G_q2:=zny (P:=l.prog) (w:=w) (B:=B) T G_q10 G_q19 G_q36
 have G_q17:=zzv (P:=l.prog) (w:=w) (B:=B) T G_q10 G_q24 G_q2
 have G_q30:=zms (P:=l.prog) (w:=w) (B:=B) T G_q17
 have G_q33:=zis (P:=l.prog) (w:=w) (B:=B) T G_q30
 have G_q15:=ztv (P:=l.prog) (w:=w) (B:=B) T
 have G_q13:=zhs (P:=l.prog) (w:=w) (B:=B) T
 have G_q23:=zwr (P:=l.prog) (w:=w) (B:=B) T G_q13
 have G_q12:=zdv (P:=l.prog) (w:=w) (B:=B) T G_q23
 have G_q29:=zmv (P:=l.prog) (w:=w) (B:=B) T G_q13
 have G_q28:=zbs (P:=l.prog) (w:=w) (B:=B) T G_q15 G_q23 G_q12 G_q29
 have G_q9:=zqy (P:=l.prog) (w:=w) (B:=B) T G_q13 G_q28
 have G_q25:=zqv (P:=l.prog) (w:=w) (B:=B) T
 have G_q31:=zrv (P:=l.prog) (w:=w) (B:=B) T G_q25
 have G_q18:=zcs (P:=l.prog) (w:=w) (B:=B) T
 have G_q1:=zby (P:=l.prog) (w:=w) (B:=B) T G_q0 G_q33
 have G_q14:=zqs (P:=l.prog) (w:=w) (B:=B) T
 have G_law:=zhu (P:=l.prog) (w:=w) (B:=B) T G_q0 G_q33 G_q9 G_q31 G_q18 G_q1 G_q14
 exact G_law
theorem walk {l:W.OpenLaw} {q:Program} {loose:List Str} {XP:(Str→Option Value)→Heap→Prop} {YP:World→Heap→Prop} {d:DefRec} {K:Params→W.Frag} (hn:l.most=some 63) (hdf:d.params.defaults=[])
  (hY:∀ (w:World) (h:Heap),YP w h→(K w.params).In h)
  (F:∀ (w:World) (mg:Str→Option Value) (fa:Addr) (h:Heap),(K w.params).In h→h.Ns mainGlobals mg→mg d.name=some (.ref fa) →
   ∃ fd:FuncData,(∀ (s:Shared) (u:Value),BindsTo s fd ⟨[u],[]⟩ [("_law_script",u)])∧∀ B:Heap,(K w.params).In B→B.Ns mainGlobals mg→FnOk l.prog w (K w.params) mg B (CX1 l.prog w B) 14 fa fd ["_law_script"] (sp_law (K w.params))) :
  W.WalkO q loose XP YP l.row.toRowW d [] (λ f vs=>PySem.call f vs) :=
 zyn (n:=63) (k:=14) (x := "_law_script") (sp:=λ w=>sp_law (K w.params)) hn (by decide) hdf ⟨rfl,by decide,by decide⟩ hY F (λ _ _ a ns hl hO hS=>⟨a,ns,rfl,hS,hl,λ _=>rfl,hO.plain⟩)
end My
open PySem PySem.W PyProof.Rows
open Lean in
local macro_rules
 | `(tactic| o_head $H)=>do
  let (hl,hw,hc):=(mkIdent `hl,mkIdent `hw,mkIdent `hc)
  `(tactic| refine PySem.W.holds_open (q:=My.viewQ) (loose:=["TOO_GREAT", "DEEDS", "SHAPES", "LEAST"]) (Xt:=λ s=>xlAt My.viewQ [] s && recOk (RowW.records PySem.Challenge.rw_twotabs_k47_slip_rows.row.toRowW) s) (XP:=XL My.viewQ []) (Yf:=Hook.obs $H) (Ya:=Hook.val $H) (YP:=Hook.says $H) (N:=8966) ?$hl (Hook.of $H) (Hook.keeps $H) (λ s e=>xl_of s (Bool.and_eq_true_iff.mp e).1) XL.keeps (by rfl) (by rfl) (by rfl) (λ s e=>recFacts_of (Bool.and_eq_true_iff.mp e).2) (by rfl) (by assumption) (by decide +kernel) ⟨rfl,rfl,rfl,rfl,rfl,by decide +kernel⟩ ?$hw ?$hc)
local macro_rules | `(tactic| walk_at "fn") => `(tactic| (refine' L2.fun_mk ?l ?c ?k; (case l=>k_is); (case c=>k_is); (case k=>k_is)))
set_option maxRecDepth 100000 in
set_option maxHeartbeats 0 in
theorem PySem.Challenge.cw_twotabs_k47_slip_rows_holds : PySem.Challenge.rw_twotabs_k47_slip_rows.Holds := by
 w_on;o_law;k_head; (case hw=>w_witness2); (case hl=>exact My.hlQ)
 k_fill
 refine My.walk (l:=PySem.Challenge.rw_twotabs_k47_slip_rows) rfl rfl (λ w h Y=>PySem.W.kIn_of Y) ?F
 case F =>
  intro w mg fa h KX G hmg
  refine' My.all_mk KX G hmg ?a_q34 ?F_q34 ?a_q35 ?F_q35 ?a_q7 ?F_q7 ?a_q26 ?F_q26 ?a_q8 ?F_q8 ?a_q4 ?F_q4 ?a_q22 ?F_q22 ?a_q27 ?F_q27 ?a_q20 ?F_q20 ?a_q6 ?F_q6 ?a_q3 ?F_q3 ?a_q16 ?F_q16 ?a_q5 ?F_q5 ?a_q21 ?F_q21 ?a_q32 ?F_q32 ?a_q0 ?F_q0 ?a_q10 ?F_q10 ?a_q11 ?F_q11 ?a_q24 ?F_q24 ?a_q19 ?F_q19 ?a_q36 ?F_q36 ?a_q2 ?F_q2 ?a_q17 ?F_q17 ?a_q30 ?F_q30 ?a_q33 ?F_q33 ?a_q15 ?F_q15 ?a_q13 ?F_q13 ?a_q23 ?F_q23 ?a_q12 ?F_q12 ?a_q29 ?F_q29 ?a_q28 ?F_q28 ?a_q9 ?F_q9 ?a_q25 ?F_q25 ?a_q31 ?F_q31 ?a_q18 ?F_q18 ?a_q1 ?F_q1 ?a_q14 ?F_q14 ?a_law ?F_law ?u_FIGURES ?u_HEAD_OF_ALL ?u_MOST_FIGURES ?u_OUT ?u_TOO_GREAT ?q_DraftError ?x_DraftError ?q_NoBuilt ?x_NoBuilt ?q_NoPaper ?x_NoPaper ?q_NoRow ?x_NoRow ?q_NoText ?x_NoText ?g_NOTES ?t_NOTES ?g_CHOICES ?t_CHOICES ?g_DEEDS ?t_DEEDS ?e_DEEDS ?g_SHAPES ?y_SHAPES ?t_SHAPES ?e_SHAPES ?q_SHAPES_begin ?q_SHAPES_put ?q_SHAPES_take ?q_SHAPES_move ?q_SHAPES_write ?q_SHAPES_part ?q_SHAPES_join ?q_SHAPES_carry ?q_SHAPES_undo ?q_SHAPES_again ?q_SHAPES_reload ?q_SHAPES_save ?q_SHAPES_back ?q_SHAPES_settle ?q_SHAPES_piece ?q_SHAPES_clash ?g_LEAST ?y_LEAST ?t_LEAST ?e_LEAST ?m_nd ?kv ?kt ?y_DEEDS ?n_ValueError ?n_abs ?n_all ?n_enumerate ?n_int ?n_isinstance ?n_len ?n_list ?n_range ?n_str ?n_tuple ?n_zip
  (case a_q34=>k_is)
  (case F_q34=>walk_at "fn")
  (case a_q35=>k_is)
  (case F_q35=>walk_at "fn")
  (case a_q7=>k_is)
  (case F_q7=>walk_at "fn")
  (case a_q26=>k_is)
  (case F_q26=>walk_at "fn")
  (case a_q8=>k_is)
  (case F_q8=>walk_at "fn")
  (case a_q4=>k_is)
  (case F_q4=>walk_at "fn")
  (case a_q22=>k_is)
  (case F_q22=>walk_at "fn")
  (case a_q27=>k_is)
  (case F_q27=>walk_at "fn")
  (case a_q20=>k_is)
  (case F_q20=>walk_at "fn")
  (case a_q6=>k_is)
  (case F_q6=>walk_at "fn")
  (case a_q3=>k_is)
  (case F_q3=>walk_at "fn")
  (case a_q16=>k_is)
  (case F_q16=>walk_at "fn")
  (case a_q5=>k_is)
  (case F_q5=>walk_at "fn")
  (case a_q21=>k_is)
  (case F_q21=>walk_at "fn")
  (case a_q32=>k_is)
  (case F_q32=>walk_at "fn")
  (case a_q0=>k_is)
  (case F_q0=>walk_at "fn")
  (case a_q10=>k_is)
  (case F_q10=>walk_at "fn")
  (case a_q11=>k_is)
  (case F_q11=>walk_at "fn")
  (case a_q24=>k_is)
  (case F_q24=>walk_at "fn")
  (case a_q19=>k_is)
  (case F_q19=>walk_at "fn")
  (case a_q36=>k_is)
  (case F_q36=>walk_at "fn")
  (case a_q2=>k_is)
  (case F_q2=>walk_at "fn")
  (case a_q17=>k_is)
  (case F_q17=>walk_at "fn")
  (case a_q30=>k_is)
  (case F_q30=>walk_at "fn")
  (case a_q33=>k_is)
  (case F_q33=>walk_at "fn")
  (case a_q15=>k_is)
  (case F_q15=>walk_at "fn")
  (case a_q13=>k_is)
  (case F_q13=>walk_at "fn")
  (case a_q23=>k_is)
  (case F_q23=>walk_at "fn")
  (case a_q12=>k_is)
  (case F_q12=>walk_at "fn")
  (case a_q29=>k_is)
  (case F_q29=>walk_at "fn")
  (case a_q28=>k_is)
  (case F_q28=>walk_at "fn")
  (case a_q9=>k_is)
  (case F_q9=>walk_at "fn")
  (case a_q25=>k_is)
  (case F_q25=>walk_at "fn")
  (case a_q31=>k_is)
  (case F_q31=>walk_at "fn")
  (case a_q18=>k_is)
  (case F_q18=>walk_at "fn")
  (case a_q1=>k_is)
  (case F_q1=>walk_at "fn")
  (case a_q14=>k_is)
  (case F_q14=>walk_at "fn")
  (case a_law=>k_is)
  (case F_law=>walk_at "fn")
  (case u_FIGURES=>k_is)
  (case u_HEAD_OF_ALL=>k_is)
  (case u_MOST_FIGURES=>k_is)
  (case u_OUT=>k_is)
  (case u_TOO_GREAT=>k_is)
  (case q_DraftError=>k_is)
  (case x_DraftError=>refine' L2.XCls.mk ?_ ?_ ?_ ?_ ?_ ?_ ?_ ?_ ?_;all_goals (first | k_is | k_exc))
  (case q_NoBuilt=>k_is)
  (case x_NoBuilt=>refine' L2.XCls.mk ?_ ?_ ?_ ?_ ?_ ?_ ?_ ?_ ?_;all_goals (first | k_is | k_exc))
  (case q_NoPaper=>k_is)
  (case x_NoPaper=>refine' L2.XCls.mk ?_ ?_ ?_ ?_ ?_ ?_ ?_ ?_ ?_;all_goals (first | k_is | k_exc))
  (case q_NoRow=>k_is)
  (case x_NoRow=>refine' L2.XCls.mk ?_ ?_ ?_ ?_ ?_ ?_ ?_ ?_ ?_;all_goals (first | k_is | k_exc))
  (case q_NoText=>k_is)
  (case x_NoText=>refine' L2.XCls.mk ?_ ?_ ?_ ?_ ?_ ?_ ?_ ?_ ?_;all_goals (first | k_is | k_exc))
  (case g_NOTES=>k_is)
  (case t_NOTES=>k_is)
  (case g_CHOICES=>k_is)
  (case t_CHOICES=>k_is)
  (case g_DEEDS=>k_is)
  (case t_DEEDS=>k_is)
  (case e_DEEDS=>exact ⟨rfl,⟨_,rfl⟩,rfl,rfl,⟨_,rfl⟩,rfl,rfl,⟨_,rfl⟩,rfl,rfl,⟨_,rfl⟩,rfl,rfl,⟨_,rfl⟩,rfl,rfl,⟨_,rfl⟩,rfl,rfl,⟨_,rfl⟩,rfl,True.intro⟩)
  (case g_SHAPES=>k_is)
  (case y_SHAPES=>decide)
  (case t_SHAPES=>k_is)
  (case e_SHAPES=>exact ⟨rfl,⟨_,rfl⟩,rfl,rfl,⟨_,rfl⟩,rfl,rfl,⟨_,rfl⟩,rfl,rfl,⟨_,rfl⟩,rfl,rfl,⟨_,rfl⟩,rfl,rfl,⟨_,rfl⟩,rfl,rfl,⟨_,rfl⟩,rfl,rfl,⟨_,rfl⟩,rfl,rfl,⟨_,rfl⟩,rfl,rfl,⟨_,rfl⟩,rfl,rfl,⟨_,rfl⟩,rfl,rfl,⟨_,rfl⟩,rfl,rfl,⟨_,rfl⟩,rfl,rfl,⟨_,rfl⟩,rfl,rfl,⟨_,rfl⟩,rfl,rfl,⟨_,rfl⟩,rfl,True.intro⟩)
  (case q_SHAPES_begin=>k_is)
  (case q_SHAPES_put=>k_is)
  (case q_SHAPES_take=>k_is)
  (case q_SHAPES_move=>k_is)
  (case q_SHAPES_write=>k_is)
  (case q_SHAPES_part=>k_is)
  (case q_SHAPES_join=>k_is)
  (case q_SHAPES_carry=>k_is)
  (case q_SHAPES_undo=>k_is)
  (case q_SHAPES_again=>k_is)
  (case q_SHAPES_reload=>k_is)
  (case q_SHAPES_save=>k_is)
  (case q_SHAPES_back=>k_is)
  (case q_SHAPES_settle=>k_is)
  (case q_SHAPES_piece=>k_is)
  (case q_SHAPES_clash=>k_is)
  (case g_LEAST=>k_is)
  (case y_LEAST=>decide)
  (case t_LEAST=>k_is)
  (case e_LEAST=>exact ⟨rfl,⟨_,rfl⟩,rfl,rfl,⟨_,rfl⟩,rfl,rfl,⟨_,rfl⟩,rfl,rfl,⟨_,rfl⟩,rfl,rfl,⟨_,rfl⟩,rfl,True.intro⟩)
  (case m_nd=>first | k_is | kit_is)
  (case kv=>first | k_is | kit_is)
  (case kt=>first | k_is | kit_is)
  (case y_DEEDS=>decide)
  (case n_ValueError=>k_is)
  (case n_abs=>k_is)
  (case n_all=>k_is)
  (case n_enumerate=>k_is)
  (case n_int=>k_is)
  (case n_isinstance=>k_is)
  (case n_len=>k_is)
  (case n_list=>k_is)
  (case n_range=>k_is)
  (case n_str=>k_is)
  (case n_tuple=>k_is)
  (case n_zip=>k_is)
