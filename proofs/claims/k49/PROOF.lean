import PyProof.Rows.All
import Wide.All
import OpenK.AllK
import Wide.FinOn
import Lean
import PyProof.EqAt
import PyProof.EqKinds
import PyProof.TupleCall
import PySem.Challenge.RW_twotabs_k49_book_rows
set_option Elab.async false
set_option linter.all false
set_option genSizeOfSpec false
set_option genSizeOf false
set_option maxRecDepth 100000
namespace My
open PySem PySem.W PyProof.Rows
noncomputable def zcc (tb:String→Option Builtin) (p:Program) (w:World) (n0:Nat) (ann:Option Value):Nat→SharedT→Thread→Option SharedT
 | 0,_,_=>none
 | n+1,s,t=>match through t with
  | true=>some s
  | false=>match stepOk n0 ann t with
   | false=>none
   | true=>match stepT (denote tb) p w s t with
    | some (s',t')=>zcc tb p w n0 ann n s' t'
    | none=>none
theorem zni {tb:String→Option Builtin} {p:Program} {w:World} {n0:Nat} {ann:Option Value}:∀ {n:Nat} {s s':SharedT} {t:Thread},zcc tb p w n0 ann n s t=some s'→topRun tb p w n0 ann n s.abs t=some s'.abs
 | 0,_,_,_,h=>by cases h
 | n+1,s,s',t,h=>by
  unfold zcc at h
  unfold topRun
  cases he:through t with
  | true=>rw [he] at h;cases h;rfl
  | false =>
   rw [he] at h
   cases hk:stepOk n0 ann t with
   | false=>rw [hk] at h;cases h
   | true =>
    rw [hk] at h
    cases hs:stepT (denote tb) p w s t with
    | none=>rw [hs] at h;cases h
    | some r=>obtain ⟨s2,t2⟩:=r;rw [hs] at h;rw [stepT_spec hs];exact zni h
noncomputable def treeOf (l:List Obj):BT:=(l.foldl (λ x o=>(x.1.ins x.2 o,x.2+1)) (BT.nil,0)).1
theorem zpn {p q:Program} {loose:List Str} {Xt:Shared→Bool} {α:Type} {Yf:Shared→α} {Ya:World→α} {N:Nat} {g0:Bool} {m0:Nat} {T0:Params→BT} {L0:Params→Life}
  (e:opening p=plainProg p.main.scope.names) (hN:Nat.ble 600 N=true) (f:∀ s,fenceModules? p s=some s)
  (hT:∀ P:Params,absHeap (T0 P) m0 (L0 P)=boot_heap P)
  (size:∀ P:Params,((boot_heap P).isNs mainGlobals,(boot_heap P).objs.size)=(true,m0))
  (all:∀ w:World,(λ os=>(zcc treeTable p w m0 ((boot_heap w.params).nsMap mainGlobals "__annotations__") N ⟨T0 w.params,m0,L0 w.params,Array.mk [],boot_drawn,boot_toks,os⟩ (topStub p)).map λ s=>(λ r:Shared=>((staticsOk (importedModules p.main.body) (boot_heap w.params) r.heap && namesBound p r.heap && gensDone r && laidKept (boot_heap w.params) r.heap),openSeen q loose (importedModules p.main.body) Xt g0 r,Yf r)) s.abs)=λ _=>some (true,openGood q loose,Ya w)) :
  LeftO p q loose Xt Yf Ya N g0:=λ w=>by
 obtain ⟨⟨h,gs,d,k,os⟩,e1,e2⟩:=Option.map_eq_some_iff.mp (boot_open e hN f w)
 obtain ⟨rfl,rfl,rfl,rfl⟩:h=boot_heap w.params∧gs=Array.mk []∧d=boot_drawn∧k=boot_toks:=by simpa using e2
 obtain ⟨z1,z2⟩:_∧_:=by simpa only [Prod.mk.injEq] using size w.params
 obtain ⟨s,h1,h2⟩:=Option.map_eq_some_iff.mp (congrFun (all w) os)
 obtain ⟨l1,l2,l3⟩:_∧_∧_:=by simpa only [Prod.mk.injEq] using h2
 have r:=zni h1
 have r:topRun treeTable p w m0 ((boot_heap w.params).nsMap mainGlobals "__annotations__") N ⟨boot_heap w.params,Array.mk [],boot_drawn,boot_toks,os⟩ (topStub p)=some s.abs:=by
  have e3:(⟨T0 w.params,m0,L0 w.params,Array.mk [],boot_drawn,boot_toks,os⟩:SharedT).abs=⟨boot_heap w.params,Array.mk [],boot_drawn,boot_toks,os⟩:=by
   show (⟨absHeap (T0 w.params) m0 (L0 w.params),_,_,_,_⟩:Shared)=_
   rw [hT]
  rw [← e3]
  exact r
 have t:topFrom treeTable p w N ⟨boot_heap w.params,Array.mk [],boot_drawn,boot_toks,os⟩=some s.abs:=by
  unfold topFrom
  dsimp only
  rw [z1,z2,r]
  show (match staticsOk (importedModules p.main.body) (boot_heap w.params) s.abs.heap && namesBound p s.abs.heap && gensDone s.abs && laidKept (boot_heap w.params) s.abs.heap with | true=>_ | false=>_)=_
  rw [l1]
 unfold openEnds
 rw [e1]
 show (topFrom treeTable p w N _).map _=_
 rw [t]
 exact congrArg some (Prod.ext l2 l3)
end My
namespace My
open PySem PySem.W PyProof.Rows
abbrev allAt (p q:Program) (loose:List Str) (Xt:Shared→Bool) {α:Type} (Yf:Shared→α) (Ya:World→α) (N:Nat) (g0:Bool) (m0:Nat) (T0:Params→BT) (L0:Params→Life) (w:World):Prop :=
 (λ os=>(zcc treeTable p w m0 ((boot_heap w.params).nsMap mainGlobals "__annotations__") N ⟨T0 w.params,m0,L0 w.params,Array.mk [],boot_drawn,boot_toks,os⟩ (topStub p)).map λ s=>(λ r:Shared=>((staticsOk (importedModules p.main.body) (boot_heap w.params) r.heap && namesBound p r.heap && gensDone r && laidKept (boot_heap w.params) r.heap),openSeen q loose (importedModules p.main.body) Xt g0 r,Yf r)) s.abs)=λ _=>some (true,openGood q loose,Ya w)
theorem left_treeS {p q:Program} {loose:List Str} {Xt:Shared→Bool} {α:Type} {Yf:Shared→α} {Ya:World→α} {N:Nat} {g0:Bool} {m0:Nat} {T0:Params→BT} {L0:Params→Life} (row:String)
  (e:opening p=plainProg p.main.scope.names) (hN:Nat.ble 600 N=true) (f:∀ s,fenceModules? p s=some s)
  (hT:∀ P:Params,absHeap (T0 P) m0 (L0 P)=boot_heap P)
  (size:∀ P:Params,((boot_heap P).isNs mainGlobals,(boot_heap P).objs.size)=(true,m0))
  (hf:∀ w:World,allAt p q loose Xt Yf Ya N g0 m0 T0 L0 (w.withFollow row false)) (ht:∀ w:World,allAt p q loose Xt Yf Ya N g0 m0 T0 L0 (w.withFollow row true)):LeftO p q loose Xt Yf Ya N g0:=by
 refine zpn e hN f hT size λ w=>?_
 have h:allAt p q loose Xt Yf Ya N g0 m0 T0 L0 w:=by
  rw [← World.withFollow_self w row]
  cases w.params.followText row with
  | false=>exact hf w
  | true=>exact ht w
 exact h
end My
namespace My
open PySem PySem.W PyProof.Rows
abbrev atB (p q:Program) (loose:List Str) (Xt:Shared→Bool) (N:Nat) (g0:Bool) (m0:Nat) (T0:Params→BT) (L0:Params→Life) (w:World):Prop :=
 (λ os=>(zcc treeTable p w m0 ((boot_heap w.params).nsMap mainGlobals "__annotations__") N ⟨T0 w.params,m0,L0 w.params,Array.mk [],boot_drawn,boot_toks,os⟩ (topStub p)).map λ s=>(λ r:Shared=>((staticsOk (importedModules p.main.body) (boot_heap w.params) r.heap && namesBound p r.heap && gensDone r && laidKept (boot_heap w.params) r.heap),(openSeen q loose (importedModules p.main.body) Xt g0 r).1)) s.abs)=λ _=>some (true,expectedOf q)
abbrev atD (p q:Program) (loose:List Str) (Xt:Shared→Bool) (N:Nat) (g0:Bool) (m0:Nat) (T0:Params→BT) (L0:Params→Life) (w:World):Prop :=
 (λ os=>(zcc treeTable p w m0 ((boot_heap w.params).nsMap mainGlobals "__annotations__") N ⟨T0 w.params,m0,L0 w.params,Array.mk [],boot_drawn,boot_toks,os⟩ (topStub p)).map λ s=>(λ r:Shared=>((openSeen q loose (importedModules p.main.body) Xt g0 r).2.1,(openSeen q loose (importedModules p.main.body) Xt g0 r).2.2.1)) s.abs)=λ _=>some (bltViewBooted,true)
abbrev atF (p q:Program) (loose:List Str) (Xt:Shared→Bool) (N:Nat) (g0:Bool) (m0:Nat) (T0:Params→BT) (L0:Params→Life) (w:World):Prop :=
 (λ os=>(zcc treeTable p w m0 ((boot_heap w.params).nsMap mainGlobals "__annotations__") N ⟨T0 w.params,m0,L0 w.params,Array.mk [],boot_drawn,boot_toks,os⟩ (topStub p)).map λ s=>(λ r:Shared=>(openSeen q loose (importedModules p.main.body) Xt g0 r).2.2.2.1) s.abs)=λ _=>some true
abbrev atE (p q:Program) (loose:List Str) (Xt:Shared→Bool) (N:Nat) (g0:Bool) (m0:Nat) (T0:Params→BT) (L0:Params→Life) (w:World):Prop :=
 (λ os=>(zcc treeTable p w m0 ((boot_heap w.params).nsMap mainGlobals "__annotations__") N ⟨T0 w.params,m0,L0 w.params,Array.mk [],boot_drawn,boot_toks,os⟩ (topStub p)).map λ s=>(λ r:Shared=>((openSeen q loose (importedModules p.main.body) Xt g0 r).2.2.2.2.1,(openSeen q loose (importedModules p.main.body) Xt g0 r).2.2.2.2.2.1,(openSeen q loose (importedModules p.main.body) Xt g0 r).2.2.2.2.2.2.1,(openSeen q loose (importedModules p.main.body) Xt g0 r).2.2.2.2.2.2.2.1,(openSeen q loose (importedModules p.main.body) Xt g0 r).2.2.2.2.2.2.2.2)) s.abs)=λ _=>some (pinGoodD (drecsOf q),plainGoodE q (looseW q loose),plainGoodD q loose,wideGood q,clsGoodW q loose)
abbrev atC (p:Program) {α:Type} (Yf:Shared→α) (Ya:World→α) (N:Nat) (m0:Nat) (T0:Params→BT) (L0:Params→Life) (w:World):Prop :=
 (λ os=>(zcc treeTable p w m0 ((boot_heap w.params).nsMap mainGlobals "__annotations__") N ⟨T0 w.params,m0,L0 w.params,Array.mk [],boot_drawn,boot_toks,os⟩ (topStub p)).map λ s=>(λ r:Shared=>Yf r) s.abs)=λ _=>some (Ya w)
theorem all_of {p q:Program} {loose:List Str} {Xt:Shared→Bool} {α:Type} {Yf:Shared→α} {Ya:World→α} {N:Nat} {g0:Bool} {m0:Nat} {T0:Params→BT} {L0:Params→Life} {w:World} (h2:atB p q loose Xt N g0 m0 T0 L0 w) (h4:atD p q loose Xt N g0 m0 T0 L0 w) (h6:atF p q loose Xt N g0 m0 T0 L0 w) (h5:atE p q loose Xt N g0 m0 T0 L0 w) (h3:atC p Yf Ya N m0 T0 L0 w):allAt p q loose Xt Yf Ya N g0 m0 T0 L0 w:=by
 unfold allAt
 funext os
 have b:=congrFun h2 os
 have c:=congrFun h3 os
 have d:=congrFun h4 os
 have e:=congrFun h5 os
 have f:=congrFun h6 os
 dsimp only at b c d e f ⊢
 cases hX:zcc treeTable p w m0 ((boot_heap w.params).nsMap mainGlobals "__annotations__") N ⟨T0 w.params,m0,L0 w.params,Array.mk [],boot_drawn,boot_toks,os⟩ (topStub p) with
 | none=>rw [hX] at b;cases b
 | some s =>
  rw [hX] at b c d e f
  rw [Option.map_some] at b c d e f ⊢
  have d:=Option.some.inj d
  have b:=Option.some.inj b
  have e:=Option.some.inj e
  have e1:=Prod.ext_iff.mp e
  have e2:=Prod.ext_iff.mp e1.2
  have e3:=Prod.ext_iff.mp e2.2
  have e4:=Prod.ext_iff.mp e3.2
  have d1:=Prod.ext_iff.mp d
  have f:=Option.some.inj f
  have hS:openSeen q loose (importedModules p.main.body) Xt g0 s.abs=openGood q loose:=Prod.ext (Prod.ext_iff.mp b).2 (Prod.ext d1.1 (Prod.ext d1.2 (Prod.ext f (Prod.ext e1.1 (Prod.ext e2.1 (Prod.ext e3.1 (Prod.ext e4.1 e4.2)))))))
  have b1:=(Prod.ext_iff.mp b).1
  dsimp only at b1
  rw [b1,hS,Option.some.inj c]
end My
section
open PySem PySem.W PyProof.Rows
noncomputable def My.viewQ:Program:={ PySem.Challenge.pw_twotabs_k49_book_rows with main:={ PySem.Challenge.pw_twotabs_k49_book_rows.main with body:=[1,2,3,4,5,7,8,9,10,11,12,13,14,15,16,17,18,19,21,22,23,25,26,27,28,29,30,32,33,34,35,36,37,38,39,40,41,42,43,44,46,47,48,49,50,51,52,53,54,55,56,57,58,59].filterMap (PySem.Challenge.pw_twotabs_k49_book_rows.main.body[·]?) } }
open Lean in
local macro_rules
 | `(tactic| o_head $H)=>do
  let (hl,hw,hc):=(mkIdent `hl,mkIdent `hw,mkIdent `hc)
  `(tactic| refine W.holds_open (q:=My.viewQ) (loose:=["TOO_GREAT", "SHAPES", "LEAST"]) (Xt:=λ s=>xlAt My.viewQ [] s && recOk (RowW.records PySem.Challenge.rw_twotabs_k49_book_rows.row.toRowW) s) (XP:=XL My.viewQ []) (Yf:=Hook.obs $H) (Ya:=Hook.val $H) (YP:=Hook.says $H) (N:=5574) ?$hl (Hook.of $H) (Hook.keeps $H) (λ s e=>xl_of s (Bool.and_eq_true_iff.mp e).1) XL.keeps (by rfl) (by rfl) (by rfl) (λ s e=>recFacts_of (Bool.and_eq_true_iff.mp e).2) (by rfl) (by assumption) (by decide +kernel) ⟨rfl,rfl,rfl,rfl,rfl,by decide +kernel⟩ ?$hw ?$hc)
local macro_rules | `(tactic| walk_at "fn") => `(tactic| (refine' L2.fun_mk ?l ?c ?k; (case l=>k_is); (case c=>k_is); (case k=>k_is)))
set_option maxRecDepth 100000 in
set_option maxHeartbeats 0 in
theorem My.dummy (hF:False):PySem.Challenge.rw_twotabs_k49_book_rows.Holds:=by
 w_on;o_law;k_head
 all_goals exact hF.elim
set_option maxRecDepth 100000 in
set_option maxHeartbeats 0 in
theorem My.hlb_false (w:World):My.atB PySem.Challenge.rw_twotabs_k49_book_rows.row.prog My.viewQ ["TOO_GREAT", "SHAPES", "LEAST"] (λ s=>xlAt My.viewQ [] s && recOk (RowW.records PySem.Challenge.rw_twotabs_k49_book_rows.row.toRowW) s) 5574 true 11 (λ P=>My.treeOf (boot_heap P).objs.toList) (λ P=>(boot_heap P).life) (w.withFollow "special-get-raises" false):=by
 kernel_rfl
set_option maxRecDepth 100000 in
set_option maxHeartbeats 0 in
theorem My.hld_false (w:World):My.atD PySem.Challenge.rw_twotabs_k49_book_rows.row.prog My.viewQ ["TOO_GREAT", "SHAPES", "LEAST"] (λ s=>xlAt My.viewQ [] s && recOk (RowW.records PySem.Challenge.rw_twotabs_k49_book_rows.row.toRowW) s) 5574 true 11 (λ P=>My.treeOf (boot_heap P).objs.toList) (λ P=>(boot_heap P).life) (w.withFollow "special-get-raises" false):=by
 kernel_rfl
set_option maxRecDepth 100000 in
set_option maxHeartbeats 0 in
theorem My.hlf_false (w:World):My.atF PySem.Challenge.rw_twotabs_k49_book_rows.row.prog My.viewQ ["TOO_GREAT", "SHAPES", "LEAST"] (λ s=>xlAt My.viewQ [] s && recOk (RowW.records PySem.Challenge.rw_twotabs_k49_book_rows.row.toRowW) s) 5574 true 11 (λ P=>My.treeOf (boot_heap P).objs.toList) (λ P=>(boot_heap P).life) (w.withFollow "special-get-raises" false):=by
 kernel_rfl
set_option maxRecDepth 100000 in
set_option maxHeartbeats 0 in
theorem My.hle_false (w:World):My.atE PySem.Challenge.rw_twotabs_k49_book_rows.row.prog My.viewQ ["TOO_GREAT", "SHAPES", "LEAST"] (λ s=>xlAt My.viewQ [] s && recOk (RowW.records PySem.Challenge.rw_twotabs_k49_book_rows.row.toRowW) s) 5574 true 11 (λ P=>My.treeOf (boot_heap P).objs.toList) (λ P=>(boot_heap P).life) (w.withFollow "special-get-raises" false):=by
 kernel_rfl
set_option maxRecDepth 100000 in
set_option maxHeartbeats 0 in
theorem My.hlc_false (w:World):My.atC PySem.Challenge.rw_twotabs_k49_book_rows.row.prog (kHook My.dummy.heap_39 [2,3,15,22,23,24,25,28,35,36,37,40,47,48,49,52,59,60,61,64,71,72,73,76,78,79,81,82,83,86,87,88,90,91,93,94,95,97,98,100,101,102,104,105,107,108,109,111,112,114,115,116,118,119,121,122,123,126,127,128,131,132,133,135,136,138,139,140,143,144,145,148,149,150,152,153,155,156,157,159,160,162,163,164,166,167,169,170,171,173,174,176,177,178,180,181,183,184,185,186,187,188,189,190,191,192,193,194,195,196,197,198,199,200,201,202,203,204,205,208,209,210,213,214,215,217,218,220,221,222,225,226,227,230,231,232,234,235,237,238,239,241,242,244,245,246,248,249,251,252,253,255,256,258,259,260,262,263,265,266,267,269,270,272,273,274,276,277,279,280,281,284,285,286,288,289,291,292,293,296,297,298,300,301,303,304,305,308,309,310,312,313,315,316,317,319,320,322,323,324,326,327,329,330,331,333,334,336,337,338,340,341,343,344] (λ _=>rfl)).obs (kHook My.dummy.heap_39 [2,3,15,22,23,24,25,28,35,36,37,40,47,48,49,52,59,60,61,64,71,72,73,76,78,79,81,82,83,86,87,88,90,91,93,94,95,97,98,100,101,102,104,105,107,108,109,111,112,114,115,116,118,119,121,122,123,126,127,128,131,132,133,135,136,138,139,140,143,144,145,148,149,150,152,153,155,156,157,159,160,162,163,164,166,167,169,170,171,173,174,176,177,178,180,181,183,184,185,186,187,188,189,190,191,192,193,194,195,196,197,198,199,200,201,202,203,204,205,208,209,210,213,214,215,217,218,220,221,222,225,226,227,230,231,232,234,235,237,238,239,241,242,244,245,246,248,249,251,252,253,255,256,258,259,260,262,263,265,266,267,269,270,272,273,274,276,277,279,280,281,284,285,286,288,289,291,292,293,296,297,298,300,301,303,304,305,308,309,310,312,313,315,316,317,319,320,322,323,324,326,327,329,330,331,333,334,336,337,338,340,341,343,344] (λ _=>rfl)).val 5574 11 (λ P=>My.treeOf (boot_heap P).objs.toList) (λ P=>(boot_heap P).life) (w.withFollow "special-get-raises" false):=by
 kernel_rfl
theorem My.hl_false (w:World):My.allAt PySem.Challenge.rw_twotabs_k49_book_rows.row.prog My.viewQ ["TOO_GREAT", "SHAPES", "LEAST"] (λ s=>xlAt My.viewQ [] s && recOk (RowW.records PySem.Challenge.rw_twotabs_k49_book_rows.row.toRowW) s) (kHook My.dummy.heap_39 [2,3,15,22,23,24,25,28,35,36,37,40,47,48,49,52,59,60,61,64,71,72,73,76,78,79,81,82,83,86,87,88,90,91,93,94,95,97,98,100,101,102,104,105,107,108,109,111,112,114,115,116,118,119,121,122,123,126,127,128,131,132,133,135,136,138,139,140,143,144,145,148,149,150,152,153,155,156,157,159,160,162,163,164,166,167,169,170,171,173,174,176,177,178,180,181,183,184,185,186,187,188,189,190,191,192,193,194,195,196,197,198,199,200,201,202,203,204,205,208,209,210,213,214,215,217,218,220,221,222,225,226,227,230,231,232,234,235,237,238,239,241,242,244,245,246,248,249,251,252,253,255,256,258,259,260,262,263,265,266,267,269,270,272,273,274,276,277,279,280,281,284,285,286,288,289,291,292,293,296,297,298,300,301,303,304,305,308,309,310,312,313,315,316,317,319,320,322,323,324,326,327,329,330,331,333,334,336,337,338,340,341,343,344] (λ _=>rfl)).obs (kHook My.dummy.heap_39 [2,3,15,22,23,24,25,28,35,36,37,40,47,48,49,52,59,60,61,64,71,72,73,76,78,79,81,82,83,86,87,88,90,91,93,94,95,97,98,100,101,102,104,105,107,108,109,111,112,114,115,116,118,119,121,122,123,126,127,128,131,132,133,135,136,138,139,140,143,144,145,148,149,150,152,153,155,156,157,159,160,162,163,164,166,167,169,170,171,173,174,176,177,178,180,181,183,184,185,186,187,188,189,190,191,192,193,194,195,196,197,198,199,200,201,202,203,204,205,208,209,210,213,214,215,217,218,220,221,222,225,226,227,230,231,232,234,235,237,238,239,241,242,244,245,246,248,249,251,252,253,255,256,258,259,260,262,263,265,266,267,269,270,272,273,274,276,277,279,280,281,284,285,286,288,289,291,292,293,296,297,298,300,301,303,304,305,308,309,310,312,313,315,316,317,319,320,322,323,324,326,327,329,330,331,333,334,336,337,338,340,341,343,344] (λ _=>rfl)).val 5574 true 11 (λ P=>My.treeOf (boot_heap P).objs.toList) (λ P=>(boot_heap P).life) (w.withFollow "special-get-raises" false):=My.all_of (My.hlb_false w) (My.hld_false w) (My.hlf_false w) (My.hle_false w) (My.hlc_false w)
set_option maxRecDepth 100000 in
set_option maxHeartbeats 0 in
theorem My.hlb_true (w:World):My.atB PySem.Challenge.rw_twotabs_k49_book_rows.row.prog My.viewQ ["TOO_GREAT", "SHAPES", "LEAST"] (λ s=>xlAt My.viewQ [] s && recOk (RowW.records PySem.Challenge.rw_twotabs_k49_book_rows.row.toRowW) s) 5574 true 11 (λ P=>My.treeOf (boot_heap P).objs.toList) (λ P=>(boot_heap P).life) (w.withFollow "special-get-raises" true):=by
 kernel_rfl
set_option maxRecDepth 100000 in
set_option maxHeartbeats 0 in
theorem My.hld_true (w:World):My.atD PySem.Challenge.rw_twotabs_k49_book_rows.row.prog My.viewQ ["TOO_GREAT", "SHAPES", "LEAST"] (λ s=>xlAt My.viewQ [] s && recOk (RowW.records PySem.Challenge.rw_twotabs_k49_book_rows.row.toRowW) s) 5574 true 11 (λ P=>My.treeOf (boot_heap P).objs.toList) (λ P=>(boot_heap P).life) (w.withFollow "special-get-raises" true):=by
 kernel_rfl
set_option maxRecDepth 100000 in
set_option maxHeartbeats 0 in
theorem My.hlf_true (w:World):My.atF PySem.Challenge.rw_twotabs_k49_book_rows.row.prog My.viewQ ["TOO_GREAT", "SHAPES", "LEAST"] (λ s=>xlAt My.viewQ [] s && recOk (RowW.records PySem.Challenge.rw_twotabs_k49_book_rows.row.toRowW) s) 5574 true 11 (λ P=>My.treeOf (boot_heap P).objs.toList) (λ P=>(boot_heap P).life) (w.withFollow "special-get-raises" true):=by
 kernel_rfl
set_option maxRecDepth 100000 in
set_option maxHeartbeats 0 in
theorem My.hle_true (w:World):My.atE PySem.Challenge.rw_twotabs_k49_book_rows.row.prog My.viewQ ["TOO_GREAT", "SHAPES", "LEAST"] (λ s=>xlAt My.viewQ [] s && recOk (RowW.records PySem.Challenge.rw_twotabs_k49_book_rows.row.toRowW) s) 5574 true 11 (λ P=>My.treeOf (boot_heap P).objs.toList) (λ P=>(boot_heap P).life) (w.withFollow "special-get-raises" true):=by
 kernel_rfl
set_option maxRecDepth 100000 in
set_option maxHeartbeats 0 in
theorem My.hlc_true (w:World):My.atC PySem.Challenge.rw_twotabs_k49_book_rows.row.prog (kHook My.dummy.heap_39 [2,3,15,22,23,24,25,28,35,36,37,40,47,48,49,52,59,60,61,64,71,72,73,76,78,79,81,82,83,86,87,88,90,91,93,94,95,97,98,100,101,102,104,105,107,108,109,111,112,114,115,116,118,119,121,122,123,126,127,128,131,132,133,135,136,138,139,140,143,144,145,148,149,150,152,153,155,156,157,159,160,162,163,164,166,167,169,170,171,173,174,176,177,178,180,181,183,184,185,186,187,188,189,190,191,192,193,194,195,196,197,198,199,200,201,202,203,204,205,208,209,210,213,214,215,217,218,220,221,222,225,226,227,230,231,232,234,235,237,238,239,241,242,244,245,246,248,249,251,252,253,255,256,258,259,260,262,263,265,266,267,269,270,272,273,274,276,277,279,280,281,284,285,286,288,289,291,292,293,296,297,298,300,301,303,304,305,308,309,310,312,313,315,316,317,319,320,322,323,324,326,327,329,330,331,333,334,336,337,338,340,341,343,344] (λ _=>rfl)).obs (kHook My.dummy.heap_39 [2,3,15,22,23,24,25,28,35,36,37,40,47,48,49,52,59,60,61,64,71,72,73,76,78,79,81,82,83,86,87,88,90,91,93,94,95,97,98,100,101,102,104,105,107,108,109,111,112,114,115,116,118,119,121,122,123,126,127,128,131,132,133,135,136,138,139,140,143,144,145,148,149,150,152,153,155,156,157,159,160,162,163,164,166,167,169,170,171,173,174,176,177,178,180,181,183,184,185,186,187,188,189,190,191,192,193,194,195,196,197,198,199,200,201,202,203,204,205,208,209,210,213,214,215,217,218,220,221,222,225,226,227,230,231,232,234,235,237,238,239,241,242,244,245,246,248,249,251,252,253,255,256,258,259,260,262,263,265,266,267,269,270,272,273,274,276,277,279,280,281,284,285,286,288,289,291,292,293,296,297,298,300,301,303,304,305,308,309,310,312,313,315,316,317,319,320,322,323,324,326,327,329,330,331,333,334,336,337,338,340,341,343,344] (λ _=>rfl)).val 5574 11 (λ P=>My.treeOf (boot_heap P).objs.toList) (λ P=>(boot_heap P).life) (w.withFollow "special-get-raises" true):=by
 kernel_rfl
theorem My.hl_true (w:World):My.allAt PySem.Challenge.rw_twotabs_k49_book_rows.row.prog My.viewQ ["TOO_GREAT", "SHAPES", "LEAST"] (λ s=>xlAt My.viewQ [] s && recOk (RowW.records PySem.Challenge.rw_twotabs_k49_book_rows.row.toRowW) s) (kHook My.dummy.heap_39 [2,3,15,22,23,24,25,28,35,36,37,40,47,48,49,52,59,60,61,64,71,72,73,76,78,79,81,82,83,86,87,88,90,91,93,94,95,97,98,100,101,102,104,105,107,108,109,111,112,114,115,116,118,119,121,122,123,126,127,128,131,132,133,135,136,138,139,140,143,144,145,148,149,150,152,153,155,156,157,159,160,162,163,164,166,167,169,170,171,173,174,176,177,178,180,181,183,184,185,186,187,188,189,190,191,192,193,194,195,196,197,198,199,200,201,202,203,204,205,208,209,210,213,214,215,217,218,220,221,222,225,226,227,230,231,232,234,235,237,238,239,241,242,244,245,246,248,249,251,252,253,255,256,258,259,260,262,263,265,266,267,269,270,272,273,274,276,277,279,280,281,284,285,286,288,289,291,292,293,296,297,298,300,301,303,304,305,308,309,310,312,313,315,316,317,319,320,322,323,324,326,327,329,330,331,333,334,336,337,338,340,341,343,344] (λ _=>rfl)).obs (kHook My.dummy.heap_39 [2,3,15,22,23,24,25,28,35,36,37,40,47,48,49,52,59,60,61,64,71,72,73,76,78,79,81,82,83,86,87,88,90,91,93,94,95,97,98,100,101,102,104,105,107,108,109,111,112,114,115,116,118,119,121,122,123,126,127,128,131,132,133,135,136,138,139,140,143,144,145,148,149,150,152,153,155,156,157,159,160,162,163,164,166,167,169,170,171,173,174,176,177,178,180,181,183,184,185,186,187,188,189,190,191,192,193,194,195,196,197,198,199,200,201,202,203,204,205,208,209,210,213,214,215,217,218,220,221,222,225,226,227,230,231,232,234,235,237,238,239,241,242,244,245,246,248,249,251,252,253,255,256,258,259,260,262,263,265,266,267,269,270,272,273,274,276,277,279,280,281,284,285,286,288,289,291,292,293,296,297,298,300,301,303,304,305,308,309,310,312,313,315,316,317,319,320,322,323,324,326,327,329,330,331,333,334,336,337,338,340,341,343,344] (λ _=>rfl)).val 5574 true 11 (λ P=>My.treeOf (boot_heap P).objs.toList) (λ P=>(boot_heap P).life) (w.withFollow "special-get-raises" true):=My.all_of (My.hlb_true w) (My.hld_true w) (My.hlf_true w) (My.hle_true w) (My.hlc_true w)
set_option maxRecDepth 100000 in
set_option maxHeartbeats 0 in
theorem My.hlQ:LeftO PySem.Challenge.rw_twotabs_k49_book_rows.row.prog My.viewQ ["TOO_GREAT", "SHAPES", "LEAST"] (λ s=>xlAt My.viewQ [] s && recOk (RowW.records PySem.Challenge.rw_twotabs_k49_book_rows.row.toRowW) s) (kHook My.dummy.heap_39 [2,3,15,22,23,24,25,28,35,36,37,40,47,48,49,52,59,60,61,64,71,72,73,76,78,79,81,82,83,86,87,88,90,91,93,94,95,97,98,100,101,102,104,105,107,108,109,111,112,114,115,116,118,119,121,122,123,126,127,128,131,132,133,135,136,138,139,140,143,144,145,148,149,150,152,153,155,156,157,159,160,162,163,164,166,167,169,170,171,173,174,176,177,178,180,181,183,184,185,186,187,188,189,190,191,192,193,194,195,196,197,198,199,200,201,202,203,204,205,208,209,210,213,214,215,217,218,220,221,222,225,226,227,230,231,232,234,235,237,238,239,241,242,244,245,246,248,249,251,252,253,255,256,258,259,260,262,263,265,266,267,269,270,272,273,274,276,277,279,280,281,284,285,286,288,289,291,292,293,296,297,298,300,301,303,304,305,308,309,310,312,313,315,316,317,319,320,322,323,324,326,327,329,330,331,333,334,336,337,338,340,341,343,344] (λ _=>rfl)).obs (kHook My.dummy.heap_39 [2,3,15,22,23,24,25,28,35,36,37,40,47,48,49,52,59,60,61,64,71,72,73,76,78,79,81,82,83,86,87,88,90,91,93,94,95,97,98,100,101,102,104,105,107,108,109,111,112,114,115,116,118,119,121,122,123,126,127,128,131,132,133,135,136,138,139,140,143,144,145,148,149,150,152,153,155,156,157,159,160,162,163,164,166,167,169,170,171,173,174,176,177,178,180,181,183,184,185,186,187,188,189,190,191,192,193,194,195,196,197,198,199,200,201,202,203,204,205,208,209,210,213,214,215,217,218,220,221,222,225,226,227,230,231,232,234,235,237,238,239,241,242,244,245,246,248,249,251,252,253,255,256,258,259,260,262,263,265,266,267,269,270,272,273,274,276,277,279,280,281,284,285,286,288,289,291,292,293,296,297,298,300,301,303,304,305,308,309,310,312,313,315,316,317,319,320,322,323,324,326,327,329,330,331,333,334,336,337,338,340,341,343,344] (λ _=>rfl)).val 5574:=by
 exact My.left_treeS "special-get-raises" (m0:=11) (T0:=λ P=>My.treeOf (boot_heap P).objs.toList) (L0:=λ P=>(boot_heap P).life) (by kernel_rfl) (by kernel_rfl) (λ s=>by kernel_rfl) (λ P=>by kernel_rfl) (λ P=>by kernel_rfl) My.hl_false My.hl_true
end
namespace L2
open PySem PySem.Spec PyProof.Rows
noncomputable abbrev Key:=Sum Int Str
noncomputable def zww:Key→Value→Bool
 | .inl k,v=>Value.isInt k v
 | .inr x,v=>Value.isStrOf x v
noncomputable def keyH (w:World):Key→Int
 | .inl k=>hashInt k
 | .inr x=>hashStr w x
theorem zbb:∀ {k:Key} {v:Value},zww k v=true→(∃ i t,k=Sum.inl i∧v=Value.int i t) ∨ (∃ x t,k=Sum.inr x∧v=Value.str x t)
 | .inl i,v,h=>by
  obtain ⟨t,e⟩:=Value.isInt_shape (k:=i) (v:=v) h
  exact .inl ⟨i,t,rfl,e⟩
 | .inr x,v,h=>by
  obtain ⟨t,e⟩:=Value.isStrOf_shape (x:=x) (v:=v) h
  exact .inr ⟨x,t,rfl,e⟩
theorem zmn (i:Int) (t:Tok):zww (.inl i) (.int i t)=true:=by simp [zww,Value.isInt]
theorem zlz (a b:Int):decide ((Sum.inl a:Key)=Sum.inl b)=(a == b):=by
 by_cases e:a=b
 ·subst e;simp
 ·have h:¬ (Sum.inl a:Key)=Sum.inl b:=λ q=>e (Sum.inl.inj q)
  rw [decide_eq_false h]
  exact (beq_eq_false_iff_ne.mpr e).symm
theorem zpx (a b:Str):decide ((Sum.inr a:Key)=Sum.inr b)=decide (a=b):=by
 by_cases e:a=b
 ·subst e;simp
 ·have h:¬ (Sum.inr a:Key)=Sum.inr b:=λ q=>e (Sum.inr.inj q)
  rw [decide_eq_false h,decide_eq_false e]
theorem zh0 (a:Int) (b:Str):decide ((Sum.inl a:Key)=Sum.inr b)=false:=decide_eq_false (λ q=>nomatch q)
theorem zm1 (a:Str) (b:Int):decide ((Sum.inr a:Key)=Sum.inl b)=false:=decide_eq_false (λ q=>nomatch q)
noncomputable def zhg (prog:Program) (w:World):PySem.KeyKind prog w Key where
 is:=zww
 hash:=keyH w
 inj:=λ v a b ha hb=>by
  rcases zbb ha with ⟨i,t,rfl,rfl⟩ | ⟨x,t,rfl,rfl⟩
  ·rcases zbb hb with ⟨j,u,rfl,e⟩ | ⟨y,u,rfl,e⟩
   ·injection e with e1 _;rw [e1]
   ·exact nomatch e
  ·rcases zbb hb with ⟨j,u,rfl,e⟩ | ⟨y,u,rfl,e⟩
   ·exact nomatch e
   ·injection e with e1 _;rw [e1]
 byValue:=λ k v h=>by
  rcases zbb h with ⟨i,t,rfl,rfl⟩ | ⟨x,t,rfl,rfl⟩ <;> rfl
 pyHash:=λ hv h=>by
  rcases zbb hv with ⟨i,t,rfl,rfl⟩ | ⟨x,t,rfl,rfl⟩
  ·exact wpAny_pyHash_int h
  ·exact wpAny_pyHash_str h
 eqBool:=λ hu hv h=>by
  rcases zbb hu with ⟨i,t,rfl,rfl⟩ | ⟨x,t,rfl,rfl⟩
  ·rcases zbb hv with ⟨j,u,rfl,rfl⟩ | ⟨y,u,rfl,rfl⟩
   ·rw [zlz] at h;exact wpAny_eqBool_int h
   ·rw [zh0] at h;exact SeqAt.EqAt.int_str i t y u _ _ _ _ h
  ·rcases zbb hv with ⟨j,u,rfl,rfl⟩ | ⟨y,u,rfl,rfl⟩
   ·rw [zm1] at h;exact SeqAt.EqAt.str_int x t j u _ _ _ _ h
   ·rw [zpx] at h;exact wpAny_eqBool_str h
 «strs» := λ k x t v h=>by
  rcases zbb h with ⟨i,u,rfl,e⟩ | ⟨y,u,rfl,e⟩
  ·exact nomatch e
  ·injection e with e1 _
   subst e1
   cases v <;> rfl
theorem zdf (prog:Program) (w:World) (i:Int) (t:Tok):(zhg prog w).is (.inl i) (.int i t)=true:=zmn i t
end L2
namespace L2
open PySem PySem.Spec PyProof.Rows
inductive V where
 | non | bl (b:Bool) | int (i:Int) | str (x:Str) | byt (b:Array UInt8) | flt (b:UInt64) | ref (a:Addr) | ty (n:String)
 deriving DecidableEq
noncomputable def RelV:V→Value→Prop
 | .non,u=>u=Value.none
 | .bl b,u=>u=Value.bool b
 | .int i,u=>∃ t,u=Value.int i t
 | .str x,u=>∃ t,u=Value.str x t
 | .byt b,u=>∃ t,u=Value.bytes b t
 | .flt b,u=>∃ t,u=Value.float b t
 | .ref a,u=>u=Value.ref a
 | .ty n,u=>u=Value.type n
noncomputable abbrev Vals:List V→List Value→Prop:=Paired RelV
theorem Vals.length {xs:List V} {us:List Value} (r:Vals xs us):xs.length=us.length:=Paired.length r
theorem Vals.get:∀ {xs:List V} {us:List Value} {i:Nat} {x:V},Vals xs us→xs[i]? = some x→∃ u,us[i]? = some u∧RelV x u
 | _,_,_,_,.nil,e=>by simp at e
 | _,_,0,_,.cons r _,e=>by simp at e;subst e;exact ⟨_,rfl,r⟩
 | _,_,i+1,x,.cons _ t,e=>by
  obtain ⟨u,h1,h2⟩:=Vals.get (i:=i) (x:=x) t (by simpa using e)
  exact ⟨u,by simpa using h1,h2⟩
theorem Vals.append:∀ {xs ys:List V} {us ws:List Value},Vals xs us→Vals ys ws→Vals (xs++ys) (us++ws)
 | _,_,_,_,.nil,s=>s
 | _,_,_,_,.cons r t,s=>.cons r (Vals.append t s)
theorem Vals.take:∀ {xs:List V} {us:List Value} (n:Nat),Vals xs us→Vals (xs.take n) (us.take n)
 | _,_,0,_=>.nil
 | _,_,_+1,.nil=>.nil
 | _,_,n+1,.cons r t=>.cons r (Vals.take n t)
theorem Vals.drop:∀ {xs:List V} {us:List Value} (n:Nat),Vals xs us→Vals (xs.drop n) (us.drop n)
 | _,_,0,r=>r
 | _,_,_+1,.nil=>.nil
 | _,_,n+1,.cons _ t=>Vals.drop n t
noncomputable def RelO:Option V→Option Value→Prop
 | some v,some u=>RelV v u
 | none,none=>True
 | _,_=>False
noncomputable def KV {κ:Type}:List (κ×V)→List (κ×Value)→Prop:=Paired λ (p:κ×V) (q:κ×Value)=>p.1=q.1∧RelV p.2 q.2
noncomputable def kV:Key→V
 | .inl i=>.int i
 | .inr x=>.str x
inductive HO where
 | lst (xs:List V)
 | tup (xs:List V)
 | dK (kvs:List (Key×V)) | dT (kvs:List (List Key×V))
 | set (S:Int→Bool) (n:Nat)
 | ins (C dx:Addr) (fs:List (Str×V))
 | own (x:Addr)
 | xd (fs:List (Str×V))
 | met (f x:Addr)
 | rng (lo hi:Int)
 | frz (o:Obj) (u:HO)
 | tbl (ps:Array Value)
 | ext (φ:Heap→Prop)
noncomputable abbrev Hp:=Addr→Option HO
noncomputable def upd (H:Hp) (a:Addr) (o:HO):Hp:=λ b=>if b=a then some o else H b
theorem upd_same {H:Hp} {a:Addr} {o:HO}:upd H a o a=some o:=by unfold upd;rw [if_pos rfl]
theorem zta {H:Hp} {a b:Addr} {o:HO} (h:b≠a):upd H a o b=H b:=by unfold upd;rw [if_neg h]
theorem zrw {H:Hp} {a:Addr} {o u:HO}:upd (upd H a o) a u=upd H a u:=by
 funext b;unfold upd;split <;> rfl
theorem zsw {H:Hp} {a b:Addr} {o u:HO} (h:H a=some o) (h':H b=some u) (d:o≠u):a≠b:=by
 intro e;subst e;rw [h] at h';exact d (Option.some.inj h')
theorem zeb {H:Hp} {a b:Addr} {o:HO} (h:H a=some o) (h':H b=none):a≠b:=by
 intro e;subst e;rw [h] at h';cases h'
section
variable (P:Program) (w:World)
noncomputable def ObjOk (H:Hp) (h:Heap) (a:Addr):HO→Prop
 | .lst xs=>xs.length≤sizeLine∧∃ (its:List Value) (n:Nat),Vals xs its∧h.get? a=some { cls := .type "list",data := .seq its.toArray n }
 | .tup xs=>xs.length≤sizeLine∧∃ its:List Value,Vals xs its∧IsTup h a its.toArray
 | .dK kvs=>kvs.length≤sizeLine∧(a == sysModules)=false∧∃ vs,KV kvs vs∧h.DictOf (zhg P w) a vs
 | .dT kvs=>kvs.length≤sizeLine∧(a == sysModules)=false∧∃ xs:List (List Key×Addr×Value),
   Paired (λ (p:List Key×V) (q:List Key×Addr×Value)=>p.1=q.1∧H q.2.1=some (.tup (p.1.map kV))∧RelV p.2 q.2.2) kvs xs ∧
   ∃ o es ep,h.get? a=some o∧o.ExactDict∧o.data = .dict es ep∧es.toList=xs.map (entryOfKey (tupleKind (zhg P w)))∧(xs.map (·.1)).Nodup
 | .set S n=>h.SetOf (intKind P w) a S n
 | .ins C dx fs=>H dx=some (.own a)∧fs.length≤1000∧dx≠a∧h.get? a=some (W.instObj C dx) ∧
   ∃ mA,h.Ns1 dx mA∧(∀ f,RelO (fs.lookup f) (mA f))∧PySem.Within mA (fs.map (·.1))
 | .own _=>∃ o,h.get? a=some o
 | .xd fs=>∃ mA,h.Ns1 a mA∧∀ f,RelO (fs.lookup f) (mA f)
 | .rng lo hi=>∃ t u v,h.get? a=some { cls := .type "range",data := .fields #[.int lo t,.int hi u,.int 1 v] }
 | .frz o u=>h.get? a=some o∧ObjOk H h a u
 | .tbl ps=>h.get? a=some { cls := .none,data := .fields ps }
 | .met f x=>h.get? a=some (W.methodObj (.ref f) (.ref x))
 | .ext φ=>φ h∧(∃ o,h.get? a=some o)∧∀ h1 h2:Heap,φ h1→(∀ o,h1.get? a=some o→h2.get? a=some o)→φ h2
noncomputable def HOk (H:Hp) (h:Heap):Prop:=∀ a o,H a=some o→ObjOk P w H h a o
end
section
variable {P:Program} {w:World} {H H':Hp} {h h':Heap} {a:Addr} {o:HO}
theorem ObjOk.lt (x:ObjOk P w H h a o):a<h.objs.size:=by
 cases o with
 | lst xs=>obtain ⟨_,_,_,_,e⟩:=x;exact Heap.lt_size e
 | tup xs=>obtain ⟨_,_,_,p⟩:=x;exact p.lt
 | dK kvs=>obtain ⟨_,_,_,_,o,_,_,e,_⟩:=x;exact Heap.lt_size e
 | dT kvs=>obtain ⟨_,_,_,_,o,_,_,e,_⟩:=x;exact Heap.lt_size e
 | set S n=>obtain ⟨o,_,_,_,e,_⟩:=x;exact Heap.lt_size e
 | ins C dx fs=>obtain ⟨_,_,_,e,_⟩:=x;exact Heap.lt_size e
 | own y=>obtain ⟨_,e⟩:=x;exact Heap.lt_size e
 | xd fs=>obtain ⟨_,⟨_,_,_,e,_⟩,_⟩:=x;exact Heap.lt_size e
 | rng lo hi=>obtain ⟨_,_,_,e⟩:=x;exact Heap.lt_size e
 | frz ob u=>obtain ⟨e,_⟩:=x;exact Heap.lt_size e
 | tbl ps=>exact Heap.lt_size (show h.get? a=some _ from x)
 | met f y=>exact Heap.lt_size (show h.get? a=some _ from x)
 | ext φ=>obtain ⟨_,⟨_,e⟩,_⟩:=x;exact Heap.lt_size e
theorem Paired.mapP {α β:Type} {F G:α→β→Prop}:∀ {l₁:List α} {l₂:List β},Paired F l₁ l₂→(∀ a b,F a b→G a b)→Paired G l₁ l₂
 | _,_,.nil,_=>.nil
 | _,_,.cons r t,f=>.cons (f _ _ r) (Paired.mapP t f)
theorem ObjOk.stay (x:ObjOk P w H h a o) (k:∀ b u,(b=a ∨ H b=some (.own a))→h.get? b=some u→h'.get? b=some u)
  (ho:∀ b,H b=some (.own a)→H' b=some (.own a)) (ht:∀ b xs,H b=some (.tup xs)→H' b=some (.tup xs)):ObjOk P w H' h' a o:=by
 induction o with
 | lst xs=>obtain ⟨z,its,n,r,e⟩:=x;exact ⟨z,its,n,r,k _ _ (.inl rfl) e⟩
 | tup xs=>obtain ⟨z,its,r,ob,e,c⟩:=x;exact ⟨z,its,r,ob,k _ _ (.inl rfl) e,c⟩
 | dK kvs=>obtain ⟨z,y,vs,r,ob,es,ep,e,c⟩:=x;exact ⟨z,y,vs,r,ob,es,ep,k _ _ (.inl rfl) e,c⟩
 | dT kvs =>
  obtain ⟨z,y,xs,r,ob,es,ep,e,c⟩:=x
  exact ⟨z,y,xs,Paired.mapP r λ p q z=>⟨z.1,ht _ _ z.2.1,z.2.2⟩,ob,es,ep,k _ _ (.inl rfl) e,c⟩
 | set S n=>obtain ⟨ob,es,ep,t,e,c⟩:=x;exact ⟨ob,es,ep,t,k _ _ (.inl rfl) e,c⟩
 | ins C dx fs =>
  obtain ⟨d,z,ne,e,mA,⟨od,es,ep,e2,c⟩,r⟩:=x
  exact ⟨ho _ d,z,ne,k _ _ (.inl rfl) e,mA,⟨od,es,ep,k _ _ (.inr d) e2,c⟩,r⟩
 | own y=>obtain ⟨ob,e⟩:=x;exact ⟨ob,k _ _ (.inl rfl) e⟩
 | xd fs=>obtain ⟨mA,⟨od,es,ep,e,c⟩,r⟩:=x;exact ⟨mA,⟨od,es,ep,k _ _ (.inl rfl) e,c⟩,r⟩
 | rng lo hi=>obtain ⟨t,u,v,e⟩:=x;exact ⟨t,u,v,k _ _ (.inl rfl) e⟩
 | frz ob u ih=>obtain ⟨e,q⟩:=x;exact ⟨k _ _ (.inl rfl) e,ih q⟩
 | tbl ps =>
  have e:h.get? a=some { cls := .none,data := .fields ps }:=x
  show h'.get? a=some { cls := .none,data := .fields ps }
  exact k a _ (.inl rfl) e
 | met f y =>
  have e:h.get? a=some (W.methodObj (.ref f) (.ref y)):=x
  show h'.get? a=some (W.methodObj (.ref f) (.ref y))
  exact k a _ (.inl rfl) e
 | ext φ=>obtain ⟨p,⟨o,e⟩,st⟩:=x;exact ⟨st _ _ p λ o q=>k _ _ (.inl rfl) q,⟨o,k _ _ (.inl rfl) e⟩,st⟩
theorem HOk.lt (x:HOk P w H h) (e:H a=some o):a<h.objs.size:=(x a o e).lt
theorem HOk.fresh (x:HOk P w H h) (e:h.objs.size≤a):H a=none:=by
 cases q:H a with
 | none=>rfl
 | some u=>exact absurd (Nat.lt_of_lt_of_le (x.lt q) e) (Nat.lt_irrefl _)
theorem HOk.kept (x:HOk P w H h) (k:∀ b u,h.get? b=some u→h'.get? b=some u):HOk P w H h':=λ a o e =>
 (x a o e).stay (λ b u _ q=>k b u q) (λ _ q=>q) λ _ _ q=>q
theorem HOk.laid (x:HOk P w H h) (k:∀ b u,h.get? b=some u→h'.get? b=some u) (hp:h.objs.size≤a) (new:ObjOk P w (upd H a o) h' a o):HOk P w (upd H a o) h':=λ b u e=>by
 have hn:=x.fresh hp
 by_cases hb:b=a
 ·subst hb;rw [upd_same] at e;cases e;exact new
 ·rw [zta hb] at e
  exact (x b u e).stay (λ c v _ q=>k c v q) (λ c q=>by rw [zta (zeb q hn)];exact q) λ c xs q=>by rw [zta (zeb q hn)];exact q
end
noncomputable def Rd (H:Hp) (a:Addr) (u:HO):Prop:=H a=some u ∨ ∃ o,H a=some (.frz o u)
theorem Rd.ok {P:Program} {w:World} {H:Hp} {h:Heap} {a:Addr} {u:HO} (r:Rd H a u) (x:HOk P w H h):ObjOk P w H h a u:=by
 rcases r with r | ⟨o,r⟩
 ·exact x a u r
 ·obtain ⟨_,q⟩:=x a _ r
  exact q
noncomputable def Mut:Option HO→Prop
 | some (.lst _)=>True
 | some (.dK _)=>True
 | some (.dT _)=>True
 | some (.set _ _)=>True
 | some (.ins _ _ _)=>True
 | some (.ext _)=>True
 | _=>False
section
variable {P:Program} {w:World} {H:Hp} {h h':Heap} {x e:Addr} {o':HO}
theorem HOk.write (ok:HOk P w H h) (mu:Mut (H x)) (he:e=x ∨ H e=some (.own x)) (k:∀ b u,b≠e→h.get? b=some u→h'.get? b=some u) (heo:∃ u,h'.get? e=some u)
  (new:ObjOk P w (upd H x o') h' x o'):HOk P w (upd H x o') h':=λ b u q=>by
 have nown:∀ c y,H c=some (.own y)→c≠x:=λ c y r z=>by subst z;rw [r] at mu;exact mu
 have ntup:∀ c xs,H c=some (.tup xs)→c≠x:=λ c xs r z=>by subst z;rw [r] at mu;exact mu
 by_cases hb:b=x
 ·subst hb;rw [upd_same] at q;cases q;exact new
 ·rw [zta hb] at q
  by_cases hbe:b=e
  ·have q':H b=some (.own x):=by
    rcases he with z | z
    ·exact absurd (hbe.trans z) hb
    ·rw [hbe];exact z
   rw [q] at q';cases q'
   obtain ⟨v,hv⟩:=heo
   exact ⟨v,by rw [hbe];exact hv⟩
  ·refine (ok b u q).stay (λ c v hc r=>k c v ?_ r) (λ c r=>by rw [zta (nown c b r)];exact r) λ c xs r=>by rw [zta (ntup c xs r)];exact r
   rcases hc with rfl | hc
   ·exact hbe
   ·rintro rfl
    rcases he with z | z
    ·exact nown c b hc z
    ·rw [hc] at z;cases z;exact hb rfl
end
structure Un (fs ex:List Addr) (H H':Hp) (h h':Heap):Prop where
 keep:∀ b o,h.get? b=some o→H b=none→b∉fs→b∉ex→h'.get? b=some o
 slot:∀ b o,h.get? b=some o→H b=none→b∈fs→b∉ex→∃ sl,h'.get? b=some { o with slots:=sl }
 free:∀ b o,h.get? b=some o→H b=none→b∉ex→H' b=none
 there:∀ b o,h.get? b=some o→b∉ex→∃ o',h'.get? b=some o'
 tups:∀ b xs,H b=some (.tup xs)→H' b=some (.tup xs)
 frzs:∀ b o u,H b=some (.frz o u)→H' b=some (.frz o u)
 tbls:∀ b ps,H b=some (.tbl ps)→∃ more,H' b=some (.tbl (ps++more))
section
variable {fs fs' ex ex':List Addr} {H H1 H2:Hp} {h h1 h2 h':Heap} {a x e:Addr} {o:HO}
theorem Un.any (u:Un fs ex H H1 h h1) {b:Addr} {ob:Obj} (q:h.get? b=some ob) (n:H b=none) (hx:b∉ex):∃ sl,h1.get? b=some { ob with slots:=sl }:=by
 by_cases hb:b∈fs
 ·exact u.slot b ob q n hb hx
 ·exact ⟨ob.slots,u.keep b ob q n hb hx⟩
theorem Un.kept (k:∀ b u,h.get? b=some u→h'.get? b=some u):Un fs ex H H h h' :=
 ⟨λ b ob q _ _ _=>k b ob q,λ b ob q _ _ _=>⟨ob.slots,k b ob q⟩,λ _ _ _ n _=>n,λ b ob q _=>⟨ob,k b ob q⟩,λ _ _ q=>q,λ _ _ _ q=>q,λ _ ps q=>⟨#[],by rw [q];simp⟩⟩
theorem Un.refl:Un fs ex H H h h:=Un.kept λ _ _ q=>q
theorem Un.laid (k:∀ b u,h.get? b=some u→h'.get? b=some u) (hp:h.objs.size≤a) (hn:H a=none):Un fs ex H (upd H a o) h h' where
 keep:=λ b u q _ _ _=>k b u q
 slot:=λ b u q _ _ _=>⟨u.slots,k b u q⟩
 free:=λ b u q n _=>by rw [zta (Nat.ne_of_lt (Nat.lt_of_lt_of_le (Heap.lt_size q) hp))];exact n
 there:=λ b u q _=>⟨u,k b u q⟩
 tups:=λ b xs q=>by rw [zta (zeb q hn)];exact q
 frzs:=λ b u xs q=>by rw [zta (zeb q hn)];exact q
 tbls:=λ b ps q=>⟨#[],by rw [zta (zeb q hn),q];simp⟩
theorem Un.write (mu:Mut (H x)) (he:e=x ∨ H e=some (.own x)) (k:∀ b u,b≠e→h.get? b=some u→h'.get? b=some u) (heo:∃ u,h'.get? e=some u):Un fs ex H (upd H x o) h h':=by
 have hx:∀ b,H b=none→b≠x:=λ b n z=>by subst z;rw [n] at mu;exact mu
 have hb:∀ b,H b=none→b≠e:=λ b n z=>by
  subst z
  rcases he with r | r
  ·exact hx b n r
  ·rw [n] at r;cases r
 have hm:∀ b u,H b=some u→¬ Mut (some u)→b≠x:=λ b u q nm z=>by subst z;rw [q] at mu;exact nm mu
 refine ⟨λ b u q n _ _=>k b u (hb b n) q,λ b u q n _ _=>⟨u.slots,k b u (hb b n) q⟩,λ b u q n _=>by rw [zta (hx b n)];exact n,λ b u q _=>?_,
  λ b xs q=>by rw [zta (hm b _ q λ z=>z)];exact q,λ b u xs q=>by rw [zta (hm b _ q λ z=>z)];exact q,λ b ps q=>⟨#[],by rw [zta (hm b _ q λ z=>z),q];simp⟩⟩
 by_cases hbe:b=e
 ·subst hbe;exact heo
 ·exact ⟨u,k b u hbe q⟩
end
noncomputable def trk (h:Heap) (H:Hp):List Addr:=(List.range h.objs.size).filter λ a=>(H a).isSome
noncomputable def hidT (h:Heap) (H:Hp):Heap:=W.hideAll h (trk h H)
theorem zpo (h:Heap) (H:Hp):(hidT h H).objs.size=h.objs.size:=W.hideAll_size _ _
theorem zbs {h:Heap} {H:Hp} {b:Addr} {o:Obj} (e:h.get? b=some o) (n:H b=none):(hidT h H).get? b=some o :=
 W.hideAll_get _ e λ hm=>by
  have q:(H b).isSome=true:=(List.mem_filter.mp hm).2
  rw [n] at q;simp at q
theorem zew {h:Heap} {H:Hp} {b:Addr} {o:Obj} (e:(hidT h H).get? b=some o):h.get? b=some o∧H b=none:=by
 have e':h.get? b=some o:=W.of_hideAll (trk h H) e
 refine ⟨e',?_⟩
 cases q:H b with
 | none=>rfl
 | some x =>
  have hm:b∈trk h H:=List.mem_filter.mpr ⟨List.mem_range.mpr (Heap.lt_size e'),by simp [q]⟩
  have z:(hidT h H).get? b=none:=W.hideAll_none (trk h H) hm
  rw [z] at e;cases e
end L2
namespace L2
open PySem PySem.Spec PyProof.Rows
structure Mod (K:W.Frag) (mg:Str→Option Value) (base:Heap):Prop where
 kin:K.In base
 glob:base.Ns mainGlobals mg
 blt:∃ mb,base.Ns builtinsNs mb∧∀ x:Str,x ≠ "__name__" → mb x=bootBuiltins x
 nolimit:base.NoLimit
structure Cx where
 prog:Program
 w:World
 K:W.Frag
 mg:Str→Option Value
 base:Heap
 A:Around
 N:List Str
 s₀:Shared
 H₀:Hp
 env:Env
 outer:List Env
 stack:List Env
 ex:List Addr
 fn:Str→Bool
 calm:Bool
 pn:List (Addr×Obj)
 xe:Value→Shared→Prop
noncomputable def frs (l:List Env):List Addr:=l.filterMap (·.frame)
noncomputable abbrev Cx.fs (X:Cx):List Addr:=frs X.outer
noncomputable def Vis (sc:Scope) (x:Str):Prop:=sc.names.lookup x=some .local ∨ sc.names.lookup x=some .cell ∨ sc.names.lookup x=some .free
noncomputable def Loc (sc:Scope) (x:Str):Prop:=sc.names.lookup x=some .local ∨ sc.names.lookup x=some .cell
noncomputable def Look (env:Env) (h:Heap) (m:Str→Option Value) (x:Str) (u:Value):Prop :=
 (env.kindOf x=some .local∧m x=some u) ∨ ((env.kindOf x=some .cell ∨ env.kindOf x=some .free)∧∃ c,env.cells.lookup x=some c∧h.IsCell c (some u))
structure Cx.Ok (X:Cx):Prop where
 mod:Mod X.K X.mg X.base
 kind:X.env.scope.kind = .function
 glob:X.env.globals=mainGlobals
 blt:X.env.builtins=builtinsNs
 above:X.s₀.heap.objs.size≤X.env.locals
 inj:∀ x y c,X.env.cells.lookup x=some c→X.env.cells.lookup y=some c→x=y
 has:∀ x,(X.env.kindOf x=some .cell ∨ X.env.kindOf x=some .free)→∃ c,X.env.cells.lookup x=some c
 cab:∀ x c,X.fn x=true→X.env.cells.lookup x=some c→X.s₀.heap.objs.size≤c
 hd:X.calm=true→X.A.handled=none
 frames:X.A.frames=some X.stack
 stk:X.stack=X.outer ∨ (X.stack=X.env::X.outer∧X.env.frame=some X.env.locals)
 exf:∀ b∈X.ex,b≠X.env.locals∧∀ x c,X.env.cells.lookup x=some c→c≠b
 bs:∀ b o,X.base.get? b=some o→X.s₀.heap.get? b=some o∧X.H₀ b=none
 bsz:X.base.objs.size≤X.s₀.heap.objs.size
 noex:∀ b o,X.base.get? b=some o→b∉X.ex
 exfs:∀ b∈X.ex,b∉X.fs
 funs:X.s₀.heap.FunFrames X.base X.outer
 frf:∀ b∈X.fs,X.H₀ b=none
structure Inv (X:Cx) (pins:List (Addr×Obj)) (σ:List (Option V)) (H:Hp) (s:Shared):Prop where
 ok:X.Ok
 os:s.os=X.s₀.os
 bare:AllBare s.gens
 base:Un X.fs X.ex X.H₀ H X.s₀.heap s.heap
 loc:∃ m,s.heap.Ns X.env.locals m∧∀ (i:Nat) (x:Str) (v:V),X.N[i]? = some x→σ[i]? = some (some v)→Vis X.env.scope x→∃ u,RelV v u∧Look X.env s.heap m x u
 cell:∀ x c,X.env.cells.lookup x=some c→∃ v,s.heap.IsCell c v
 free:H X.env.locals=none
 freeC:∀ x c,X.env.cells.lookup x=some c→H c=none
 pin:∀ p∈X.pn++pins,s.heap.get? p.1=some p.2∧H p.1=none∧p.1≠X.env.locals∧p.1∉X.fs∧∀ v,p.2.data ≠ .cell v
 hok:HOk X.prog X.w H s.heap
 len:σ.length=X.N.length
section
variable {X:Cx} {pins:List (Addr×Obj)} {σ:List (Option V)} {H H':Hp} {s:Shared} {h':Heap}
theorem Cx.Ok.nofr (ok:X.Ok) {b:Addr} {o:Obj} (e:X.base.get? b=some o):b∉X.fs:=λ hb=>by
 have:=(ok.funs.mem hb).1
 rw [e] at this;cases this
theorem Inv.bs (I:Inv X pins σ H s):∀ b o,X.base.get? b=some o→s.heap.get? b=some o∧H b=none:=λ b o e =>
 ⟨I.base.keep b o (I.ok.bs b o e).1 (I.ok.bs b o e).2 (I.ok.nofr e) (I.ok.noex b o e),I.base.free b o (I.ok.bs b o e).1 (I.ok.bs b o e).2 (I.ok.noex b o e)⟩
theorem Inv.bk (I:Inv X pins σ H s):∀ b o,X.base.get? b=some o→s.heap.get? b=some o:=λ b o e=>(I.bs b o e).1
theorem Inv.mod (I:Inv X pins σ H s):Mod X.K X.mg X.base:=I.ok.mod
theorem Inv.kIn (I:Inv X pins σ H s):X.K.In s.heap:=I.ok.mod.kin.keeps I.bk
theorem Inv.lt (I:Inv X pins σ H s):X.env.locals<s.heap.objs.size:=let ⟨_,hn,_⟩:=I.loc;hn.lt
theorem Inv.sz (I:Inv X pins σ H s):X.s₀.heap.objs.size≤s.heap.objs.size:=Nat.le_trans I.ok.above (Nat.le_of_lt I.lt)
theorem Inv.nofs (I:Inv X pins σ H s) {a:Addr} (h:s.heap.objs.size≤a):a∉X.fs:=λ hb=>by
 obtain ⟨_,o,ho,_⟩:=I.ok.funs.mem hb
 exact absurd (Nat.lt_of_lt_of_le (Heap.lt_size ho) (Nat.le_trans I.sz h)) (Nat.lt_irrefl _)
theorem Inv.cne (I:Inv X pins σ H s):∀ x c,X.env.cells.lookup x=some c→c≠X.env.locals:=λ x c e z=>by
 obtain ⟨v,o,ho,hd⟩:=I.cell x c e
 obtain ⟨m,⟨o',es,ep,ho',hd',_⟩,_⟩:=I.loc
 rw [z,ho'] at ho;cases ho;rw [hd'] at hd;cases hd
theorem Inv.funs (I:Inv X pins σ H s):s.heap.FunFrames X.base X.outer:=by
 have all:∀ (l:List Env),(∀ b∈frs l,b∈X.fs)→X.s₀.heap.FunFrames X.base l→s.heap.FunFrames X.base l:=by
  intro l
  induction l with
  | nil=>intro _ _;trivial
  | cons env r ih =>
   intro hs hl
   obtain ⟨hk,⟨L,o,hf,hn,ho,hd⟩,hr⟩:=hl
   have hL:L∈X.fs:=hs L (by unfold frs;rw [List.filterMap_cons,hf];exact List.mem_cons_self)
   obtain ⟨sl,e⟩:=I.base.slot L o ho (I.ok.frf L hL) hL λ z=>I.ok.exfs L z hL
   exact ⟨hk,⟨L,_,hf,hn,e,hd⟩,ih (λ b hb=>hs b (by unfold frs;rw [List.filterMap_cons,hf];exact List.mem_cons_of_mem _ hb)) hr⟩
 exact all X.outer (λ _ hb=>hb) I.ok.funs
theorem Inv.stack (I:Inv X pins σ H s):s.heap.FunFrames X.base X.stack:=by
 rcases I.ok.stk with e | ⟨e,hf⟩
 ·rw [e];exact I.funs
 ·rw [e]
  obtain ⟨m,hn,_⟩:=I.loc
  refine .cons (by rw [I.ok.kind];decide) hf hn ?_ I.funs
  exact Heap.get?_none_of_le (Nat.le_trans I.ok.bsz I.ok.above)
theorem Inv.stkSub (I:Inv X pins σ H s):∀ b∈frs X.stack,b∈X.env.locals::X.fs:=λ b hb=>by
 rcases I.ok.stk with e | ⟨e,hf⟩
 ·rw [e] at hb;exact List.mem_cons_of_mem _ hb
 ·rw [e] at hb
  unfold frs at hb
  rw [List.filterMap_cons,hf] at hb
  exact hb
theorem Inv.stkFree (I:Inv X pins σ H s):∀ b∈frs X.stack,H b=none:=λ b hb=>by
 rcases List.mem_cons.mp (I.stkSub b hb) with e | hb
 ·rw [e];exact I.free
 ·obtain ⟨_,o,ho,_⟩:=I.ok.funs.mem hb
  exact I.base.free b o ho (I.ok.frf b hb) λ z=>I.ok.exfs b z hb
theorem Inv.step {g':Array GenState} {t':Nat} {d':Drawn} {ch:List Addr} (I:Inv X pins σ H s)
  (hch:∀ b∈ch,(b∈X.ex ∨ X.s₀.heap.objs.size≤b)∧b≠X.env.locals∧(∀ x c,X.env.cells.lookup x=some c→c≠b)∧∀ p∈X.pn++pins,p.1≠b)
  (keep:∀ b o,b≠X.env.locals→b∉X.fs→b∉ch→s.heap.get? b=some o→H b=none→h'.get? b=some o)
  (slot:∀ b o,b≠X.env.locals→b∈X.fs→b∉ch→s.heap.get? b=some o→H b=none→∃ sl,h'.get? b=some { o with slots:=sl }) (free:∀ b o,b∉ch→s.heap.get? b=some o→H b=none→H' b=none)
  (there:∀ b o,b∉ch→s.heap.get? b=some o→∃ o',h'.get? b=some o')
  (tups:∀ b xs,H b=some (.tup xs)→H' b=some (.tup xs)) (frzs:∀ b o u,H b=some (.frz o u)→H' b=some (.frz o u)) (tbls:∀ b ps,H b=some (.tbl ps)→∃ more,H' b=some (.tbl (ps++more)))
  (ns:∀ m,s.heap.Ns X.env.locals m→h'.Ns X.env.locals m) (hok:HOk X.prog X.w H' h') (hg:AllBare g') :
  Inv X pins σ H' { s with heap:=h',gens:=g',drawn:=d',toks:=t' }:=by
 have neL:∀ b o,X.s₀.heap.get? b=some o→b≠X.env.locals:=λ b o e=>Nat.ne_of_lt (Nat.lt_of_lt_of_le (Heap.lt_size e) I.ok.above)
 have neC:∀ b o,X.s₀.heap.get? b=some o→b∉X.ex→b∉ch:=λ b o e hx hb=>by
  rcases (hch b hb).1 with z | z
  ·exact hx z
  ·exact absurd (Nat.lt_of_lt_of_le (Heap.lt_size e) z) (Nat.lt_irrefl _)
 have cellK:∀ x c,X.env.cells.lookup x=some c→∀ v,s.heap.IsCell c v→h'.IsCell c v:=λ x c e v ⟨o,ho,hd⟩=>by
  have nch:c∉ch:=λ z=>(hch c z).2.2.1 x c e rfl
  by_cases hc:c∈X.fs
  ·obtain ⟨sl,q⟩:=slot c o (I.cne x c e) hc nch ho (I.freeC x c e)
   exact ⟨_,q,hd⟩
  ·exact ⟨o,keep c o (I.cne x c e) hc nch ho (I.freeC x c e),hd⟩
 refine ⟨I.ok,I.os,hg,⟨λ b o e n hb hx=>?_,λ b o e n hb hx=>?_,λ b o e n hx=>?_,λ b o e hx=>?_,λ b xs e=>tups b xs (I.base.tups b xs e),λ b o xs e=>frzs b o xs (I.base.frzs b o xs e),λ b ps e=>?_⟩,?_,λ x c e=>?_,?_,λ x c e=>?_,λ p hp=>?_,hok,I.len⟩
 ·exact keep b o (neL b o e) hb (neC b o e hx) (I.base.keep b o e n hb hx) (I.base.free b o e n hx)
 ·obtain ⟨sl,e1⟩:=I.base.slot b o e n hb hx
  obtain ⟨sl',e2⟩:=slot b _ (neL b o e) hb (neC b o e hx) e1 (I.base.free b o e n hx)
  exact ⟨sl',e2⟩
 ·obtain ⟨o',e1⟩:=I.base.there b o e hx
  exact free b o' (neC b o e hx) e1 (I.base.free b o e n hx)
 ·obtain ⟨o',e1⟩:=I.base.there b o e hx
  exact there b o' (neC b o e hx) e1
 ·obtain ⟨m1,e1⟩:=I.base.tbls b ps e
  obtain ⟨m2,e2⟩:=tbls b _ e1
  exact ⟨m1++m2,by rw [e2,Array.append_assoc]⟩
 ·obtain ⟨m,hn,hl⟩:=I.loc
  refine ⟨m,ns m hn,λ i x v e1 e2 e3=>?_⟩
  obtain ⟨u,r,l⟩:=hl i x v e1 e2 e3
  refine ⟨u,r,?_⟩
  rcases l with l | ⟨k,c,e,z⟩
  ·exact .inl l
  ·exact .inr ⟨k,c,e,cellK x c e _ z⟩
 ·obtain ⟨v,z⟩:=I.cell x c e
  exact ⟨v,cellK x c e v z⟩
 ·obtain ⟨m,⟨o,_,_,ho,_⟩,_⟩:=I.loc
  exact free _ o (λ z=>(hch _ z).2.1 rfl) ho I.free
 ·obtain ⟨v,o,ho,hd⟩:=I.cell x c e
  exact free c o (λ z=>(hch c z).2.2.1 x c e rfl) ho (I.freeC x c e)
 ·obtain ⟨e,n,ne,nf,d⟩:=I.pin p hp
  have nch:p.1∉ch:=λ z=>(hch p.1 z).2.2.2 p hp rfl
  exact ⟨keep p.1 p.2 ne nf nch e n,free p.1 p.2 nch e n,ne,nf,d⟩
theorem Inv.un {t':Nat} (I:Inv X pins σ H s) (u:Un X.fs [] H H' s.heap h') (hok:HOk X.prog X.w H' h'):Inv X pins σ H' { s with heap:=h',toks:=t' }:=by
 obtain ⟨m,⟨o,es,ep,ho,r⟩,_⟩:=id I.loc
 obtain ⟨sl,hL⟩:=u.any ho I.free (by simp)
 exact I.step (g':=s.gens) (d':=s.drawn) (ch:=[]) (λ _ z=>nomatch z) (λ b o _ hb _ e n=>u.keep b o e n hb (by simp)) (λ b o _ hb _ e n=>u.slot b o e n hb (by simp)) (λ b o _ e n=>u.free b o e n (by simp)) (λ b o _ e=>u.there b o e (by simp)) u.tups u.frzs u.tbls (λ m' hm=>by
  obtain ⟨o',es',ep',ho',r'⟩:=hm
  rw [ho] at ho';cases ho'
  exact ⟨_,es',ep',hL,r'⟩) hok I.bare
theorem Inv.call {g':Array GenState} {t':Nat} {d':Drawn} {ch:List Addr} (I:Inv X pins σ H s) (u:Un (frs X.stack) ch H H' s.heap h') (hok:HOk X.prog X.w H' h') (hg:AllBare g')
  (hch:∀ b∈ch,(b∈X.ex ∨ X.s₀.heap.objs.size≤b)∧b≠X.env.locals∧(∀ x c,X.env.cells.lookup x=some c→c≠b)∧∀ p∈X.pn++pins,p.1≠b) :
  Inv X pins σ H' { s with heap:=h',gens:=g',drawn:=d',toks:=t' }:=by
 obtain ⟨m,⟨o,es,ep,ho,r⟩,_⟩:=id I.loc
 obtain ⟨sl,hL⟩:=u.any ho I.free λ z=>(hch _ z).2.1 rfl
 exact I.step (ch:=ch) hch (λ b o hL hb hc e n=>u.keep b o e n (λ z=>(List.mem_cons.mp (I.stkSub b z)).elim hL hb) hc) (λ b o _ _ hc e n=>u.any e n hc) (λ b o hc e n=>u.free b o e n hc) (λ b o hc e=>u.there b o e hc) u.tups u.frzs u.tbls (λ m' hm=>by
  obtain ⟨o',es',ep',ho',r'⟩:=hm
  rw [ho] at ho';cases ho'
  exact ⟨_,es',ep',hL,r'⟩) hok hg
theorem Inv.turned {t':Nat} {it:Addr} (I:Inv X pins σ H s) (k:∀ b o,b≠it→s.heap.get? b=some o→h'.get? b=some o) (hn:H it=none) (hL:it≠X.env.locals)
  (h1:it∈X.ex ∨ X.s₀.heap.objs.size≤it) (h2:∀ x c,X.env.cells.lookup x=some c→c≠it) (h3:∀ p∈X.pn++pins,p.1≠it):Inv X pins σ H { s with heap:=h',toks:=t' }:=by
 have nit:∀ b u,H b=some u→b≠it:=λ b u e z=>by rw [z,hn] at e;cases e
 refine I.step (g':=s.gens) (d':=s.drawn) (ch:=[it]) (λ b hb=>?_) (λ b o _ _ hc e _=>k b o (λ z=>hc (by simp [z])) e) (λ b o _ _ hc e _=>⟨o.slots,k b o (λ z=>hc (by simp [z])) e⟩) (λ _ _ _ _ n=>n)
  (λ b o hc e=>⟨o,k b o (λ z=>hc (by simp [z])) e⟩) (λ _ _ e=>e) (λ _ _ _ e=>e) (λ b ps e=>⟨#[],by rw [e];simp⟩) (λ m hm=>?_) (λ b u e=>?_) I.bare
 ·have e:b=it:=by simpa using hb
  subst e
  exact ⟨h1,hL,h2,h3⟩
 ·obtain ⟨o,es,ep,ho,r⟩:=hm
  exact ⟨o,es,ep,k _ o (Ne.symm hL) ho,r⟩
 ·refine (I.hok b u e).stay (λ c v hc q=>k c v ?_ q) (λ _ q=>q) λ _ _ q=>q
  rcases hc with z | z
  ·rw [z];exact nit b u e
  ·exact nit c _ z
theorem Inv.tok (I:Inv X pins σ H s) (t:Nat):Inv X pins σ H { s with toks:=t }:=I.un (h':=s.heap) (t':=t) Un.refl I.hok
theorem Inv.kept {t':Nat} (I:Inv X pins σ H s) (k:∀ b u,s.heap.get? b=some u→h'.get? b=some u):Inv X pins σ H { s with heap:=h',toks:=t' }:=I.un (Un.kept k) (I.hok.kept k)
theorem Inv.laid {a:Addr} {o:HO} {t':Nat} (I:Inv X pins σ H s) (k:∀ b u,s.heap.get? b=some u→h'.get? b=some u) (hp:s.heap.objs.size≤a) (new:ObjOk X.prog X.w (upd H a o) h' a o) :
  Inv X pins σ (upd H a o) { s with heap:=h',toks:=t' }:=I.un (Un.laid k hp (I.hok.fresh hp)) (I.hok.laid k hp new)
theorem Inv.write {x e:Addr} {o:HO} {t':Nat} (I:Inv X pins σ H s) (mu:Mut (H x)) (he:e=x ∨ H e=some (.own x)) (k:∀ b u,b≠e→s.heap.get? b=some u→h'.get? b=some u) (heo:∃ u,h'.get? e=some u)
  (new:ObjOk X.prog X.w (upd H x o) h' x o):Inv X pins σ (upd H x o) { s with heap:=h',toks:=t' }:=I.un (Un.write mu he k heo) (I.hok.write mu he k heo new)
theorem Inv.weak {σ':List (Option V)} (I:Inv X pins σ H s) (hl:σ'.length=σ.length) (w:∀ (i:Nat) v,σ'[i]? = some (some v)→σ[i]? = some (some v)):Inv X pins σ' H s :=
 ⟨I.ok,I.os,I.bare,I.base,let ⟨m,hn,hl'⟩:=I.loc; ⟨m,hn,λ i x v e1 e2 e3=>hl' i x v e1 (w i v e2) e3⟩,I.cell,I.free,I.freeC,I.pin,I.hok,hl.trans I.len⟩
theorem Inv.pins_of {pins':List (Addr×Obj)} (I:Inv X pins σ H s) (h:∀ p∈pins',s.heap.get? p.1=some p.2∧H p.1=none∧p.1≠X.env.locals∧p.1∉X.fs∧∀ v,p.2.data ≠ .cell v):Inv X pins' σ H s :=
 ⟨I.ok,I.os,I.bare,I.base,I.loc,I.cell,I.free,I.freeC,λ p hp=>(List.mem_append.mp hp).elim (λ z=>I.pin p (List.mem_append_left _ z)) (h p),I.hok,I.len⟩
theorem zgh {N:List Str} (hN:N.Nodup) {i j:Nat} {x:Str} (a:N[i]? = some x) (b:N[j]? = some x):i=j:=by
 obtain ⟨h1,e1⟩:=List.getElem?_eq_some_iff.mp a
 obtain ⟨h2,e2⟩:=List.getElem?_eq_some_iff.mp b
 exact (List.getElem_inj hN).mp (e1.trans e2.symm)
theorem znj {M:Model} {A:Around} {E:Value→Shared→Prop} {i:Nat} {x:Str} {v:V} {u:Value} {Q:Unit→Shared→Prop} (I:Inv X pins σ H s) (hN:X.N.Nodup) (hi:X.N[i]? = some x) (hx:Loc X.env.scope x) (r:RelV v u)
  (h:∀ s',Inv X pins (σ.set i (some v)) H s'→(∃ a,Heap.SameBut a s.heap s'.heap∧(a=X.env.locals ∨ X.env.cells.lookup x=some a))→Q () s') (hf:X.fn x=true ∨ X.env.scope.names.lookup x=some .local:=by first | exact .inl rfl | exact .inr rfl | assumption):wpAny M A (storeName X.env x u) Q E s:=by
 obtain ⟨m,hn,hl⟩:=id I.loc
 have hcls:(X.env.scope.kind == .class || (X.env.scope.kind == .module && X.env.locals != X.env.globals))=false:=by rw [I.ok.kind];rfl
 have hiσ:i<σ.length:=by rw [I.len];exact (List.getElem?_eq_some_iff.mp hi).1
 have cne:=I.cne
 have tracked:∀ {a:Addr} {h':Heap},(∃ o,s.heap.get? a=some o∧H a=none)→Heap.SameBut a s.heap h'→HOk X.prog X.w H h':=fun {a h'} ha hs b ob e=>by
  obtain ⟨_,_,hfree⟩:=ha
  refine (I.hok b ob e).stay (λ c w' hc q=>(hs.2 c ?_).trans q) (λ _ q=>q) λ _ _ q=>q
  rintro rfl
  rcases hc with rfl | hc
  ·rw [hfree] at e;cases e
  ·rw [hfree] at hc;cases hc
 rcases hx with hk | hk
 ·refine wpAny_storeName_local hk hn (λ h' hn' hs=>?_) hcls
  obtain ⟨oL,_,_,hoL,_⟩:=id hn
  refine h _ ⟨I.ok,I.os,I.bare,⟨λ b o e n hb hx=>?_,λ b o e n hb hx=>?_,I.base.free,λ b o e hx=>?_,I.base.tups,I.base.frzs,I.base.tbls⟩,⟨_,hn',λ j y v' e1 e2 e3=>?_⟩,λ y c e=>?_,I.free,I.freeC,λ p hp=>?_,tracked ⟨oL,hoL,I.free⟩ hs,by simpa using I.len⟩ ⟨_,hs,.inl rfl⟩
  ·exact (hs.2 b (Nat.ne_of_lt (Nat.lt_of_lt_of_le (Heap.lt_size e) I.ok.above))).trans (I.base.keep b o e n hb hx)
  ·obtain ⟨sl,e1⟩:=I.base.slot b o e n hb hx
   exact ⟨sl,(hs.2 b (Nat.ne_of_lt (Nat.lt_of_lt_of_le (Heap.lt_size e) I.ok.above))).trans e1⟩
  ·obtain ⟨o',e1⟩:=I.base.there b o e hx
   exact ⟨o',(hs.2 b (Nat.ne_of_lt (Nat.lt_of_lt_of_le (Heap.lt_size e) I.ok.above))).trans e1⟩
  ·by_cases hj:j=i
   ·subst hj
    rw [hi] at e1;cases e1
    rw [List.getElem?_set_self hiσ] at e2
    cases e2
    exact ⟨u,r,.inl ⟨hk,by simp⟩⟩
   ·rw [List.getElem?_set_ne (Ne.symm hj)] at e2
    obtain ⟨u',r',q⟩:=hl j y v' e1 e2 e3
    refine ⟨u',r',?_⟩
    rcases q with ⟨k,e⟩ | ⟨k,c,e,z⟩
    ·refine .inl ⟨k,?_⟩
     have:y≠x:=λ e=>hj (zgh hN e1 (e ▸ hi))
     simp [this,e]
    ·exact .inr ⟨k,c,e,z.sameBut hs (cne y c e)⟩
  ·obtain ⟨w',z⟩:=I.cell y c e
   exact ⟨w',z.sameBut hs (cne y c e)⟩
  ·obtain ⟨e,n,ne,nf,d⟩:=I.pin p hp
   exact ⟨(hs.2 p.1 ne).trans e,n,ne,nf,d⟩
 ·have hfn:X.fn x=true:=by
   rcases hf with z | z
   ·exact z
   ·rw [z] at hk;cases hk
  obtain ⟨c,hc⟩:=I.ok.has x (.inl hk)
  obtain ⟨w',z⟩:=I.cell x c hc
  refine wpAny_storeName_cell I.ok.kind hk hc z (λ h' hc' hs=>?_)
  obtain ⟨oc,hoc,hocd⟩:=id z
  refine h { s with heap:=h' } ⟨I.ok,I.os,I.bare,⟨λ b o e n hb hx=>?_,λ b o e n hb hx=>?_,I.base.free,λ b o e hx=>?_,I.base.tups,I.base.frzs,I.base.tbls⟩,⟨m,hn.sameBut hs (Ne.symm (cne x c hc)),λ j y v' e1 e2 e3=>?_⟩,λ y c' e=>?_,I.free,I.freeC,λ p hp=>?_,tracked ⟨oc,hoc,I.freeC x c hc⟩ hs,by simpa using I.len⟩ ⟨c,hs,.inr hc⟩
  ·exact (hs.2 b (Nat.ne_of_lt (Nat.lt_of_lt_of_le (Heap.lt_size e) (I.ok.cab x c hfn hc)))).trans (I.base.keep b o e n hb hx)
  ·obtain ⟨sl,e1⟩:=I.base.slot b o e n hb hx
   exact ⟨sl,(hs.2 b (Nat.ne_of_lt (Nat.lt_of_lt_of_le (Heap.lt_size e) (I.ok.cab x c hfn hc)))).trans e1⟩
  ·obtain ⟨o',e1⟩:=I.base.there b o e hx
   exact ⟨o',(hs.2 b (Nat.ne_of_lt (Nat.lt_of_lt_of_le (Heap.lt_size e) (I.ok.cab x c hfn hc)))).trans e1⟩
  ·by_cases hj:j=i
   ·subst hj
    rw [hi] at e1;cases e1
    rw [List.getElem?_set_self hiσ] at e2
    cases e2
    exact ⟨u,r,.inr ⟨.inl hk,c,hc,hc'⟩⟩
   ·rw [List.getElem?_set_ne (Ne.symm hj)] at e2
    obtain ⟨u',r',q⟩:=hl j y v' e1 e2 e3
    refine ⟨u',r',?_⟩
    rcases q with q | ⟨k,c',e,z'⟩
    ·exact .inl q
    ·refine .inr ⟨k,c',e,z'.sameBut hs ?_⟩
     rintro rfl
     exact hj (zgh hN e1 (I.ok.inj _ _ _ e hc ▸ hi))
  ·by_cases hcc:c'=c
   ·subst hcc;exact ⟨_,hc'⟩
   ·obtain ⟨w2,z2⟩:=I.cell y c' e
    exact ⟨w2,z2.sameBut hs hcc⟩
  ·obtain ⟨e,n,ne,nf,d⟩:=I.pin p hp
   refine ⟨(hs.2 p.1 ?_).trans e,n,ne,nf,d⟩
   intro q
   rw [q,hoc] at e
   have q':oc=p.2:=Option.some.inj e
   exact d w' (by rw [← q'];exact hocd)
theorem zof {M:Model} {A:Around} {E:Value→Shared→Prop} {i:Nat} {x:Str} {v:V} {u:Value} {Q:Unit→Shared→Prop} (I:Inv X pins σ H s) (hN:X.N.Nodup) (hi:X.N[i]? = some x) (hx:Loc X.env.scope x) (r:RelV v u)
  (h:∀ s',Inv X pins (σ.set i (some v)) H s'→Q () s') (hf:X.fn x=true ∨ X.env.scope.names.lookup x=some .local:=by first | exact .inl rfl | exact .inr rfl | assumption):wpAny M A (storeName X.env x u) Q E s :=
 znj I hN hi hx r (λ s' I' _=>h s' I') hf
theorem Inv.call' {s':Shared} {ch:List Addr} (I:Inv X pins σ H s) (ho:s'.os=s.os) (u:Un (frs X.stack) ch H H' s.heap s'.heap) (hok:HOk X.prog X.w H' s'.heap) (hg:AllBare s'.gens)
  (hch:∀ b∈ch,(b∈X.ex ∨ X.s₀.heap.objs.size≤b)∧b≠X.env.locals∧(∀ x c,X.env.cells.lookup x=some c→c≠b)∧∀ p∈X.pn++pins,p.1≠b):Inv X pins σ H' s':=by
 obtain ⟨h',g',d',t',o'⟩:=s'
 have e:o'=s.os:=ho
 subst e
 exact I.call (g':=g') (t':=t') (d':=d') u hok hg hch
end
noncomputable abbrev XK:=Value→Option Addr→Hp→Prop
noncomputable abbrev St:=List (Option V)
noncomputable abbrev VK:=V→Hp→Prop
noncomputable abbrev TE:=St→Hp→VK→Prop
noncomputable abbrev TT:=St→Hp→(Bool→Hp→Prop)→Prop
noncomputable abbrev TA:=St→Hp→(List V→Hp→Prop)→Prop
structure Ends where
 nx:St→Hp→Prop
 rt:VK
 bk:St→Hp→Prop:=λ _ _=>False
 ct:St→Hp→Prop:=λ _ _=>False
noncomputable abbrev TS:=Ends→St→Hp→Prop
noncomputable def EP (X:Cx) (pins:List (Addr×Obj)) (σ:St) (Q:VK) (u:Value) (s':Shared):Prop:=∃ v H',Inv X pins σ H' s'∧RelV v u∧Q v H'
noncomputable def TP (X:Cx) (pins:List (Addr×Obj)) (σ:St) (Q:Bool→Hp→Prop) (b:Bool) (s':Shared):Prop:=∃ H',Inv X pins σ H' s'∧Q b H'
noncomputable def AP (X:Cx) (pins:List (Addr×Obj)) (σ:St) (Q:List V→Hp→Prop) (us:List Value) (s':Shared):Prop:=∃ vs H',Inv X pins σ H' s'∧Vals vs us∧Q vs H'
noncomputable def SP (X:Cx) (pins:List (Addr×Obj)) (D:Ends) (f:Flow) (s':Shared):Prop :=
 match f with
 | .next=>∃ σ' H',Inv X pins σ' H' s'∧D.nx σ' H'
 | .brk=>∃ σ' H',Inv X pins σ' H' s'∧D.bk σ' H'
 | .cont=>∃ σ' H',Inv X pins σ' H' s'∧D.ct σ' H'
 | .ret u=>∃ v σ' H',Inv X pins σ' H' s'∧RelV v u∧D.rt v H'
structure PE (X:Cx) (e:Expr) (t:TE):Prop where
 run :
 ∀ (pins:List (Addr×Obj)) (s:Shared) (σ:St) (H:Hp) (Q:VK),Inv X pins σ H s→t σ H Q→wpAny (model X.prog X.w) X.A (eval e X.env) (EP X pins σ Q) X.xe s
noncomputable instance {X:Cx} {e:Expr} {t:TE}:CoeFun (PE X e t) (λ _ =>
 ∀ (pins:List (Addr×Obj)) (s:Shared) (σ:St) (H:Hp) (Q:VK),Inv X pins σ H s→t σ H Q→wpAny (model X.prog X.w) X.A (eval e X.env) (EP X pins σ Q) X.xe s
 ):=⟨λ h=>h.run⟩
structure PT (X:Cx) (e:Expr) (t:TT):Prop where
 run :
 ∀ (pins:List (Addr×Obj)) (s:Shared) (σ:St) (H:Hp) (Q:Bool→Hp→Prop),Inv X pins σ H s→t σ H Q→wpAny (model X.prog X.w) X.A (isTrue e X.env (eval e X.env)) (TP X pins σ Q) X.xe s
noncomputable instance {X:Cx} {e:Expr} {t:TT}:CoeFun (PT X e t) (λ _ =>
 ∀ (pins:List (Addr×Obj)) (s:Shared) (σ:St) (H:Hp) (Q:Bool→Hp→Prop),Inv X pins σ H s→t σ H Q→wpAny (model X.prog X.w) X.A (isTrue e X.env (eval e X.env)) (TP X pins σ Q) X.xe s
 ):=⟨λ h=>h.run⟩
structure PW (X:Cx) (e:Expr) (t:TT):Prop where
 run :
 ∀ (whole:Sem Value) (pins:List (Addr×Obj)) (s:Shared) (σ:St) (H:Hp) (Q:Bool→Hp→Prop),Inv X pins σ H s→t σ H Q→wpAny (model X.prog X.w) X.A (isTrue e X.env whole) (TP X pins σ Q) X.xe s
noncomputable instance {X:Cx} {e:Expr} {t:TT}:CoeFun (PW X e t) (λ _ =>
 ∀ (whole:Sem Value) (pins:List (Addr×Obj)) (s:Shared) (σ:St) (H:Hp) (Q:Bool→Hp→Prop),Inv X pins σ H s→t σ H Q→wpAny (model X.prog X.w) X.A (isTrue e X.env whole) (TP X pins σ Q) X.xe s
 ):=⟨λ h=>h.run⟩
theorem PW.pt {X:Cx} {e:Expr} {t:TT} (h:PW X e t):PT X e t := .mk (h _)
structure PA (X:Cx) (es:List Expr) (t:TA):Prop where
 run :
 ∀ (pos:Pos) (pins:List (Addr×Obj)) (s:Shared) (σ:St) (H:Hp) (Q:List V→Hp→Prop),Inv X pins σ H s→t σ H Q→wpAny (model X.prog X.w) X.A (spliced (backTo pos (starEach es X.env))) (AP X pins σ Q) X.xe s
noncomputable instance {X:Cx} {es:List Expr} {t:TA}:CoeFun (PA X es t) (λ _ =>
 ∀ (pos:Pos) (pins:List (Addr×Obj)) (s:Shared) (σ:St) (H:Hp) (Q:List V→Hp→Prop),Inv X pins σ H s→t σ H Q→wpAny (model X.prog X.w) X.A (spliced (backTo pos (starEach es X.env))) (AP X pins σ Q) X.xe s
 ):=⟨λ h=>h.run⟩
structure PS (X:Cx) (st:Stmt) (t:TS):Prop where
 run :
 ∀ (pins:List (Addr×Obj)) (s:Shared) (σ:St) (H:Hp) (D:Ends),Inv X pins σ H s→t D σ H→wpAny (model X.prog X.w) X.A (exec st X.env) (SP X pins D) X.xe s
noncomputable instance {X:Cx} {st:Stmt} {t:TS}:CoeFun (PS X st t) (λ _ =>
 ∀ (pins:List (Addr×Obj)) (s:Shared) (σ:St) (H:Hp) (D:Ends),Inv X pins σ H s→t D σ H→wpAny (model X.prog X.w) X.A (exec st X.env) (SP X pins D) X.xe s
 ):=⟨λ h=>h.run⟩
structure PSs (X:Cx) (st:List Stmt) (t:TS):Prop where
 run :
 ∀ (pins:List (Addr×Obj)) (s:Shared) (σ:St) (H:Hp) (D:Ends),Inv X pins σ H s→t D σ H→wpAny (model X.prog X.w) X.A (execs st X.env) (SP X pins D) X.xe s
noncomputable instance {X:Cx} {st:List Stmt} {t:TS}:CoeFun (PSs X st t) (λ _ =>
 ∀ (pins:List (Addr×Obj)) (s:Shared) (σ:St) (H:Hp) (D:Ends),Inv X pins σ H s→t D σ H→wpAny (model X.prog X.w) X.A (execs st X.env) (SP X pins D) X.xe s
 ):=⟨λ h=>h.run⟩
theorem thn {α:Type} {t:Sem α} {Q Q':α→Shared→Prop} {M:Model} {A:Around} {E:Value→Shared→Prop} {s:Shared} (h:wpAny M A t Q E s) (hQ:∀ a s,Q a s→Q' a s):wpAny M A t Q' E s:=wpAny_mono h hQ λ _ _ x=>x
end L2
namespace L2
open PySem PySem.Spec PyProof.Rows
section
variable {X:Cx}
noncomputable def tVar (i:Nat):TE:=λ σ H Q=>∃ v,σ[i]? = some (some v)∧Q v H
noncomputable def tC (v:V):TE:=λ _ H Q=>Q v H
theorem zcx {i:Nat} {x:Str} {pos:Pos} (hN:X.N[i]? = some x) (hv:Vis X.env.scope x) (hd:(x == ("__debug__" : Str))=false:=by decide) (hcd:(x == ("__classdict__" : Str))=false:=by decide):PE X (.Name x pos) (tVar i) := .mk <| by
 intro pins s σ H Q I h
 obtain ⟨v,e,h⟩:=h
 obtain ⟨m,hn,hl⟩:=I.loc
 obtain ⟨u,r,l⟩:=hl i x v hN e hv
 have fin:EP X pins σ Q u s:=⟨v,H,I,r,h⟩
 rcases l with ⟨hk,hm⟩ | ⟨hk,c,hc,hcell⟩
 ·exact wpAny_Name (wpAny_loadName_local I.ok.kind hk hn hm fin) hd
 ·rcases hk with hk | hk
  ·exact wpAny_Name (wpAny_loadName_cell I.ok.kind hk hc hcell fin) hd
  ·exact wpAny_Name (wpAny_loadName_free I.ok.kind hk hc hcell fin hcd) hd
theorem zea {i j pos}:PE X (.Constant (.int i) j pos) (tC (.int i)) := .mk <| λ _ _ _ H _ I h=>wpAny_Constant_int ⟨.int i,H,I.tok _,⟨_,rfl⟩,h⟩
theorem zgv {b j pos}:PE X (.Constant (.bool b) j pos) (tC (.bl b)) := .mk <| λ _ _ _ H _ I h=>Constant_bool ⟨.bl b,H,I,rfl,h⟩
theorem zyj {j pos}:PE X (.Constant .none j pos) (tC .non) := .mk <| λ _ _ _ H _ I h=>Constant_none ⟨.non,H,I,rfl,h⟩
theorem zla {x j pos}:PE X (.Constant (.str x) j pos) (tC (.str x)) := .mk <| λ _ _ _ H _ I h=>Calls.Constant_str ⟨.str x,H,I.tok _,⟨_,rfl⟩,h⟩
noncomputable def Gl (X:Cx) (x:Str):Prop:=X.env.kindOf x=some .globalImplicit
theorem zig {E:Value→Shared→Prop} {pins:List (Addr×Obj)} {s:Shared} {σ:St} {H:Hp} {x:Str} {u:Value} {pos:Pos} {Q:Value→Shared→Prop} (I:Inv X pins σ H s) (hg:Gl X x) (hm:X.mg x=some u) (h:Q u s)
  (hd:(x == ("__debug__" : Str))=false:=by decide):wpAny (model X.prog X.w) X.A (eval (.Name x pos) X.env) Q E s :=
 Calls.Name_function_global I.ok.kind hg (Calls.loadGlobal_global (by rw [I.ok.glob];exact I.mod.glob.keeps I.bk) hm h) hd
theorem zwj {E:Value→Shared→Prop} {pins:List (Addr×Obj)} {s:Shared} {σ:St} {H:Hp} {x:Str} {u:Value} {pos:Pos} {Q:Value→Shared→Prop} (I:Inv X pins σ H s) (hg:Gl X x) (hm:X.mg x=none) (hv:bootBuiltins x=some u) (h:Q u s)
  (hn:x ≠ "__name__" := by decide) (hd:(x == ("__debug__" : Str))=false:=by decide):wpAny (model X.prog X.w) X.A (eval (.Name x pos) X.env) Q E s:=by
 obtain ⟨mb,h1,h2⟩:=I.mod.blt
 exact Calls.Name_function_global I.ok.kind hg (Calls.loadGlobal_builtin (by rw [I.ok.glob];exact I.mod.glob.keeps I.bk) hm (by rw [I.ok.blt];exact h1.keeps I.bk) ((h2 x hn).trans hv) h) hd
theorem zgb {x:Str} {v:V} {u:Value} {pos:Pos} (hg:Gl X x) (hm:X.mg x=some u) (r:RelV v u) (hd:(x == ("__debug__" : Str))=false:=by decide):PE X (.Name x pos) (tC v) := .mk <| λ _ _ _ H _ I h=>zig I hg hm ⟨v,H,I,r,h⟩ hd
theorem zkt {x:Str} {v:V} {u:Value} {pos:Pos} (hg:Gl X x) (hm:X.mg x=none) (hv:bootBuiltins x=some u) (r:RelV v u) (hn:x ≠ "__name__" := by decide) (hd:(x == ("__debug__" : Str))=false:=by decide):PE X (.Name x pos) (tC v) := .mk <| λ _ _ _ H _ I h=>zwj I hg hm hv ⟨v,H,I,r,h⟩ hn hd
variable {a b:Expr} {ta tb:TE} {pos:Pos}
noncomputable def tB (t:TE):TT:=λ σ H Q=>t σ H λ x H1=>∃ c,x = .bl c∧Q c H1
theorem zwe {e:Expr} {t:TE} (h:PE X e t) (he:∀ whole,isTrue e X.env whole=(do let v ← whole;standAt e.pos;holding [v] (truthy v)):=by intro _;rfl):PT X e (tB t) := .mk <| by
 intro pins s σ H Q I hw
 refine isTrue_plain (thn (h pins s σ H _ I hw) λ v s1 ⟨x,H1,I1,r1,q1⟩=>?_) (he _)
 obtain ⟨d,rfl,q⟩:=q1
 cases r1
 exact wpAny_truthy_bool ⟨H1,I1,q⟩
variable {tA tB':TT} {rest:List Expr}
noncomputable def tAnd (t u:TT):TT:=λ σ H Q=>t σ H λ c H1=>if c=true then u σ H1 Q else Q false H1
noncomputable def tOr (t u:TT):TT:=λ σ H Q=>t σ H λ c H1=>if c=true then Q true H1 else u σ H1 Q
noncomputable def tNot (t:TT):TT:=λ σ H Q=>t σ H λ c H1=>Q (!c) H1
theorem znu (ha:PT X a tA):PW X (.BoolOp .And [a] pos) tA := .mk <| by
 intro wh pins s σ H Q I h
 refine isTrue_and (thn (ha pins s σ H Q I h) λ c s1 e=>?_)
 cases c with
 | true=>exact isTrue_and_nil e
 | false=>exact e
theorem zcg (ha:PT X a tA):PW X (.BoolOp .Or [a] pos) tA := .mk <| by
 intro wh pins s σ H Q I h
 refine isTrue_or (thn (ha pins s σ H Q I h) λ c s1 e=>?_)
 cases c with
 | false=>exact isTrue_or_nil e
 | true=>exact e
theorem zp0 (ha:PT X a tA) (hb:PW X (.BoolOp .And (b::rest) pos) tB'):PW X (.BoolOp .And (a::b::rest) pos) (tAnd tA tB') := .mk <| by
 intro wh pins s σ H Q I h
 refine isTrue_and (thn (ha pins s σ H _ I h) λ c s1 ⟨H1,I1,q1⟩=>?_)
 cases c with
 | true=>exact hb wh pins s1 σ H1 Q I1 q1
 | false=>exact ⟨H1,I1,q1⟩
theorem zjn (ha:PT X a tA) (hb:PW X (.BoolOp .Or (b::rest) pos) tB'):PW X (.BoolOp .Or (a::b::rest) pos) (tOr tA tB') := .mk <| by
 intro wh pins s σ H Q I h
 refine isTrue_or (thn (ha pins s σ H _ I h) λ c s1 ⟨H1,I1,q1⟩=>?_)
 cases c with
 | true=>exact ⟨H1,I1,q1⟩
 | false=>exact hb wh pins s1 σ H1 Q I1 q1
theorem zpf (ha:PT X a tA):PT X (.UnaryOp .Not a pos) (tNot tA) := .mk <| by
 intro pins s σ H Q I h
 exact isTrue_not (ha pins s σ H (λ c H1=>Q (!c) H1) I h)
noncomputable def zn3 (ta tb:TE):TE:=λ σ H Q=>ta σ H λ x H1=>∃ c,x = .bl c∧if c=true then tb σ H1 Q else Q (.bl false) H1
noncomputable def zo4 (ta:TE):TE:=λ σ H Q=>ta σ H λ x H1=>∃ c,x = .bl c∧Q (.bl (!c)) H1
theorem zev {op} {t:TE} (h:PE X a t):PE X (.BoolOp op [a] pos) t := .mk <| λ pins s σ H Q I hw=>BoolOp_one (h pins s σ H Q I hw)
theorem ziv (ha:PE X a ta) (hb:PE X (.BoolOp .And (b::rest) pos) tb):PE X (.BoolOp .And (a::b::rest) pos) (zn3 ta tb) := .mk <| by
 intro pins s σ H Q I h
 refine BoolOp_and (thn (ha pins s σ H _ I h) λ v s1 ⟨x,H1,I1,r1,q1⟩=>?_)
 obtain ⟨c,rfl,q1⟩:=q1
 cases r1
 refine wpAny_truthy_bool ?_
 cases c with
 | true=>exact hb pins s1 σ H1 Q I1 q1
 | false=>exact ⟨.bl false,H1,I1,rfl,q1⟩
theorem zgy (ha:PE X a ta):PE X (.UnaryOp .Not a pos) (zo4 ta) := .mk <| by
 intro pins s σ H Q I h
 refine UnaryOp_ (thn (ha pins s σ H _ I h) λ v s1 ⟨x,H1,I1,r1,q1⟩=>?_)
 obtain ⟨c,rfl,q1⟩:=q1
 cases r1
 exact not_of (wpAny_truthy_bool ⟨.bl (!c),H1,I1,rfl,q1⟩)
noncomputable def tIf (t:TT) (ta tb:TE):TE:=λ σ H Q=>t σ H λ c H1=>if c=true then ta σ H1 Q else tb σ H1 Q
theorem zsh {c:Expr} (hc:PT X c tA) (ha:PE X a ta) (hb:PE X b tb):PE X (.IfExp c a b pos) (tIf tA ta tb) := .mk <| by
 intro pins s σ H Q I h
 refine wpAny_IfExp (thn (hc pins s σ H _ I h) λ d s1 ⟨H1,I1,q1⟩=>?_)
 cases d with
 | true=>exact ha pins s1 σ H1 Q I1 q1
 | false=>exact hb pins s1 σ H1 Q I1 q1
end
end L2
namespace L2
open PySem PySem.Spec PyProof.Rows
noncomputable def SqL (K:W.Frag) (H:Hp) (a:Addr) (xs:List V):Prop :=
 Rd H a (.lst xs) ∨
  ∃ (o:Obj) (its:Array Value) (n:Nat),K.lookup a=some o∧o.cls = .type "list" ∧ o.dict=none∧o.data = .seq its n∧its.size≤sizeLine∧Vals xs its.toList
noncomputable def SqT (K:W.Frag) (H:Hp) (a:Addr) (xs:List V):Prop :=
 Rd H a (.tup xs) ∨
  ∃ (o:Obj) (its:Array Value) (n:Nat),K.lookup a=some o∧o.cls = .type "tuple" ∧ o.data = .seq its n∧its.size≤sizeLine∧Vals xs its.toList
noncomputable def absV:Value→Option V
 | .none=>some .non
 | .bool b=>some (.bl b)
 | .int i _=>some (.int i)
 | .str x _=>some (.str x)
 | .bytes b _=>some (.byt b)
 | .float b _=>some (.flt b)
 | .ref a=>some (.ref a)
 | .type n=>some (.ty n)
 | _=>none
theorem RelV.abs {x:V} {u:Value} (r:RelV x u):absV u=some x:=by
 cases x with
 | non=>cases r;rfl
 | bl _=>cases r;rfl
 | int _=>obtain ⟨t,rfl⟩:=r;rfl
 | str _=>obtain ⟨t,rfl⟩:=r;rfl
 | byt _=>obtain ⟨t,rfl⟩:=r;rfl
 | flt _=>obtain ⟨t,rfl⟩:=r;rfl
 | ref _=>cases r;rfl
 | ty _=>cases r;rfl
theorem RelV.inj {x y:V} {u:Value} (r:RelV x u) (q:RelV y u):x=y:=Option.some.inj (r.abs.symm.trans q.abs)
theorem Vals.inj:∀ {xs ys:List V} {us:List Value},Vals xs us→Vals ys us→xs=ys
 | _,_,_,.nil,.nil=>rfl
 | _,_,_,.cons r t,.cons r' t'=>by rw [r.inj r',Vals.inj t t']
section
variable {X:Cx} {pins:List (Addr×Obj)} {σ:St} {H:Hp} {s:Shared} {a:Addr} {xs ys:List V}
theorem SqL.of {K:W.Frag} (h:H a=some (.lst xs)):SqL K H a xs := .inl (.inl h)
theorem SqT.of {K:W.Frag} (h:H a=some (.tup xs)):SqT K H a xs := .inl (.inl h)
theorem Inv.list (I:Inv X pins σ H s) (h:SqL X.K H a xs):∃ its:List Value,Vals xs its∧PlainL s.heap a its.toArray∧xs.length≤sizeLine:=by
 rcases h with h | ⟨o,its,n,hk,hc,hd,hs,hz,r⟩
 ·obtain ⟨z,its,n,r,e⟩:=h.ok I.hok
  exact ⟨its,r,⟨_,n,e,rfl,rfl,rfl⟩,z⟩
 ·refine ⟨its.toList,r,⟨o,n,I.kIn a o hk,hc,hd,by simpa using hs⟩,?_⟩
  have e:=r.length
  simp only [Array.length_toList] at e
  omega
theorem Inv.tuple (I:Inv X pins σ H s) (h:SqT X.K H a xs):∃ its:List Value,Vals xs its∧IsTup s.heap a its.toArray∧xs.length≤sizeLine:=by
 rcases h with h | ⟨o,its,n,hk,hc,hs,hz,r⟩
 ·obtain ⟨z,its,r,p⟩:=h.ok I.hok
  exact ⟨its,r,p,z⟩
 ·refine ⟨its.toList,r,⟨o,I.kIn a o hk,hc,n,by simpa using hs⟩,?_⟩
  have e:=r.length
  simp only [Array.length_toList] at e
  omega
theorem Inv.list_inj (I:Inv X pins σ H s) (h:SqL X.K H a xs) (h':SqL X.K H a ys):xs=ys:=by
 obtain ⟨its,r,⟨o,n,e,_,_,d⟩,_⟩:=I.list h
 obtain ⟨its',r',⟨o',n',e',_,_,d'⟩,_⟩:=I.list h'
 rw [e] at e';cases e'
 rw [d] at d'
 injection d' with d1 _
 have:its=its':=by simpa using congrArg Array.toList d1
 subst this
 exact r.inj r'
theorem Inv.tuple_inj (I:Inv X pins σ H s) (h:SqT X.K H a xs) (h':SqT X.K H a ys):xs=ys:=by
 obtain ⟨its,r,⟨o,e,_,n,d⟩,_⟩:=I.tuple h
 obtain ⟨its',r',⟨o',e',_,n',d'⟩,_⟩:=I.tuple h'
 rw [e] at e';cases e'
 rw [d] at d'
 injection d' with d1 _
 have:its=its':=by simpa using congrArg Array.toList d1
 subst this
 exact r.inj r'
end
noncomputable abbrev Cx.wish (X:Cx) (E:Value→Shared→Prop):Cx:={ X with xe:=E }
noncomputable abbrev Cx.nox (X:Cx):Cx:=X.wish λ _ _=>False
theorem Cx.Ok.wish {X:Cx} (ok:X.Ok) (E:Value→Shared→Prop):(X.wish E).Ok :=
 ⟨ok.mod,ok.kind,ok.glob,ok.blt,ok.above,ok.inj,ok.has,ok.cab,ok.hd,ok.frames,ok.stk,ok.exf,ok.bs,ok.bsz,ok.noex,ok.exfs,ok.funs,ok.frf⟩
theorem Cx.Ok.unwish {X:Cx} {E:Value→Shared→Prop} (ok:(X.wish E).Ok):X.Ok :=
 ⟨ok.mod,ok.kind,ok.glob,ok.blt,ok.above,ok.inj,ok.has,ok.cab,ok.hd,ok.frames,ok.stk,ok.exf,ok.bs,ok.bsz,ok.noex,ok.exfs,ok.funs,ok.frf⟩
section
variable {X:Cx} {pins:List (Addr×Obj)} {σ:St} {H:Hp} {s:Shared} {E:Value→Shared→Prop}
theorem Inv.wish (I:Inv X pins σ H s) (E:Value→Shared→Prop):Inv (X.wish E) pins σ H s:=⟨I.ok.wish E,I.os,I.bare,I.base,I.loc,I.cell,I.free,I.freeC,I.pin,I.hok,I.len⟩
theorem Inv.unwish (I:Inv (X.wish E) pins σ H s):Inv X pins σ H s:=⟨I.ok.unwish,I.os,I.bare,I.base,I.loc,I.cell,I.free,I.freeC,I.pin,I.hok,I.len⟩
theorem SP.unwish {D:Ends} {f:Flow} {s':Shared} (h:SP (X.wish E) pins D f s'):SP X pins D f s':=by
 cases f with
 | next=>obtain ⟨σ',H',I,q⟩:=h;exact ⟨σ',H',I.unwish,q⟩
 | brk=>obtain ⟨σ',H',I,q⟩:=h;exact ⟨σ',H',I.unwish,q⟩
 | cont=>obtain ⟨σ',H',I,q⟩:=h;exact ⟨σ',H',I.unwish,q⟩
 | ret u=>obtain ⟨v,σ',H',I,r,q⟩:=h;exact ⟨v,σ',H',I.unwish,r,q⟩
theorem PSs.nox {st:List Stmt} {t:TS} (h:PSs X.nox st t):PSs X st t := .mk <| λ pins s σ H D I hw =>
 wpAny_mono (h pins s σ H D (I.wish _) hw) (λ _ _ q=>q.unwish) λ _ _ z=>False.elim z
end
section
variable {X:Cx} {st:Stmt} {rest:List Stmt} {t u:TS} {e:Expr} {te:TE} {pos:Pos}
noncomputable def zq3:TS:=λ D σ H=>D.nx σ H
noncomputable def tSeq (t u:TS):TS:=λ D σ H=>t { D with nx:=u D } σ H
theorem zpa:PSs X [] zq3 := .mk <| λ _ _ σ H _ I h=>wpAny_execs_nil ⟨σ,H,I,h⟩
theorem zca (h1:PS X st t) (h2:PSs X rest u):PSs X (st::rest) (tSeq t u) := .mk <| by
 intro pins s σ H D I h
 refine wpAny_execs_cons (thn (h1 pins s σ H { D with nx:=u D } I h) λ f s1 q=>?_)
 cases f with
 | next =>
  obtain ⟨σ',H',I',q⟩:=q
  exact h2 pins s1 σ' H' D I' q
 | ret v=>exact q
 | brk=>exact q
 | cont=>exact q
theorem zfa (h1:PS X st t):PSs X [st] t := .mk <| by
 intro pins s σ H D I h
 refine wpAny_execs_cons (thn (h1 pins s σ H D I h) λ f s1 q=>?_)
 cases f with
 | next=>exact wpAny_execs_nil q
 | ret v=>exact q
 | brk=>exact q
 | cont=>exact q
theorem Inv.quiet {pins:List (Addr×Obj)} {σ:St} {H:Hp} {s:Shared} (I:Inv X pins σ H s):interactive X.env=false:=by simp [interactive,I.ok.kind]
noncomputable def zs4 (te:TE):TS:=λ D σ H=>te σ H λ _ H1=>D.nx σ H1
theorem zid (he:PE X e te) (hs:swapsWith e none pos.line X.env=pure false:=by rfl):PS X (.Expr e pos) (zs4 te) := .mk <| by
 intro pins s σ H D I h
 exact wpAny_Expr_any (thn (he pins s σ H _ I h) λ v s1 ⟨x,H1,I1,r1,q1⟩=>⟨σ,H1,I1,q1⟩) I.quiet hs
noncomputable def tRet (te:TE):TS:=λ D σ H=>te σ H D.rt
theorem zoa (he:PE X e te):PS X (.Return (some e) pos) (tRet te) := .mk <| by
 intro pins s σ H D I h
 exact wpAny_Return_some (thn (he pins s σ H _ I h) λ v s1 ⟨x,H1,I1,r1,q1⟩=>⟨x,σ,H1,I1,r1,q1⟩)
noncomputable def tIfS (c:TT) (t u:TS):TS:=λ D σ H=>c σ H λ b H1=>if b=true then t D σ H1 else u D σ H1
theorem ztb {c:Expr} {a b:List Stmt} {tc:TT} (hc:PT X c tc) (ha:PSs X a t) (hb:PSs X b u):PS X (.If c a b pos) (tIfS tc t u) := .mk <| by
 intro pins s σ H D I h
 refine wpAny_If (thn (hc pins s σ H _ I h) λ d s1 ⟨H1,I1,q1⟩=>?_)
 cases d with
 | true=>exact ha pins s1 σ H1 D I1 q1
 | false=>exact hb pins s1 σ H1 D I1 q1
end
noncomputable abbrev TG:=V→St→Hp→(St→Hp→Prop)→Prop
noncomputable abbrev TGs:=List V→St→Hp→(St→Hp→Prop)→Prop
structure PG (X:Cx) (target:Expr) (t:TG):Prop where
 run :
 ∀ (pins:List (Addr×Obj)) (s:Shared) (σ:St) (H:Hp) (v:V) (u:Value) (Q:St→Hp→Prop),Inv X pins σ H s→RelV v u→t v σ H Q →
  wpAny (model X.prog X.w) X.A (assign target X.env u) (λ _ s'=>∃ σ' H',Inv X pins σ' H' s'∧Q σ' H') X.xe s
noncomputable instance {X:Cx} {target:Expr} {t:TG}:CoeFun (PG X target t) (λ _ =>
 ∀ (pins:List (Addr×Obj)) (s:Shared) (σ:St) (H:Hp) (v:V) (u:Value) (Q:St→Hp→Prop),Inv X pins σ H s→RelV v u→t v σ H Q →
  wpAny (model X.prog X.w) X.A (assign target X.env u) (λ _ s'=>∃ σ' H',Inv X pins σ' H' s'∧Q σ' H') X.xe s
 ):=⟨λ h=>h.run⟩
structure PGs (X:Cx) (ts:List Expr) (t:TGs):Prop where
 run :
 ∀ (pins:List (Addr×Obj)) (s:Shared) (σ:St) (H:Hp) (vs:List V) (us:List Value) (Q:St→Hp→Prop),Inv X pins σ H s→Vals vs us→t vs σ H Q →
  wpAny (model X.prog X.w) X.A (assignInOrder ((assignEach ts X.env).map (·.2)) us) (λ _ s'=>∃ σ' H',Inv X pins σ' H' s'∧Q σ' H') X.xe s
noncomputable instance {X:Cx} {ts:List Expr} {t:TGs}:CoeFun (PGs X ts t) (λ _ =>
 ∀ (pins:List (Addr×Obj)) (s:Shared) (σ:St) (H:Hp) (vs:List V) (us:List Value) (Q:St→Hp→Prop),Inv X pins σ H s→Vals vs us→t vs σ H Q →
  wpAny (model X.prog X.w) X.A (assignInOrder ((assignEach ts X.env).map (·.2)) us) (λ _ s'=>∃ σ' H',Inv X pins σ' H' s'∧Q σ' H') X.xe s
 ):=⟨λ h=>h.run⟩
noncomputable abbrev TIp:=V→V→Hp→VK→Prop
noncomputable def PIp (X:Cx) (op:Operator) (t:TIp):Prop :=
 ∀ (pins:List (Addr×Obj)) (s:Shared) (σ:St) (H:Hp) (x y:V) (v u:Value) (Q:VK),Inv X pins σ H s→RelV x v→RelV y u→t x y H Q →
  wpAny (model X.prog X.w) X.A (inplaceOp op v u) (EP X pins σ Q) X.xe s
section
variable {X:Cx} {pos:Pos}
noncomputable def zdq (i:Nat):TG:=λ v σ H Q=>Q (σ.set i (some v)) H
theorem zka {i:Nat} {x:Str} (hN:X.N.Nodup) (hi:X.N[i]? = some x) (hx:Loc X.env.scope x) (hf:X.fn x=true ∨ X.env.scope.names.lookup x=some .local:=by first | exact .inl rfl | exact .inr rfl | assumption):PG X (.Name x pos) (zdq i) := .mk <| by
 intro pins s σ H v u Q I r h
 exact wpAny_assign_Name (zof I hN hi hx r (λ s' I'=>⟨_,H,I',h⟩) hf)
noncomputable def gNil:TGs:=λ vs σ H Q=>vs=[]∧Q σ H
noncomputable def zxw (t:TG) (u:TGs):TGs:=λ vs σ H Q=>∃ v r,vs=v::r∧t v σ H λ σ' H'=>u r σ' H' Q
theorem zqb:PGs X [] gNil := .mk <| by
 intro pins s σ H vs us Q I r h
 obtain ⟨e,h⟩:=h
 subst e
 cases r
 exact assignInOrder_nil ⟨σ,H,I,h⟩
theorem zma {e:Expr} {es:List Expr} {t:TG} {u:TGs} (h1:PG X e t) (h2:PGs X es u)
  (hs:(assignEach (e::es) X.env).map (·.2)=assign e X.env::(assignEach es X.env).map (·.2):=by rfl):PGs X (e::es) (zxw t u) := .mk <| by
 intro pins s σ H vs us Q I r h
 obtain ⟨v,vr,e1,h⟩:=h
 subst e1
 cases r with
 | cons r rr =>
  rw [hs]
  refine assignInOrder_cons (thn (h1 pins s σ H _ _ _ I r h) λ _ s1 ⟨σ1,H1,I1,q1⟩=>?_)
  exact h2 pins s1 σ1 H1 _ _ Q I1 rr q1
noncomputable def gTup (K:W.Frag) (n:Nat) (t:TGs):TG:=λ v σ H Q=>∃ a xs,v = .ref a∧SqT K H a xs∧xs.length=n∧t xs σ H Q
theorem zyc {es:List Expr} {k:Nat} {t:TGs} {n:Nat} (hc:X.calm=true) (h:PGs X es t)
  (hn:(assignEach es X.env).length=n:=by rfl) (hst:(assignEach es X.env).findIdx? (·.1)=none:=by rfl):PG X (.Tuple es k pos) (gTup X.K n t) := .mk <| by
 intro pins s σ H v u Q I r hw
 obtain ⟨a,xs,e1,hq,hl,hw⟩:=hw
 subst e1
 cases r
 obtain ⟨its,rv,ht,hz⟩:=I.tuple hq
 refine assign_Tuple_tuple (I.ok.hd hc) ht (by simp [hn,← hl,rv.length]) hst λ h' hx=>?_
 have I1:Inv X pins σ H { s with heap:=h' }:=I.kept (t':=s.toks) λ b o e=>hx b o (Nat.ne_of_lt (Heap.lt_size e)) e
 exact h pins _ σ H xs _ Q I1 (by simpa using rv) hw
noncomputable def tAsg (te:TE) (g:TG):TS:=λ D σ H=>te σ H λ x H1=>g x σ H1 D.nx
theorem zmf {tg e:Expr} {te:TE} {g:TG} (he:PE X e te) (hg:PG X tg g) (hs:swapsWithSole [tg] e pos.line X.env=pure false:=by rfl) (hw:swappedStores [tg] e X.env=pure none:=by rfl)
  (h1:(assignEach [tg] X.env).map (·.2)=[assign tg X.env]:=by rfl):PS X (.Assign [tg] e pos) (tAsg te g) := .mk <| by
 intro pins s σ H D I h
 refine wpAny_Assign_stores (thn (he pins s σ H _ I h) λ v s1 ⟨x,H1,I1,r1,q1⟩=>?_) hs hw
 rw [h1]
 exact thn (hg pins s1 σ H1 x v _ I1 r1 q1) λ _ s2 q=>q
theorem zya {i:Nat} {x:Str} {e:Expr} {te:TE} {pos':Pos} (hN:X.N.Nodup) (hi:X.N[i]? = some x) (hx:Loc X.env.scope x) (he:PE X e te) (hs:swapsWith e (some (.Name x pos')) pos.line X.env=pure false:=by rfl) (hf:X.fn x=true ∨ X.env.scope.names.lookup x=some .local:=by first | exact .inl rfl | exact .inr rfl | assumption) :
  PS X (.Assign [.Name x pos'] e pos) (tAsg te (zdq i)) := .mk <| by
 intro pins s σ H D I h
 refine wpAny_Assign_Name (thn (he pins s σ H _ I h) λ v s1 ⟨y,H1,I1,r1,q1⟩=>?_) hs
 exact zof I1 hN hi hx r1 (λ s2 I2=>⟨_,H1,I2,q1⟩) hf
noncomputable def tAug (i:Nat) (te:TE) (ti:TIp):TS:=λ D σ H=>∃ x,σ[i]? = some (some x)∧te σ H λ y H1=>ti x y H1 λ z H2=>D.nx (σ.set i (some z)) H2
theorem zmu {i:Nat} {x:Str} {e:Expr} {te:TE} {op:Operator} {ti:TIp} {pos':Pos} (hN:X.N.Nodup) (hi:X.N[i]? = some x) (hx:Loc X.env.scope x) (he:PE X e te) (ho:PIp X op ti) (hf:X.fn x=true ∨ X.env.scope.names.lookup x=some .local:=by first | exact .inl rfl | exact .inr rfl | assumption) :
  PS X (.AugAssign (.Name x pos') op e pos) (tAug i te ti) := .mk <| by
 intro pins s σ H D I h
 obtain ⟨v,e1,h⟩:=h
 obtain ⟨m,hn,hl⟩:=I.loc
 have vis:Vis X.env.scope x:=by rcases hx with k | k;exact .inl k;exact .inr (.inl k)
 obtain ⟨u,r,l⟩:=hl i x v hi e1 vis
 refine wpAny_AugAssign_Name ?_
 have go:wpAny (model X.prog X.w) X.A (eval e X.env) (λ w s₂=>wpAny (model X.prog X.w) X.A (inplaceOp op u w) (λ r s₃=>wpAny (model X.prog X.w) X.A (storeName X.env x r) (λ _=>SP X pins D .next) X.xe s₃) X.xe s₂) X.xe s:=by
  refine thn (he pins s σ H _ I h) λ w s1 ⟨y,H1,I1,r1,q1⟩=>?_
  refine thn (ho pins s1 σ H1 v y u w _ I1 r r1 q1) λ z s2 ⟨zv,H2,I2,r2,q2⟩=>?_
  exact zof I2 hN hi hx r2 (λ s3 I3=>⟨_,H2,I3,q2⟩) hf
 rcases l with ⟨hk,hm⟩ | ⟨hk,c,hc,hcell⟩
 ·exact wpAny_loadName_local I.ok.kind hk hn hm go
 ·rcases hk with hk | hk
  ·exact wpAny_loadName_cell I.ok.kind hk hc hcell go
  ·rcases hx with k | k
   ·have:X.env.scope.names.lookup x=some .free:=hk
    rw [k] at this;cases this
   ·have:X.env.scope.names.lookup x=some .free:=hk
    rw [k] at this;cases this
end
section
variable {X:Cx} {pos:Pos}
end
structure It where
 go:Nat→Hp→Prop
 yld:Nat→Hp→V→Hp→Prop
 stop:Nat→Hp→Prop
noncomputable def FpOk (X:Cx) (pins:List (Addr×Obj)) (H:Hp) (b:Addr):Prop :=
 H b=none∧b≠X.env.locals∧b∉X.fs∧(b∈X.ex ∨ X.s₀.heap.objs.size≤b)∧(∀ x c,X.env.cells.lookup x=some c→c≠b)∧∀ p∈X.pn++pins,p.1≠b
theorem Inv.fpOk {X:Cx} {pins:List (Addr×Obj)} {σ:St} {H H':Hp} {s:Shared} {b:Addr} (I:Inv X pins σ H s) (hb:s.heap.objs.size≤b) (hn:H' b=none):FpOk X pins H' b:=by
 refine ⟨hn,Nat.ne_of_gt (Nat.lt_of_lt_of_le I.lt hb),I.nofs hb,.inr (Nat.le_trans I.sz hb),λ x c e z=>?_,λ p hp z=>?_⟩
 ·obtain ⟨v,q⟩:=I.cell x c e
  exact absurd (Nat.lt_of_lt_of_le q.lt (by rw [z];exact hb)) (Nat.lt_irrefl _)
 ·exact absurd (Nat.lt_of_lt_of_le (Heap.lt_size (I.pin p hp).1) (by rw [z];exact hb)) (Nat.lt_irrefl _)
structure Turn (P:Program) (w:World) (K:W.Frag) (tg:Expr) (J:It) (fp:List Addr) (it:Addr) (tn:Nat→Heap→Prop):Prop where
 mem:it∈fp
 obj:∀ i h,tn i h→∀ b∈fp,∃ o,h.get? b=some o∧∀ v,o.data ≠ .cell v
 keep:∀ i h h',tn i h→(∀ b∈fp,∀ o,h.get? b=some o→h'.get? b=some o)→tn i h'
 item:∀ (X:Cx),X.prog=P→X.w=w→X.K=K→X.calm=true→∀ (i:Nat) (pins:List (Addr×Obj)) (s:Shared) (σ:St) (H:Hp) (E:Value→Shared→Prop),Inv X pins σ H s→(∀ b∈fp,FpOk X pins H b)→tn i s.heap→J.go i H →
  wpAny (model P w) X.A (pyNext (.ref it)) (λ r s1=>∃ u,r=some u ∧
   wpAny (model P w) X.A (letOwnedTupleGo tg (.ref it) u) (λ _ s2=>∃ x H',Inv X pins σ H' s2∧RelV x u∧J.yld i H x H'∧tn (i+1) s2.heap∧∀ b∈fp,H' b=none) E s1) E s
 done:∀ (X:Cx),X.prog=P→X.w=w→X.K=K→X.calm=true→∀ (i:Nat) (pins:List (Addr×Obj)) (s:Shared) (σ:St) (H:Hp) (E:Value→Shared→Prop),Inv X pins σ H s→(∀ b∈fp,FpOk X pins H b)→tn i s.heap→J.stop i H →
  wpAny (model P w) X.A (pyNext (.ref it)) (λ r s1=>r=none∧Inv X pins σ H s1) E s
 self:∀ (A:Around) (i:Nat) (s:Shared) (Q:Value→Shared→Prop) (E:Value→Shared→Prop),tn i s.heap→Q (.ref it) s→wpAny (model P w) A (pyIter (.ref it)) Q E s
noncomputable abbrev TI:=St→Hp→(It→Hp→Prop)→Prop
noncomputable def PIE (X:Cx) (pins:List (Addr×Obj)) (σ:St) (tg:Expr) (R:It→Hp→Prop) (itv:Value) (s2:Shared):Prop :=
 ∃ (it:Addr) (fp:List Addr) (tn:Nat→Heap→Prop) (J:It) (H':Hp),itv = .ref it∧Inv X pins σ H' s2∧Turn X.prog X.w X.K tg J fp it tn∧tn 0 s2.heap∧(∀ b∈fp,FpOk X pins H' b)∧R J H'
structure PI (X:Cx) (tg iter:Expr) (wi:TI):Prop where
 run :
 ∀ (pins:List (Addr×Obj)) (s:Shared) (σ:St) (H:Hp) (R:It→Hp→Prop),Inv X pins σ H s→wi σ H R →
  wpAny (model X.prog X.w) X.A (eval iter X.env) (λ v s1=>wpAny (model X.prog X.w) X.A (pyIter v) (PIE X pins σ tg R) X.xe s1) X.xe s
noncomputable instance {X:Cx} {tg iter:Expr} {wi:TI}:CoeFun (PI X tg iter wi) (λ _ =>
 ∀ (pins:List (Addr×Obj)) (s:Shared) (σ:St) (H:Hp) (R:It→Hp→Prop),Inv X pins σ H s→wi σ H R →
  wpAny (model X.prog X.w) X.A (eval iter X.env) (λ v s1=>wpAny (model X.prog X.w) X.A (pyIter v) (PIE X pins σ tg R) X.xe s1) X.xe s
 ):=⟨λ h=>h.run⟩
theorem zyw {M:Model} {A:Around} {E:Value→Shared→Prop} {s:Shared} {tg:Expr} {it:Addr} {u:Value} {o:Obj} {n:String} {vs:Array Value} {Q:Unit→Shared→Prop} (ho:s.heap.get? it=some o) (hc:o.cls = .type n) (hd:o.data = .fields vs)
  (hn:["enumerate", "zip", "dict_itemiterator", "dict_reverseitemiterator", "odict_iterator", "itertools.zip_longest", "itertools.pairwise"].contains n=false) (hQ:Q () s):wpAny M A (letOwnedTupleGo tg (.ref it) u) Q E s:=by
 unfold letOwnedTupleGo
 cases tg <;> first
  | exact wpAny_pure hQ
  | (cases u <;> first
    | exact wpAny_pure hQ
    | (refine wpAny_bind (wpAny_load ho ?_)
       rw [hc,hd]
       show wpAny M A (if (["enumerate", "zip", "dict_itemiterator", "dict_reverseitemiterator", "odict_iterator", "itertools.zip_longest", "itertools.pairwise"].contains n && vs[0]? == some (rawInt _))=true then _ else _) Q E s
       rw [if_neg (by intro h;rw [hn,Bool.false_and] at h;cases h)]
       exact wpAny_pure hQ))
noncomputable def Itl (K:W.Frag) (a:Addr):It :=
 ⟨λ i H=>∃ xs x,SqL K H a xs∧xs[i]? = some x,λ i H x H'=>H'=H∧∀ xs,SqL K H a xs→xs[i]? = some x,λ i H=>∃ xs,SqL K H a xs∧xs.length≤i⟩
noncomputable def Itt (K:W.Frag) (a:Addr):It :=
 ⟨λ i H=>∃ xs x,SqT K H a xs∧xs[i]? = some x,λ i H x H'=>H'=H∧∀ xs,SqT K H a xs→xs[i]? = some x,λ i H=>∃ xs,SqT K H a xs∧xs.length≤i⟩
noncomputable def Itr (lo:Int) (n:Nat):It:=⟨λ i _=>i<n,λ i H x H'=>H'=H∧x = .int (lo+i),λ i _=>n≤i⟩
theorem zno {P:Program} {w:World} {K:W.Frag} {tg:Expr} (a it:Addr):Turn P w K tg (Itl K a) [it] it (λ i h=>h.IsListIter it a i) where
 mem:=by simp
 obj:=λ i h st b hb=>by
  have e:b=it:=by simpa using hb
  subst e
  obtain ⟨o,e,c,d⟩:=st
  exact ⟨o,e,λ v z=>by rw [d] at z;cases z⟩
 keep:=λ i h h' st k=>st.at λ o e=>k it (by simp) o e
 item:=by
  intro X hP hw hK hc i pins s σ H E I hf st hg
  subst hP hw hK
  obtain ⟨xs,x,hq,hx⟩:=hg
  obtain ⟨its,rv,p,hz⟩:=I.list hq
  obtain ⟨u,hu,ru⟩:=rv.get hx
  obtain ⟨f0,f1,f2,f3,f4,f5⟩:=hf it (by simp)
  refine wpAny_pyNext_list_item st p.isList (x:=u) (by simpa using hu) λ h' st' sb=>?_
  have I1:Inv X pins σ H { s with heap:=h' }:=I.turned (t':=s.toks) (λ b o hb e=>(sb.2 b hb).trans e) f0 f1 f3 f4 f5
  obtain ⟨o,e,c,d⟩:=id st'
  exact ⟨u,rfl,zyw (s:={ s with heap:=h' }) e c d (by decide) ⟨x,H,I1,ru,⟨rfl,λ ys hy=>by rw [I.list_inj hy hq];exact hx⟩,st',λ b hb=>(hf b hb).1⟩⟩
 done:=by
  intro X hP hw hK hc i pins s σ H E I hf st hg
  subst hP hw hK
  obtain ⟨xs,hq,hx⟩:=hg
  obtain ⟨its,rv,p,hz⟩:=I.list hq
  obtain ⟨f0,f1,f2,f3,f4,f5⟩:=hf it (by simp)
  have hl:=rv.length
  exact wpAny_pyNext_list_end (I.ok.hd hc) st p.isList (by simp;omega) λ h' eb=>⟨rfl,I.turned (t':=s.toks) (λ b o hb e=>eb b o hb e) f0 f1 f3 f4 f5⟩
 self:=λ _ _ _ _ _ st h=>wpAny_pyIter_listiter st h
theorem znm {P:Program} {w:World} {K:W.Frag} {tg:Expr} (a it:Addr):Turn P w K tg (Itt K a) [it] it (λ i h=>h.IsTupleIter it a i) where
 mem:=by simp
 obj:=λ i h st b hb=>by
  have e:b=it:=by simpa using hb
  subst e
  obtain ⟨o,e,c,d⟩:=st
  exact ⟨o,e,λ v z=>by rw [d] at z;cases z⟩
 keep:=λ i h h' st k=>st.at λ o e=>k it (by simp) o e
 item:=by
  intro X hP hw hK hc i pins s σ H E I hf st hg
  subst hP hw hK
  obtain ⟨xs,x,hq,hx⟩:=hg
  obtain ⟨its,rv,p,hz⟩:=I.tuple hq
  obtain ⟨u,hu,ru⟩:=rv.get hx
  obtain ⟨f0,f1,f2,f3,f4,f5⟩:=hf it (by simp)
  refine wpAny_pyNext_tuple_item st (show s.heap.IsTuple a its.toArray from p) (x:=u) (by simpa using hu) λ h' st' sb=>?_
  have I1:Inv X pins σ H { s with heap:=h' }:=I.turned (t':=s.toks) (λ b o hb e=>(sb.2 b hb).trans e) f0 f1 f3 f4 f5
  obtain ⟨o,e,c,d⟩:=id st'
  exact ⟨u,rfl,zyw (s:={ s with heap:=h' }) e c d (by decide) ⟨x,H,I1,ru,⟨rfl,λ ys hy=>by rw [I.tuple_inj hy hq];exact hx⟩,st',λ b hb=>(hf b hb).1⟩⟩
 done:=by
  intro X hP hw hK hc i pins s σ H E I hf st hg
  subst hP hw hK
  obtain ⟨xs,hq,hx⟩:=hg
  obtain ⟨its,rv,p,hz⟩:=I.tuple hq
  obtain ⟨f0,f1,f2,f3,f4,f5⟩:=hf it (by simp)
  have hl:=rv.length
  exact wpAny_pyNext_tuple_end (I.ok.hd hc) st (show s.heap.IsTuple a its.toArray from p) (by simp;omega) λ h' eb=>⟨rfl,I.turned (t':=s.toks) (λ b o hb e=>eb b o hb e) f0 f1 f3 f4 f5⟩
 self:=λ _ _ _ _ _ st h=>wpAny_pyIter_tupleiter st h
theorem zen {P:Program} {w:World} {K:W.Frag} {tg:Expr} (it:Addr) (lo:Int) (n:Nat):Turn P w K tg (Itr lo n) [it] it (λ i h=>IsRangeIter h it (lo+(i:Nat) * 1) ((n:Int) - (i:Nat)) 1) where
 mem:=by simp
 obj:=λ i h st b hb=>by
  have e:b=it:=by simpa using hb
  subst e
  exact ⟨_,st,λ v z=>by
   have z':Data.fields _=Data.cell v:=z
   cases z'⟩
 keep:=λ i h h' st k=>k it (by simp) _ st
 item:=by
  intro X hP hw hK hc i pins s σ H E I hf st hg
  subst hP hw hK
  obtain ⟨f0,f1,f2,f3,f4,f5⟩:=hf it (by simp)
  have W:=Walks.range (prog:=X.prog) (w:=X.w) (I.ok.hd hc) it lo 1 n
  refine W.item i s _ _ hg st λ v h' tk hv st' kk=>?_
  obtain ⟨t,rfl⟩:=hv
  have I1:Inv X pins σ H { s with heap:=h',toks:=tk }:=I.turned (λ b o hb e=>kk b o (by simpa using hb) e) f0 f1 f3 f4 f5
  refine ⟨_,rfl,zyw (s:={ s with heap:=h',toks:=tk }) (n := "range_iterator") st' rfl rfl (by decide) ⟨.int (lo+i),H,I1,⟨t,?_⟩,⟨rfl,rfl⟩,st',λ b hb=>(hf b hb).1⟩⟩
  rw [Int.mul_one]
 done:=by
  intro X hP hw hK hc i pins s σ H E I hf st hg
  subst hP hw hK
  obtain ⟨f0,f1,f2,f3,f4,f5⟩:=hf it (by simp)
  exact wpAny_pyNext_range_end (I.ok.hd hc) st (by have:n≤i:=hg;omega) λ h' eb=>⟨rfl,I.turned (t':=s.toks) (λ b o hb e=>eb b o hb e) f0 f1 f3 f4 f5⟩
 self:=λ _ _ _ _ _ st h=>wpAny_pyIter_rangeiter st h
end L2
namespace L2
open PySem PySem.Spec PyProof.Rows
section
variable {X:Cx} {tg:Expr}
noncomputable def zp3 (K:W.Frag) (tl:TE):TI:=λ σ H R=>tl σ H λ x H1=>∃ a,x = .ref a∧(∃ xs,SqL K H1 a xs)∧R (Itl K a) H1
noncomputable def iTup (K:W.Frag) (tl:TE):TI:=λ σ H R=>tl σ H λ x H1=>∃ a,x = .ref a∧(∃ xs,SqT K H1 a xs)∧R (Itt K a) H1
theorem zjc {l:Expr} {tl:TE} (hl:PE X l tl):PI X tg l (zp3 X.K tl) := .mk <| by
 intro pins s σ H R I h
 refine thn (hl pins s σ H _ I h) λ v s1 ⟨x,H1,I1,r1,q1⟩=>?_
 obtain ⟨a,e,⟨xs,hq⟩,q⟩:=q1
 subst e
 cases r1
 obtain ⟨its,rv,p,hz⟩:=I1.list hq
 refine wpAny_pyIter_list p.isList ?_
 refine ⟨s1.heap.objs.size,[s1.heap.objs.size],_,_,H1,rfl,I1.kept (t':=s1.toks) λ b o e=>Heap.get?_push_of_some _ e,zno a _,⟨_,Heap.get?_push_size _ rfl,rfl,rfl⟩,λ b hb=>?_,q⟩
 have e:b=s1.heap.objs.size:=by simpa using hb
 subst e
 exact I1.fpOk (Nat.le_refl _) (I1.hok.fresh (Nat.le_refl _))
theorem zem {l:Expr} {tl:TE} (hl:PE X l tl):PI X tg l (iTup X.K tl) := .mk <| by
 intro pins s σ H R I h
 refine thn (hl pins s σ H _ I h) λ v s1 ⟨x,H1,I1,r1,q1⟩=>?_
 obtain ⟨a,e,⟨xs,hq⟩,q⟩:=q1
 subst e
 cases r1
 obtain ⟨its,rv,p,hz⟩:=I1.tuple hq
 refine wpAny_pyIter_tuple (show s1.heap.IsTuple a its.toArray from p) ?_
 refine ⟨s1.heap.objs.size,[s1.heap.objs.size],_,_,H1,rfl,I1.kept (t':=s1.toks) λ b o e=>Heap.get?_push_of_some _ e,znm a _,⟨_,Heap.get?_push_size _ rfl,rfl,rfl⟩,λ b hb=>?_,q⟩
 have e:b=s1.heap.objs.size:=by simpa using hb
 subst e
 exact I1.fpOk (Nat.le_refl _) (I1.hok.fresh (Nat.le_refl _))
theorem zfr {pins:List (Addr×Obj)} {σ:St} {H:Hp} {s:Shared} {R:It→Hp→Prop} {E:Value→Shared→Prop} {lo hi:Int} {t u v:Tok} {tk:Nat} (I:Inv X pins σ H s) (h1 : -(2 ^ 62)≤lo) (h2:lo<2 ^ 62) (h3 : -(2 ^ 62)≤hi) (h4:hi<2 ^ 62)
  (q:R (Itr lo (hi - lo).toNat) H):wpAny (model X.prog X.w) X.A (pyIter (.ref s.heap.objs.size)) (PIE X pins σ tg R) E { s with heap:=s.heap.push { cls := .type "range",data := .fields #[.int lo t,.int hi u,.int 1 v] },toks:=tk }:=by
 refine wpAny_pyIter_range (IsRange.new ..) (small_one h1 h2 h3 h4) ?_
 have I1:Inv X pins σ H { s with heap:=s.heap.push { cls := .type "range",data := .fields #[.int lo t,.int hi u,.int 1 v] },toks:=tk }:=I.kept λ b o e=>Heap.get?_push_of_some _ e
 refine ⟨(s.heap.push { cls := .type "range",data := .fields #[.int lo t,.int hi u,.int 1 v] }).objs.size,[(s.heap.push { cls := .type "range",data := .fields #[.int lo t,.int hi u,.int 1 v] }).objs.size],_,_,H,rfl,
  I1.kept (t':=tk) λ b o e=>Heap.get?_push_of_some _ e,zen _ lo (hi - lo).toNat,?_,λ b hb=>?_,q⟩
 ·have e1:lo+((0:Nat):Int) * 1=lo:=by simp
  have e2:(((hi - lo).toNat:Nat):Int) - ((0:Nat):Int)=Builtin.Range.rangeSize lo hi 1:=by rw [rangeSize_one];split <;> omega
  show IsRangeIter _ _ (lo+((0:Nat):Int) * 1) ((((hi - lo).toNat:Nat):Int) - ((0:Nat):Int)) 1
  rw [e1,e2]
  exact Heap.get?_push_size _ rfl
 ·have e:b=(s.heap.push { cls := .type "range",data := .fields #[.int lo t,.int hi u,.int 1 v] }).objs.size:=by simpa using hb
  subst e
  exact I1.fpOk (Nat.le_refl _) (I1.hok.fresh (Nat.le_refl _))
noncomputable def zu2 (ta:TA):TI:=λ σ H R=>ta σ H λ vs H1=>∃ j:Int,vs=[.int j] ∧ -(2 ^ 62)≤j∧j<2 ^ 62∧R (Itr 0 j.toNat) H1
theorem znf {a:Expr} {ta:TA} {p pos:Pos} (hg:Gl X "range") (hm:X.mg "range" = none) (ha:PA X [a] ta) (hs:starEach [a] X.env=[(false,eval a X.env)]:=by rfl):PI X tg (.Call (.Name "range" p) [a] [] pos) (zu2 ta) := .mk <| by
 intro pins s σ H R I h
 refine Call_ (zwj I hg hm boot_range (PyProof.Rows.callWith_type1 (thn (ha pos pins s σ H _ I h) λ us s1 ⟨vs,H1,I1,r1,q1⟩=>?_) hs rfl))
 obtain ⟨j,e,q1,q2,q⟩:=q1
 subst e
 cases r1 with
 | cons r rr =>
  cases rr
  obtain ⟨t,rfl⟩:=r
  exact call_range_1 (zfr I1 (by omega) (by omega) q1 q2 (by simpa using q))
noncomputable def tFor (wi:TI) (g:TG) (tb:TS):TS:=λ D σ H=>wi σ H λ J H1=>∃ W:Nat→Nat→St→Hp→Prop,(∃ m,W 0 m σ H1)∧∀ i m σ H,W i m σ H →
 (J.stop i H∧D.nx σ H) ∨ (J.go i H∧∃ N:St→Hp→Prop,(∀ σ' H',N σ' H'→∃ m',m'<m∧W (i+1) m' σ' H')∧∀ x H',J.yld i H x H'→g x σ H' λ σ2 H2=>tb { D with nx:=N,ct:=N,bk:=D.nx } σ2 H2)
noncomputable def zuj (fp:List Addr) (h:Heap):List (Addr×Obj):=fp.filterMap λ b=>(h.get? b).map λ o=>(b,o)
theorem zvb {fp:List Addr} {h:Heap} {b:Addr} {o:Obj} (hb:b∈fp) (e:h.get? b=some o):(b,o)∈zuj fp h:=List.mem_filterMap.mpr ⟨b,hb,by rw [e];rfl⟩
theorem zep {fp:List Addr} {h:Heap} {p:Addr×Obj} (hp:p∈zuj fp h):p.1∈fp∧h.get? p.1=some p.2:=by
 obtain ⟨b,hb,e⟩:=List.mem_filterMap.mp hp
 cases q:h.get? b with
 | none=>rw [q] at e;cases e
 | some o =>
  rw [q] at e
  have e':(b,o)=p:=Option.some.inj e
  subst e'
  exact ⟨hb,q⟩
theorem Inv.pinned {pins:List (Addr×Obj)} {σ:St} {H:Hp} {s:Shared} {fp:List Addr} (I:Inv X pins σ H s) (hf:∀ b∈fp,FpOk X pins H b) (ho:∀ b∈fp,∃ o,s.heap.get? b=some o∧∀ v,o.data ≠ .cell v):Inv X (pins++zuj fp s.heap) σ H s :=
 I.pins_of λ p hp=>(List.mem_append.mp hp).elim (λ z=>I.pin p (List.mem_append_right _ z)) λ z=>by
  obtain ⟨hb,e⟩:=zep z
  obtain ⟨f0,f1,f2,_⟩:=hf p.1 hb
  obtain ⟨o,e',d⟩:=ho p.1 hb
  rw [e] at e';cases e'
  exact ⟨e,f0,f1,f2,d⟩
theorem Inv.unpinned {pins pl:List (Addr×Obj)} {σ:St} {H:Hp} {s:Shared} (I:Inv X (pins++pl) σ H s):Inv X pins σ H s:=I.pins_of λ p hp=>I.pin p (List.mem_append_right _ (List.mem_append_left _ hp))
theorem zcp {iter:Expr} {body:List Stmt} {wi:TI} {g:TG} {tb:TS} {pos:Pos} (hp:PassesOwn (model X.prog X.w) X.A X.env X.xe) (hc:X.calm=true) (hi:PI X tg iter wi) (hg:PG X tg g) (hb:PSs X body tb)
  (hs:∀ x,foldedSetIterable iter X.env x=pure x:=by intro _;rfl):PS X (.For tg iter body [] pos) (tFor wi g tb) := .mk <| by
 intro pins s σ H D I h
 refine wpAny_For (thn (hi pins s σ H _ I h) λ v s1 h1=>thn h1 λ itv s2 h2=>?_) hs
 obtain ⟨it,fp,tn,J,H2,e,I2,T,st2,f2,W,⟨m0,w0⟩,turn⟩:=h2
 subst e
 have stat:∀ {H':Hp},(∀ b∈fp,H' b=none)→∀ b∈fp,FpOk X pins H' b:=λ hn b hb=>⟨hn b hb,(f2 b hb).2⟩
 refine codeAny_forLoop_any (λ n s'=>∃ i σ' H',Inv X pins σ' H' s'∧tn i s'.heap∧(∀ b∈fp,H' b=none)∧W i n σ' H') ?_ m0 ⟨0,σ,H2,I2,st2,λ b hb=>(f2 b hb).1,w0⟩
 rintro n s3 ⟨i,σ3,H3,I3,st3,fr3,w3⟩
 rcases turn i n σ3 H3 w3 with ⟨stop,qn⟩ | ⟨go,N,hN,step⟩
 ·refine wpAny_passesOwn hp (thn (T.done X rfl rfl rfl hc i pins s3 σ3 H3 X.xe I3 (stat fr3) st3 stop) λ r s4 ⟨hr,I4⟩=>?_)
  subst hr
  exact wpAny_execs_nil ⟨σ3,H3,I4,qn⟩
 ·refine wpAny_passesOwn hp (thn (T.item X rfl rfl rfl hc i pins s3 σ3 H3 X.xe I3 (stat fr3) st3 go) λ r s4 ⟨u,hr,h4⟩=>?_)
  subst hr
  refine wpAny_passesOwn hp (thn h4 λ _ s5 ⟨x,H5,I5,r5,y5,st5,fr5⟩=>?_)
  have I5':=I5.pinned (stat fr5) (T.obj _ _ st5)
  refine wpAny_passesOwn hp (thn (hg _ s5 σ3 H5 x u _ I5' r5 (step x H5 y5)) λ _ s6 ⟨σ6,H6,I6,q6⟩=>?_)
  refine wpAny_passesOwn hp (thn (hb _ s6 σ6 H6 _ I6 q6) λ f s7 q7=>?_)
  have again:∀ {σ7:St} {H7:Hp},Inv X (pins++zuj fp s5.heap) σ7 H7 s7→N σ7 H7→∃ m,m<n∧∃ i σ' H',Inv X pins σ' H' s7∧tn i s7.heap∧(∀ b∈fp,H' b=none)∧W i m σ' H':=fun {σ7 H7} I7 n7=>by
   obtain ⟨m',hm,w7⟩:=hN σ7 H7 n7
   refine ⟨m',hm,i+1,σ7,H7,I7.unpinned,T.keep _ _ _ st5 λ b hb o e=>(I7.pin (b,o) (List.mem_append_right _ (List.mem_append_right _ (zvb hb e)))).1,λ b hb=>?_,w7⟩
   obtain ⟨o,e,d⟩:=T.obj _ _ st5 b hb
   exact (I7.pin (b,o) (List.mem_append_right _ (List.mem_append_right _ (zvb hb e)))).2.1
  cases f with
  | next=>obtain ⟨σ7,H7,I7,n7⟩:=q7;exact again I7 n7
  | cont=>obtain ⟨σ7,H7,I7,n7⟩:=q7;exact again I7 n7
  | brk=>obtain ⟨σ7,H7,I7,q7⟩:=q7;exact ⟨σ7,H7,I7.unpinned,q7⟩
  | ret v=>obtain ⟨x7,σ7,H7,I7,r7,q7⟩:=q7;exact ⟨x7,σ7,H7,I7.unpinned,r7,q7⟩
end
theorem zuf {lo:Int} {n:Nat} {g:TG} {tb:TS} {D:Ends} {σ:St} {H:Hp} (Pv:Nat→St→Hp→Prop) (h0:Pv 0 σ H)
  (hs:∀ i σ H,i<n→Pv i σ H→g (.int (lo+i)) σ H λ σ2 H2=>tb { D with nx:=Pv (i+1),ct:=Pv (i+1),bk:=D.nx } σ2 H2) (hd:∀ σ H,Pv n σ H→D.nx σ H) :
  ∃ W:Nat→Nat→St→Hp→Prop,(∃ m,W 0 m σ H)∧∀ i m σ H,W i m σ H →
   ((Itr lo n).stop i H∧D.nx σ H) ∨ ((Itr lo n).go i H∧∃ N:St→Hp→Prop,(∀ σ' H',N σ' H'→∃ m',m'<m∧W (i+1) m' σ' H')∧∀ x H',(Itr lo n).yld i H x H'→g x σ H' λ σ2 H2=>tb { D with nx:=N,ct:=N,bk:=D.nx } σ2 H2):=by
 refine ⟨λ i m σ H=>m=n - i∧i≤n∧Pv i σ H,⟨n,by simp,Nat.zero_le _,h0⟩,?_⟩
 rintro i m σ H ⟨rfl,hi,p⟩
 by_cases hlt:i<n
 ·refine .inr ⟨hlt,Pv (i+1),λ σ' H' p'=>⟨n - (i+1),by omega,rfl,hlt,p'⟩,λ x H' y=>?_⟩
  obtain ⟨e,y⟩:=y
  subst e y
  exact hs i σ _ hlt p
 ·have e:i=n:=by omega
  subst e
  exact .inl ⟨Nat.le_refl _,hd σ H p⟩
end L2
namespace L2
open PySem PySem.Spec PyProof.Rows
noncomputable abbrev R2:=V→V→Hp→VK→Prop
noncomputable def OpR (X:Cx) (f:Value→Value→Sem Value) (r:R2):Prop :=
 ∀ (pins:List (Addr×Obj)) (s:Shared) (σ:St) (H:Hp) (x y:V) (v u:Value) (Q:VK),Inv X pins σ H s→RelV x v→RelV y u→r x y H Q →
  wpAny (model X.prog X.w) X.A (f v u) (EP X pins σ Q) X.xe s
noncomputable def UnR (X:Cx) (f:Value→Sem Value) (r:V→Hp→VK→Prop):Prop :=
 ∀ (pins:List (Addr×Obj)) (s:Shared) (σ:St) (H:Hp) (x:V) (v:Value) (Q:VK),Inv X pins σ H s→RelV x v→r x H Q →
  wpAny (model X.prog X.w) X.A (f v) (EP X pins σ Q) X.xe s
noncomputable def zwi (X:Cx) (f:Value) (r:List V→Hp→VK→Prop):Prop :=
 ∀ (pins:List (Addr×Obj)) (s:Shared) (σ:St) (H:Hp) (xs:List V) (us:List Value) (Q:VK),Inv X pins σ H s→Vals xs us→r xs H Q →
  wpAny (model X.prog X.w) X.A (call f us) (EP X pins σ Q) X.xe s
noncomputable def tOp (r:R2) (ta tb:TE):TE:=λ σ H Q=>ta σ H λ x H1=>tb σ H1 λ y H2=>r x y H2 Q
noncomputable def tUn (r:V→Hp→VK→Prop) (ta:TE):TE:=λ σ H Q=>ta σ H λ x H1=>r x H1 Q
noncomputable def rI (C:Int→Int→Prop) (g:Int→Int→V):R2:=λ x y H Q=>∃ i j,x = .int i∧y = .int j∧C i j∧Q (g i j) H
noncomputable def rI0 (g:Int→Int→V):R2:=λ x y H Q=>∃ i j,x = .int i∧y = .int j∧Q (g i j) H
noncomputable def rU (g:Int→V):V→Hp→VK→Prop:=λ x H Q=>∃ i,x = .int i∧Q (g i) H
section
variable {X:Cx} {a b c:Expr} {ta tb tc:TE} {pos:Pos}
theorem binT (ha:PE X a ta) (hb:PE X b tb) {pins:List (Addr×Obj)} {s:Shared} {σ:St} {H:Hp} {R:V→V→Hp→Prop} (I:Inv X pins σ H s)
  (h:ta σ H λ x H1=>tb σ H1 λ y H2=>R x y H2) {Q:Value→Shared→Prop} {f:Value→Value→Sem Value}
  (hf:∀ v u s2 x y H2,Inv X pins σ H2 s2→RelV x v→RelV y u→R x y H2→wpAny (model X.prog X.w) X.A (f v u) Q X.xe s2) :
  wpAny (model X.prog X.w) X.A (eval a X.env) (λ v s₁=>wpAny (model X.prog X.w) X.A (eval b X.env) (λ u s₂=>wpAny (model X.prog X.w) X.A (f v u) Q X.xe s₂) X.xe s₁) X.xe s:=by
 refine thn (ha pins s σ H _ I h) λ v s1 ⟨x,H1,I1,r1,q1⟩=>?_
 refine thn (hb pins s1 σ H1 _ I1 q1) λ u s2 ⟨y,H2,I2,r2,q2⟩=>?_
 exact hf v u s2 x y H2 I2 r1 r2 q2
theorem zqa {op:Operator} {r:R2} (ho:OpR X (binaryOp op) r) (ha:PE X a ta) (hb:PE X b tb):PE X (.BinOp a op b pos) (tOp r ta tb) := .mk <| by
 intro pins s σ H Q I h
 exact wpAny_BinOp (binT ha hb I h λ v u s2 x y H2 I2 rx ry q=>ho pins s2 σ H2 x y v u Q I2 rx ry q)
theorem zk2 {op:UnaryOp} {r:V→Hp→VK→Prop} (ho:UnR X (unaryOp op) r) (ha:PE X a ta):PE X (.UnaryOp op a pos) (tUn r ta) := .mk <| by
 intro pins s σ H Q I h
 exact UnaryOp_ (thn (ha pins s σ H _ I h) λ v s1 ⟨x,H1,I1,r1,q1⟩=>ho pins s1 σ H1 x v Q I1 r1 q1)
theorem opI {f:Value→Value→Sem Value} {C:Int→Int→Prop} {g:Int→Int→Int}
  (rule:∀ (i j:Int) (t u:Tok) (s:Shared) (Q:Value→Shared→Prop) (E:Value→Shared→Prop),C i j→Q (.int (g i j) s.toks) { s with toks:=s.toks+1 }→wpAny (model X.prog X.w) X.A (f (.int i t) (.int j u)) Q E s) :
  OpR X f (rI C λ i j=>.int (g i j)):=by
 intro pins s σ H x y v u Q I rx ry h
 obtain ⟨i,j,rfl,rfl,hc,q⟩:=h
 obtain ⟨t,rfl⟩:=rx
 obtain ⟨t',rfl⟩:=ry
 exact rule i j t t' s _ _ hc ⟨.int (g i j),H,I.tok _,⟨_,rfl⟩,q⟩
theorem opI0 {f:Value→Value→Sem Value} {g:Int→Int→Int}
  (rule:∀ (i j:Int) (t u:Tok) (s:Shared) (Q:Value→Shared→Prop) (E:Value→Shared→Prop),Q (.int (g i j) s.toks) { s with toks:=s.toks+1 }→wpAny (model X.prog X.w) X.A (f (.int i t) (.int j u)) Q E s) :
  OpR X f (rI0 λ i j=>.int (g i j)):=by
 intro pins s σ H x y v u Q I rx ry h
 obtain ⟨i,j,rfl,rfl,q⟩:=h
 obtain ⟨t,rfl⟩:=rx
 obtain ⟨t',rfl⟩:=ry
 exact rule i j t t' s _ _ ⟨.int (g i j),H,I.tok _,⟨_,rfl⟩,q⟩
theorem opB0 {f:Value→Value→Sem Value} {g:Int→Int→Bool}
  (rule:∀ (i j:Int) (t u:Tok) (s:Shared) (Q:Value→Shared→Prop) (E:Value→Shared→Prop),Q (.bool (g i j)) s→wpAny (model X.prog X.w) X.A (f (.int i t) (.int j u)) Q E s) :
  OpR X f (rI0 λ i j=>.bl (g i j)):=by
 intro pins s σ H x y v u Q I rx ry h
 obtain ⟨i,j,rfl,rfl,q⟩:=h
 obtain ⟨t,rfl⟩:=rx
 obtain ⟨t',rfl⟩:=ry
 exact rule i j t t' s _ _ ⟨.bl (g i j),H,I,rfl,q⟩
noncomputable def CDiv (i j:Int):Prop:=0<j∧j<1073741824
noncomputable def CPow (i j:Int):Prop:=0≤j∧j≤1000000∧i.natAbs<2 ^ 64
noncomputable def CMul (i j:Int):Prop:=(-(2 ^ 64)<i∧i<2 ^ 64) ∨ (-(2 ^ 64)<j∧j<2 ^ 64)
theorem CMul.ok {i j:Int} (h:CMul i j):IntMulOk i j:=by
 rcases h with ⟨h1,h2⟩ | ⟨h1,h2⟩
 ·exact .of_left (intBits_le_64 h1 h2)
 ·exact .of_right (intBits_le_64 h1 h2)
theorem zfd:OpR X (binaryOp .Add) (rI0 λ i j=>.int (i+j)):=opI0 λ _ _ _ _ _ _ _ q=>add_int q
theorem zgs:OpR X (binaryOp .Sub) (rI0 λ i j=>.int (i - j)):=opI0 λ _ _ _ _ _ _ _ q=>sub_int q
theorem zxd:OpR X (binaryOp .Mult) (rI CMul λ i j=>.int (i * j)):=opI λ _ _ _ _ _ _ _ hc q=>mul_int q hc.ok
theorem zra:OpR X (binaryOp .FloorDiv) (rI CDiv λ i j=>.int (i / j)):=opI λ i j _ _ _ _ _ hc q=>by
 have h1:(0:Int)<j:=hc.1
 have h2:j<1073741824:=hc.2
 exact floordiv_int (by omega) (by rw [Int.fdiv_eq_ediv_of_nonneg i (by omega)];exact q) (.inl (PyProof.noPylong_small (by omega)))
theorem znb:OpR X (binaryOp .Mod) (rI (λ _ j=>0<j) λ i j=>.int (i % j)):=opI λ i j _ _ _ _ _ hc q=>by
 have h1:(0:Int)<j:=hc
 exact mod_int' (by omega) (by rw [Int.fmod_eq_emod_of_nonneg i (by omega)];exact q)
theorem zxu:OpR X (binaryOp .Pow) (rI CPow λ i j=>.int (i ^ j.toNat)):=opI λ _ _ _ _ _ _ _ hc q=>pow_int_small hc.1 hc.2.1 hc.2.2 q
theorem unI {f:Value→Sem Value} {g:Int→Int}
  (rule:∀ (i:Int) (t:Tok) (s:Shared) (Q:Value→Shared→Prop) (E:Value→Shared→Prop),Q (.int (g i) s.toks) { s with toks:=s.toks+1 }→wpAny (model X.prog X.w) X.A (f (.int i t)) Q E s) :
  UnR X f (rU λ i=>.int (g i)):=by
 intro pins s σ H x v Q I rx h
 obtain ⟨i,rfl,q⟩:=h
 obtain ⟨t,rfl⟩:=rx
 exact rule i t s _ _ ⟨.int (g i),H,I.tok _,⟨_,rfl⟩,q⟩
theorem zet:UnR X (unaryOp .USub) (rU λ i=>.int (-i)):=unI λ _ _ _ _ _ q=>neg_int q
end
noncomputable def scal:V→V→Bool
 | .non,.non=>true | .non,.int _=>true | .int _,.non=>true | .non,.bl _=>true | .bl _,.non=>true | .non,.str _=>true | .str _,.non=>true
 | .int _,.int _=>true | .bl _,.bl _=>true | .str _,.str _=>true | .byt _,.byt _=>true
 | .int _,.str _=>true | .str _,.int _=>true | .bl _,.str _=>true | .str _,.bl _=>true
 | _,_=>false
noncomputable def rEq:R2:=λ x y H Q=>scal x y=true∧Q (.bl (decide (x=y))) H
noncomputable def rNe:R2:=λ x y H Q=>scal x y=true∧Q (.bl (!decide (x=y))) H
theorem zkq {i j:Int}:decide (V.int i=V.int j)=(i == j):=by
 rw [Bool.eq_iff_iff]
 simp
theorem zvv {i j:Bool}:decide (V.bl i=V.bl j)=(i == j):=by
 rw [Bool.eq_iff_iff]
 simp
theorem zoq {i j:Str}:decide (V.str i=V.str j)=(i == j):=by
 rw [Bool.eq_iff_iff]
 simp
theorem zrp {i j:Array UInt8}:decide (V.byt i=V.byt j)=(i.toList == j.toList):=by
 rw [Bool.eq_iff_iff]
 cases i
 cases j
 simp
section
variable {X:Cx} {a b c:Expr} {ta tb tc:TE} {pos:Pos}
theorem zcb {pins:List (Addr×Obj)} {σ:St} {H:Hp} {s:Shared} {Q:VK} {k k':Bool} (I:Inv X pins σ H s) (q:Q (.bl k) H) (e:k=k'):EP X pins σ Q (.bool k') s:=by
 subst e
 exact ⟨.bl k,H,I,rfl,q⟩
theorem zvd:OpR X (compareOp .Eq) rEq:=by
 intro pins s σ H x y v u Q I rx ry h
 obtain ⟨hs,q⟩:=h
 cases x with
 | non =>
  cases rx
  cases y with
  | non=>cases ry;exact PySem.EqNone.eq_none_none (zcb I q (by simp))
  | bl j=>cases ry;exact PySem.EqNone.eq_none_bool (zcb I q (by simp))
  | int j=>obtain ⟨t',rfl⟩:=ry;exact PySem.EqNone.eq_none_int (zcb I q (by simp))
  | str j=>obtain ⟨t',rfl⟩:=ry;exact PySem.EqNone.eq_none_str (zcb I q (by simp))
  | _=>exact absurd (show false=true from hs) Bool.false_ne_true
 | bl i =>
  cases rx
  cases y with
  | non=>cases ry;exact PySem.EqNone.eq_bool_none (zcb I q (by simp))
  | bl j=>cases ry;exact eq_bool (zcb I q zvv)
  | str j=>obtain ⟨t',rfl⟩:=ry;exact PySem.EqMixed.eq_bool_str (zcb I q (by simp))
  | _=>exact absurd (show false=true from hs) Bool.false_ne_true
 | int i =>
  obtain ⟨t,rfl⟩:=rx
  cases y with
  | non=>cases ry;exact PySem.EqNone.eq_int_none (zcb I q (by simp))
  | int j=>obtain ⟨t',rfl⟩:=ry;exact eq_int (zcb I q zkq)
  | str j=>obtain ⟨t',rfl⟩:=ry;exact PySem.EqMixed.eq_int_str (zcb I q (by simp))
  | _=>exact absurd (show false=true from hs) Bool.false_ne_true
 | str i =>
  obtain ⟨t,rfl⟩:=rx
  cases y with
  | non=>cases ry;exact PySem.EqNone.eq_str_none (zcb I q (by simp))
  | bl j=>cases ry;exact PySem.EqMixed.eq_str_bool (zcb I q (by simp))
  | int j=>obtain ⟨t',rfl⟩:=ry;exact PySem.EqMixed.eq_str_int (zcb I q (by simp))
  | str j=>obtain ⟨t',rfl⟩:=ry;exact eq_str (zcb I q zoq)
  | _=>exact absurd (show false=true from hs) Bool.false_ne_true
 | byt i =>
  obtain ⟨t,rfl⟩:=rx
  cases y with
  | byt j=>obtain ⟨t',rfl⟩:=ry;exact W.eq_bytes (zcb I q zrp)
  | _=>exact absurd (show false=true from hs) Bool.false_ne_true
 | _=>cases y <;> exact absurd (show false=true from hs) Bool.false_ne_true
theorem zuw:OpR X (compareOp .NotEq) rNe:=by
 intro pins s σ H x y v u Q I rx ry h
 obtain ⟨hs,q⟩:=h
 cases x with
 | non =>
  cases rx
  cases y with
  | non=>cases ry;exact PySem.EqNone.ne_none_none (zcb I q (by simp))
  | bl j=>cases ry;exact PySem.EqNone.ne_none_bool (zcb I q (by simp))
  | int j=>obtain ⟨t',rfl⟩:=ry;exact PySem.EqNone.ne_none_int (zcb I q (by simp))
  | str j=>obtain ⟨t',rfl⟩:=ry;exact PySem.EqNone.ne_none_str (zcb I q (by simp))
  | _=>exact absurd (show false=true from hs) Bool.false_ne_true
 | bl i =>
  cases rx
  cases y with
  | non=>cases ry;exact PySem.EqNone.ne_bool_none (zcb I q (by simp))
  | bl j=>cases ry;exact ne_bool (zcb I q (congrArg not zvv))
  | str j=>obtain ⟨t',rfl⟩:=ry;exact PySem.EqMixed.ne_bool_str (zcb I q (by simp))
  | _=>exact absurd (show false=true from hs) Bool.false_ne_true
 | int i =>
  obtain ⟨t,rfl⟩:=rx
  cases y with
  | non=>cases ry;exact PySem.EqNone.ne_int_none (zcb I q (by simp))
  | int j=>obtain ⟨t',rfl⟩:=ry;exact ne_int (zcb I q (congrArg not zkq))
  | str j=>obtain ⟨t',rfl⟩:=ry;exact PySem.EqMixed.ne_int_str (zcb I q (by simp))
  | _=>exact absurd (show false=true from hs) Bool.false_ne_true
 | str i =>
  obtain ⟨t,rfl⟩:=rx
  cases y with
  | non=>cases ry;exact PySem.EqNone.ne_str_none (zcb I q (by simp))
  | bl j=>cases ry;exact PySem.EqMixed.ne_str_bool (zcb I q (by simp))
  | int j=>obtain ⟨t',rfl⟩:=ry;exact PySem.EqMixed.ne_str_int (zcb I q (by simp))
  | str j=>obtain ⟨t',rfl⟩:=ry;exact ne_str (zcb I q (congrArg not zoq))
  | _=>exact absurd (show false=true from hs) Bool.false_ne_true
 | byt i =>
  obtain ⟨t,rfl⟩:=rx
  cases y with
  | byt j=>obtain ⟨t',rfl⟩:=ry;exact W.ne_bytes (zcb I q (congrArg not zrp))
  | _=>exact absurd (show false=true from hs) Bool.false_ne_true
 | _=>cases y <;> exact absurd (show false=true from hs) Bool.false_ne_true
theorem zax:OpR X (compareOp .Lt) (rI0 λ i j=>.bl (decide (i<j))):=opB0 λ _ _ _ _ _ _ _ q=>lt_int q
theorem zy3:OpR X (compareOp .Gt) (rI0 λ i j=>.bl (decide (j<i))):=opB0 λ _ _ _ _ _ _ _ q=>gt_int q
theorem zg3:OpR X (compareOp .GtE) (rI0 λ i j=>.bl (decide (j≤i))):=opB0 λ _ _ _ _ _ _ _ q=>ge_int q
theorem zyn:OpR X (compareOp .In) (λ x y H Q=>∃ i j,x = .str i∧y = .str j∧Q (.bl (!(Builtin.Str.occurrences j i 0 j.length 1).isEmpty)) H):=by
 intro pins s σ H x y v u Q I rx ry h
 obtain ⟨i,j,rfl,rfl,q⟩:=h
 obtain ⟨t,rfl⟩:=rx
 obtain ⟨t',rfl⟩:=ry
 exact in_str (zcb I q rfl)
theorem zfs:OpR X (compareOp .Is) (λ x y H Q=>y = .non∧Q (.bl (decide (x = .non))) H):=by
 intro pins s σ H x y v u Q I rx ry h
 obtain ⟨rfl,q⟩:=h
 cases ry
 refine is_none_gen (zcb I q ?_)
 cases x <;> first
  | (cases rx;rfl)
  | (obtain ⟨t,rfl⟩:=rx;rfl)
theorem zje:OpR X (compareOp .NotIn) (λ x y H Q=>∃ i j,x = .str i∧y = .str j∧Q (.bl (!(!(Builtin.Str.occurrences j i 0 j.length 1).isEmpty))) H):=by
 intro pins s σ H x y v u Q I rx ry h
 obtain ⟨i,j,rfl,rfl,q⟩:=h
 obtain ⟨t,rfl⟩:=rx
 obtain ⟨t',rfl⟩:=ry
 exact notIn_str (zcb I q rfl)
theorem zva (b:Expr) {op:CmpOp} (h:op ≠ .In:=by decide) (h2:op ≠ .NotIn:=by decide):behindInMarks op b=false:=by
 have e1:(op == CmpOp.In)=false:=by cases op <;> first | rfl | exact absurd rfl h
 have e2:(op == CmpOp.NotIn)=false:=by cases op <;> first | rfl | exact absurd rfl h2
 cases b <;> simp [behindInMarks,e1,e2]
theorem zgf {op:CmpOp} {r:R2} (ho:OpR X (compareOp op) r) (ha:PE X a ta) (hb:PE X b tb) (hm:behindInMarks op b=false):PE X (.Compare a [op] [b] pos) (tOp r ta tb) := .mk <| by
 intro pins s σ H Q I h
 exact wpAny_Compare1 (binT ha hb I h λ v u s2 x y H2 I2 rx ry q=>ho pins s2 σ H2 x y v u Q I2 rx ry q) hm
noncomputable def zh3 (t:TE):TT:=λ σ H Q=>t σ H λ x H'=>∃ k,x = .bl k∧Q k H'
theorem zna {op:CmpOp} {r:R2} (ho:OpR X (compareOp op) r) (ha:PE X a ta) (hb:PE X b tb) (hm:behindInMarks op b=false):PT X (.Compare a [op] [b] pos) (zh3 (tOp r ta tb)) := .mk <| by
 intro pins s σ H Q I h
 refine wpAny_isTrue_Compare1 (thn (ha pins s σ H _ I h) λ v s1 ⟨x,H1,I1,r1,q1⟩=>thn (hb pins s1 σ H1 _ I1 q1) λ u s2 ⟨y,H2,I2,r2,q2⟩ =>
  thn (ho pins s2 σ H2 x y v u _ I2 r1 r2 q2) λ c s3 ⟨z,H3,I3,r3,k,e,q3⟩=>?_) hm
 subst e
 cases r3
 exact wpAny_truthy_bool ⟨H3,I3,q3⟩
theorem zpl:(sizeLine:Nat)<2 ^ 63:=by rw [sizeLine_eq];decide
theorem zua:OpR X (binaryOp .Add) (λ x y H Q=>∃ i j,x = .str i∧y = .str j∧i.length+j.length≤sizeLine∧Q (.str (i++j)) H):=by
 intro pins s σ H x y v u Q I rx ry h
 obtain ⟨i,j,rfl,rfl,hz,q⟩:=h
 obtain ⟨t,rfl⟩:=rx
 obtain ⟨t',rfl⟩:=ry
 exact add_str (λ t' tk=>⟨.str (i++j),H,I.tok _,⟨_,rfl⟩,q⟩) hz
theorem zlq {x:V} {us:List Value} (r:Vals [x] us):∃ u,us=[u]∧RelV x u:=by
 cases r with
 | cons r1 r2=>cases r2;exact ⟨_,rfl,r1⟩
theorem zyr:zwi X (.builtin "abs") (λ xs H Q=>∃ i,xs=[.int i]∧Q (.int (if i<0 then -i else i)) H):=by
 intro pins s σ H xs us Q I r h
 obtain ⟨i,rfl,q⟩:=h
 obtain ⟨u,rfl,t,rfl⟩:=zlq r
 exact call_abs_int λ u tk=>⟨.int (if i<0 then -i else i),H,I.tok _,⟨_,rfl⟩,q⟩
theorem zab:zwi X (.type "str") (λ xs H Q=>∃ i,xs=[.int i]∧i.natAbs.log2<1920∧Q (.str (toString i)) H):=by
 intro pins s σ H xs us Q I r h
 obtain ⟨i,rfl,hz,q⟩:=h
 obtain ⟨u,rfl,t,rfl⟩:=zlq r
 exact PySem.P.str_of_int hz ⟨.str _,H,I.tok _,⟨_,rfl⟩,q⟩
end
end L2
namespace L2
open PySem PySem.Spec PyProof.Rows
section
variable {prog:Program} {w:World} {A:Around} {E:Value→Shared→Prop} {s:Shared} {K:W.Frag} {x dx C f:Addr} {mA:Str→Option Value} {name:Str} {v:Value}
end
section
variable {P:Program} {w:World} {H H':Hp} {h h':Heap} {a C dx:Addr} {fs fs':List (Str×V)}
end
section
variable {X:Cx} {pins:List (Addr×Obj)} {σ:St} {H:Hp} {s:Shared} {a C dx:Addr} {fs:List (Str×V)} {f:Str} {v:V} {A:Around} {E:Value→Shared→Prop}
end
section
variable {X:Cx} {o e value:Expr} {f:Str} {pos pos' tpos:Pos} {ta tv:TE}
end
section
variable {X:Cx} {pins:List (Addr×Obj)} {σ:St} {H:Hp} {s:Shared} {A:Around} {E:Value→Shared→Prop} {Q:Value→Shared→Prop} {c:Value} {b:Bool}
end
end L2
namespace L2
open PySem PySem.Spec PyProof.Rows
structure Room (k:Nat) (A:Around):Prop where
 hd:A.handled=none
 dp:A.depth+3 * k+5<recursionLimit
 un:A.units+16 * k+200<cLine
theorem Room.mono {j k:Nat} {A:Around} (r:Room k A) (h:j≤k):Room j A:=⟨r.hd,by have:=r.dp;omega,by have:=r.un;omega⟩
theorem Room.deeper {k:Nat} {A:Around} (r:Room (k+1) A) (env:Env):Room k (A.deeper env) :=
 ⟨r.hd,by have:=r.dp;show A.depth+1+3 * k+5<_;omega,by have:=r.un;show A.units+3+16 * k+200<_;omega⟩
theorem Room.depth {k:Nat} {A:Around} (r:Room k A):A.depth<recursionLimit:=by have:=r.dp;omega
theorem Room.units {k:Nat} {A:Around} (r:Room k A):A.units+64<cLine:=by have:=r.un;omega
noncomputable def tNil:TA:=λ _ H Q=>Q [] H
noncomputable def zz2 (ta:TE) (tr:TA):TA:=λ σ H Q=>ta σ H λ x H1=>tr σ H1 λ xs H2=>Q (x::xs) H2
section
variable {X:Cx} {e:Expr} {es:List Expr} {te:TE} {t:TA} {pos:Pos}
theorem zda:PA X [] tNil := .mk <| λ _ _ _ _ H Q I h=>Calls.spliced_nil ⟨[],H,I,.nil,h⟩
theorem zaa (ha:PE X e te) (hr:PA X es t) (hs:starEach (e::es) X.env=(false,eval e X.env)::starEach es X.env:=by rfl):PA X (e::es) (zz2 te t) := .mk <| by
 intro pos pins s σ H Q I h
 rw [hs]
 show wpAny _ _ (spliced ((false,eval e X.env)::backTo pos (starEach es X.env))) _ _ s
 refine Calls.spliced_cons (thn (ha pins s σ H _ I h) λ u s1 ⟨x,H1,I1,r1,q1⟩=>?_)
 exact thn (hr pos pins s1 σ H1 _ I1 q1) λ us s2 ⟨xs,H2,I2,r2,q2⟩=>⟨x::xs,H2,I2,.cons r1 r2,q2⟩
noncomputable def tTup (t:TA):TE:=λ σ H Q=>t σ H λ xs H1=>xs.length≤sizeLine∧∀ p,H1 p=none→Q (.ref p) (upd H1 p (.tup xs))
noncomputable def tLst (t:TA):TE:=λ σ H Q=>t σ H λ xs H1=>xs.length≤sizeLine∧∀ p,H1 p=none→Q (.ref p) (upd H1 p (.lst xs))
theorem zsa {x1} (h:PA X es t):PE X (.Tuple es x1 pos) (tTup t) := .mk <| by
 intro pins s σ H Q I hq
 refine wpAny_Tuple_spliced (thn (h pos pins s σ H _ I hq) λ us s1 ⟨xs,H1,I1,r,z,q⟩=>⟨by rw [← r.length];exact z,?_⟩)
 have hf:H1 s1.heap.objs.size=none:=I1.hok.fresh (Nat.le_refl _)
 refine ⟨.ref s1.heap.objs.size,upd H1 s1.heap.objs.size (.tup xs),I1.laid (t':=s1.toks) (λ b u e=>Heap.get?_push_of_some _ e) (Nat.le_refl _) ?_,rfl,q _ hf⟩
 exact ⟨z,us,r,⟨_,Heap.get?_push_size _ rfl,rfl,_,rfl⟩⟩
theorem zzb (h:PA X es t):PE X (.List es pos) (tLst t) := .mk <| by
 intro pins s σ H Q I hq
 refine wpAny_List_spliced (thn (h pos pins s σ H _ I hq) λ us s1 ⟨xs,H1,I1,r,z,q⟩=>⟨by rw [← r.length];exact z,?_⟩)
 have hf:H1 s1.heap.objs.size=none:=I1.hok.fresh (Nat.le_refl _)
 refine ⟨.ref s1.heap.objs.size,upd H1 s1.heap.objs.size (.lst xs),I1.laid (t':=s1.toks) (λ b u e=>Heap.get?_push_of_some _ e) (Nat.le_refl _) ?_,rfl,q _ hf⟩
 exact ⟨z,us,0,r,Heap.get?_push_size _ rfl⟩
end
noncomputable abbrev Sp:=List V→Hp→VK→XK→Prop
noncomputable abbrev CXT:=List Env→Hp→Shared→XK→Value→Shared→Prop
structure Env0 (P:Program) (w:World) (K:W.Frag) (mg:Str→Option Value) (base:Heap) (A:Around) (outer:List Env) (s:Shared) (H:Hp):Prop where
 frames:A.frames=some outer
 mod:Mod K mg base
 bs:∀ b o,base.get? b=some o→s.heap.get? b=some o∧H b=none
 bsz:base.objs.size≤s.heap.objs.size
 funs:s.heap.FunFrames base outer
 frf:∀ b∈frs outer,H b=none
 hok:HOk P w H s.heap
 bare:AllBare s.gens
noncomputable def CE (outer:List Env) (P:Program) (w:World) (H:Hp) (s:Shared) (Q:VK) (u:Value) (s':Shared):Prop :=
 ∃ v H',s'.os=s.os∧AllBare s'.gens∧Un (frs outer) [] H H' s.heap s'.heap∧HOk P w H' s'.heap∧RelV v u∧Q v H'
noncomputable def CR (CX:CXT) (outer:List Env) (P:Program) (w:World) (H:Hp) (s:Shared) (Q:VK) (E:XK) (r:Result) (s':Shared):Prop :=
 match r with
 | .ok (.ret u)=>CE outer P w H s Q u s'
 | .ok _=>False
 | .error e=>CX outer H s E e s'
structure FnOk (P:Program) (w:World) (K:W.Frag) (mg:Str→Option Value) (base:Heap) (CX:CXT) (k:Nat) (f:Addr) (fd:FuncData) (ps:List Str) (sp:Sp):Prop where
 len:∀ vs H Q E,sp vs H Q E→vs.length=ps.length
 run:∀ (A:Around) (outer:List Env) (s:Shared) (H:Hp) (args:Args) (us:List Value) (vs:List V) (Q:VK) (E:XK),Room k A→Env0 P w K mg base A outer s H→BindsTo s fd args (ps.zip us)→Vals vs us→sp vs H Q E →
  codeAny (model P w) A (.call (.ref f) args) (CR CX outer P w H s Q E) s
theorem FnOk.imp {P:Program} {w:World} {K:W.Frag} {mg:Str→Option Value} {base:Heap} {CX:CXT} {k:Nat} {f:Addr} {fd:FuncData} {ps:List Str} {sp sp':Sp} (F:FnOk P w K mg base CX k f fd ps sp)
  (h:∀ vs H Q E,sp' vs H Q E→sp vs H Q E):FnOk P w K mg base CX k f fd ps sp' :=
 ⟨λ vs H Q E q=>F.len vs H Q E (h _ _ _ _ q),λ A outer s H args us vs Q E hr he hb hv hs=>F.run A outer s H args us vs Q E hr he hb hv (h _ _ _ _ hs)⟩
section
variable {X:Cx} {pins:List (Addr×Obj)} {σ:St} {H:Hp} {s s':Shared}
theorem Inv.env0 (I:Inv X pins σ H s):Env0 X.prog X.w X.K X.mg X.base X.A X.stack s H :=
 ⟨I.ok.frames,I.ok.mod,I.bs,Nat.le_trans I.ok.bsz I.sz,I.stack,I.stkFree,I.hok,I.bare⟩
theorem Inv.after {Q:VK} {u:Value} (I:Inv X pins σ H s) (h:CE X.stack X.prog X.w H s Q u s'):EP X pins σ Q u s':=by
 obtain ⟨v,H',os,bare,un,hok,r,q⟩:=h
 obtain ⟨hh,g,d,t,os'⟩:=s'
 obtain rfl:os'=s.os:=os
 exact ⟨v,H',I.call (h':=hh) (g':=g) (d':=d) (t':=t) (ch:=[]) un hok bare (λ b z=>absurd z (by simp)),r,q⟩
end
noncomputable def zb2 (sp:Sp) (dvs:List V) (E:XK) (t:TA):TE:=λ σ H Q=>t σ H λ vs H1=>sp (vs++dvs) H1 Q E
noncomputable def Binds (K:W.Frag) (fd:FuncData) (ps:List Str) (ds:List Value):Prop :=
 ∀ (s:Shared) (us:List Value),K.In s.heap→(us++ds).length=ps.length→BindsTo s fd ⟨us,[]⟩ (ps.zip (us++ds))
theorem Binds.all {K:W.Frag} {fd:FuncData} {ps:List Str} (h:∀ us:List Value,us.length=ps.length→bindArgs fd ⟨us,[]⟩=pure (ps.zip us)):Binds K fd ps []:=λ s us _ hl=>by
 rw [List.append_nil] at hl ⊢
 exact .of_eq (h us hl)
noncomputable def zro (CX:CXT) (X:Cx) (E:XK):Prop:=∀ (pins:List (Addr×Obj)) (σ:St) (H:Hp) (s:Shared) (e:Value) (s':Shared),Inv X pins σ H s→CX X.stack H s E e s'→X.xe e s'
section
variable {X:Cx} {CX:CXT} {k:Nat} {f C:Addr} {fd:FuncData} {ps:List Str} {sp:Sp} {dvs:List V} {ds:List Value} {E:XK} {x m:Str} {p pos apos:Pos} {e o:Expr} {es:List Expr} {ta:TE} {t:TA}
theorem zc0 {pins:List (Addr×Obj)} {σ:St} {H:Hp} {s:Shared} {Q:VK} {us:List Value} {vs:List V} (F:FnOk X.prog X.w X.K X.mg X.base CX k f fd ps sp) (hr:Room k X.A) (hb:Binds X.K fd ps ds) (hd:Vals dvs ds) (hx:zro CX X E)
  (I:Inv X pins σ H s) (r:Vals vs us) (h:sp (vs++dvs) H Q E):wpAny (model X.prog X.w) X.A (call (.ref f) us) (EP X pins σ Q) X.xe s:=by
 have r2:Vals (vs++dvs) (us++ds):=r.append hd
 have hl:(us++ds).length=ps.length:=by rw [← r2.length];exact F.len _ _ _ _ h
 refine wpAny_call (codeAny_mono (F.run X.A X.stack s H ⟨us,[]⟩ (us++ds) (vs++dvs) Q E hr I.env0 (hb s us I.kIn hl) r2 h) λ r s' hq=>?_)
 cases r with
 | error e=>exact hx pins σ H s e s' I hq
 | ok fl =>
  cases fl with
  | ret u=>exact I.after hq
  | next=>exact False.elim hq
  | brk=>exact False.elim hq
  | cont=>exact False.elim hq
theorem zga (F:FnOk X.prog X.w X.K X.mg X.base CX k f fd ps sp) (hr:Room k X.A) (hg:Gl X x) (hm:X.mg x=some (.ref f)) (hk:W.keepIn X.K (.ref f)=true) (hb:Binds X.K fd ps ds) (hd:Vals dvs ds) (hx:zro CX X E)
  (ha:PA X (e::es) t) (hdb:(x == ("__debug__" : Str))=false:=by decide) (he:starEach (e::es) X.env=(false,eval e X.env)::starEach es X.env:=by rfl) (hpl:(backTo pos (starEach es X.env)).any (·.1)=false:=by rfl) :
  PE X (.Call (.Name x p) (e::es) [] pos) (zb2 sp dvs E t) := .mk <| by
 intro pins s σ H Q I h
 refine wpAny_Call_Name_kw (zig I hg hm ?_ hdb)
 refine W.callWith_K (h₀:=X.base) I.ok.mod.kin hk (thn (ha pos pins s σ H _ I h) λ us s1 ⟨vs,H1,I1,r,q⟩=>⟨I1.kIn,?_⟩) he hpl
 exact zc0 F hr hb hd hx I1 r q
end
section
variable {X:Cx} {CX:CXT} {k:Nat} {f C:Addr} {fd:FuncData} {ps ks:List Str} {sp:Sp} {E:XK} {x m:Str} {p pos apos kpos:Pos} {e o:Expr} {es:List Expr} {kws:List Keyword} {te ta:TE} {t tk:TA} {nm:Option Str}
variable {g:List Value→List Value→List Value} {gV:List V→List V→List V}
end
structure FnScope (N P:List Str) (sc:Scope):Prop where
 kind:sc.kind = .function
 co:sc.isCoroutine=false
 gen:sc.isGenerator=false
 nd:N.Nodup
 pre:N.take P.length=P
 par:∀ x∈P,sc.names.lookup x=some .local ∨ sc.names.lookup x=some .cell
 nofree:∀ y∈sc.names,y.2 ≠ .free
theorem zoj {kindOf:Str→Option NameKind} {x:Str}:∀ {binds:List (Str×Value)} {m:Str→Option Value},(∀ v,(x,v)∉binds)→bindL kindOf binds m x=m x
 | [],_,_=>rfl
 | (n,v)::r,m,h=>by
  unfold bindL
  rw [zoj λ w hw=>h w (List.mem_cons_of_mem _ hw)]
  split
  ·have:x≠n:=by rintro rfl;exact h v List.mem_cons_self
   simp [this]
  ·rfl
theorem zoi {kindOf:Str→Option NameKind} {x:Str}:∀ {binds:List (Str×Value)} {m:Str→Option Value},(∀ v,(x,v)∉binds)→bindC kindOf binds m x=m x
 | [],_,_=>rfl
 | (n,v)::r,m,h=>by
  unfold bindC
  rw [zoi λ w hw=>h w (List.mem_cons_of_mem _ hw)]
  split
  ·rfl
  ·have:x≠n:=by rintro rfl;exact h v List.mem_cons_self
   simp [this]
theorem zji {kindOf:Str→Option NameKind} {x:Str} {v:Value}:∀ {P:List Str} {vs:List Value} {i:Nat} {m:Str→Option Value},P.Nodup→P[i]? = some x→vs[i]? = some v→kindOf x=some .local →
  bindL kindOf (P.zip vs) m x=some v
 | [],_,_,_,_,h,_,_=>by simp at h
 | _::_,[],_,_,_,_,h,_=>by simp at h
 | p::P,w::vs,0,m,nd,h1,h2,hk=>by
  simp at h1 h2;subst h1;subst h2
  show bindL kindOf ((p,w)::P.zip vs) m p=_
  unfold bindL
  rw [zoj λ v hv=>(List.nodup_cons.mp nd).1 (List.of_mem_zip hv).1,if_pos hk]
  simp
 | p::P,w::vs,i+1,m,nd,h1,h2,hk=>by
  show bindL kindOf ((p,w)::P.zip vs) m x=_
  unfold bindL
  exact zji (i:=i) (List.nodup_cons.mp nd).2 (by simpa using h1) (by simpa using h2) hk
theorem zgj {kindOf:Str→Option NameKind} {x:Str} {v:Value}:∀ {P:List Str} {vs:List Value} {i:Nat} {m:Str→Option Value},P.Nodup→P[i]? = some x→vs[i]? = some v→kindOf x≠some .local →
  bindC kindOf (P.zip vs) m x=some v
 | [],_,_,_,_,h,_,_=>by simp at h
 | _::_,[],_,_,_,_,h,_=>by simp at h
 | p::P,w::vs,0,m,nd,h1,h2,hk=>by
  simp at h1 h2;subst h1;subst h2
  show bindC kindOf ((p,w)::P.zip vs) m p=_
  unfold bindC
  rw [zoi λ v hv=>(List.nodup_cons.mp nd).1 (List.of_mem_zip hv).1,if_neg hk]
  simp
 | p::P,w::vs,i+1,m,nd,h1,h2,hk=>by
  show bindC kindOf ((p,w)::P.zip vs) m x=_
  unfold bindC
  exact zgj (i:=i) (List.nodup_cons.mp nd).2 (by simpa using h1) (by simpa using h2) hk
noncomputable def zdo (N:List Str) (vs:List V):St:=vs.map some++List.replicate (N.length - vs.length) none
noncomputable def cxOf (CX:CXT) (P:Program) (w:World) (K:W.Frag) (mg:Str→Option Value) (base:Heap) (N:List Str) (qual:Str) (scope:Scope) (f:Addr) (cd:Value) (A:Around) (outer:List Env) (s:Shared) (H:Hp) (E:XK):Cx where
 prog:=P
 w:=w
 K:=K
 mg:=mg
 base:=base
 A:=A.deeper (envOfC qual scope s.heap.objs.size f cd)
 N:=N
 s₀:=s
 H₀:=H
 env:=envOfC qual scope s.heap.objs.size f cd
 outer:=outer
 stack:=envOfC qual scope s.heap.objs.size f cd::outer
 ex:=[]
 calm:=true
 fn:=λ _=>true
 pn:=[]
 xe:=λ e s'=>wpAny (model P w) (A.deeper (envOfC qual scope s.heap.objs.size f cd)) (leaving (envOfC qual scope s.heap.objs.size f cd) e) (λ _ s''=>CX outer H s E e s'') (λ e' s''=>CX outer H s E e' s'') s'
theorem zbn {sc:Scope} {n:Nat} {x:Str} (h:sc.names.lookup x=some .cell):∃ c,(cellsFrom n sc.names []).lookup x=some c:=by
 have q:=W.cellsFrom_some sc.names n [] (.inl h)
 exact Option.isSome_iff_exists.mp q
theorem zvo {CX:CXT} {P:Program} {w:World} {K:W.Frag} {mg:Str→Option Value} {base:Heap} {N ps:List Str} {qual:Str} {scope:Scope} {f:Addr} {cd:Value} {A:Around} {outer:List Env} {s s1:Shared} {H:Hp} {E:XK} {us:List Value} {vs:List V}
  (S:FnScope N ps scope) (hd:A.handled=none) (e0:Env0 P w K mg base A outer s H) (hl:vs.length=ps.length) (r:Vals vs us)
  (x:InCallC s s.heap.objs.size (bindL (envOfC qual scope s.heap.objs.size f cd).kindOf (ps.zip us) λ _=>none) (cellsFrom (s.heap.objs.size+1) scope.names []) (bindC (envOfC qual scope s.heap.objs.size f cd).kindOf (ps.zip us) λ _=>none) s1) :
  Inv (cxOf CX P w K mg base N qual scope f cd A outer s H E) [] (zdo N vs) H s1:=by
 have hpl:ps.length≤N.length:=by have:=congrArg List.length S.pre;rw [List.length_take] at this;omega
 obtain ⟨h1,tk,rfl,hk⟩:=x.done
 have noA:∀ b:Addr,b∉(cxOf CX P w K mg base N qual scope f cd A outer s H E).ex:=λ b z=>absurd (show b∈([]:List Addr) from z) (by simp)
 refine ⟨⟨e0.mod,S.kind,rfl,rfl,Nat.le_refl _,λ y z c h1 h2=>?_,λ y hy=>?_,λ y c _ h=>?_,λ _=>hd,Around.frames_deeper e0.frames,.inr ⟨rfl,rfl⟩,λ b z=>absurd z (noA b),e0.bs,e0.bsz,λ b _ _=>noA b,λ b z=>absurd z (noA b),e0.funs,e0.frf⟩,
  rfl,e0.bare,Un.kept hk,⟨_,x.toInCall.ns,λ i y v h1 h2 h3=>?_⟩,λ y c h=>⟨_,x.cell y c h⟩,e0.hok.fresh (Nat.le_refl _),λ y c h=>?_,λ p hp=>absurd (show p∈([]:List (Addr×Obj)) from hp) (by simp),e0.hok.kept hk,?_⟩
 ·exact name_of_addr x.apart (PySem.mem_of_lookup h1) (PySem.mem_of_lookup h2)
 ·have hy:scope.names.lookup y=some .cell ∨ scope.names.lookup y=some .free:=hy
  rcases hy with hy | hy
  ·exact zbn hy
  ·exact absurd rfl (S.nofree _ (PySem.mem_of_lookup hy))
 ·exact Nat.le_of_lt (x.above y c (PySem.mem_of_lookup h))
 ·have hi:i<vs.length:=by
   unfold zdo at h2
   by_cases hi:i<vs.length
   ·exact hi
   ·rw [List.getElem?_append_right (by simpa using hi)] at h2
    rw [List.getElem?_replicate] at h2
    split at h2 <;> cases h2
  have ha:vs[i]? = some v:=by
   unfold zdo at h2
   rw [List.getElem?_append_left (by simpa using hi),List.getElem?_map] at h2
   cases e:vs[i]? with
   | none=>rw [e] at h2;cases h2
   | some a=>rw [e] at h2;cases h2;rfl
  obtain ⟨u,hu,rv⟩:=r.get ha
  have hp:ps[i]? = some y:=by
   rw [← S.pre,List.getElem?_take_of_lt (by omega)];exact h1
  have ndP:ps.Nodup:=by rw [← S.pre];exact S.nd.sublist (List.take_sublist _ _)
  refine ⟨u,rv,?_⟩
  rcases S.par y (List.mem_of_getElem? hp) with k | k
  ·exact .inl ⟨k,zji ndP hp hu k⟩
  ·obtain ⟨c,e⟩:=zbn (n:=s.heap.objs.size+1) k
   refine .inr ⟨.inl k,c,e,?_⟩
   have q:=x.cell y c e
   rw [zgj ndP hp hu (by show scope.names.lookup y≠_;rw [k];decide)] at q
   exact q
 ·exact e0.hok.fresh (Nat.le_of_lt (x.above y c (PySem.mem_of_lookup h)))
 ·unfold zdo
  show _=N.length
  rw [List.length_append,List.length_map,List.length_replicate]
  omega
theorem zl4 {CX:CXT} {P:Program} {w:World} {K:W.Frag} {mg:Str→Option Value} {base:Heap} {k:Nat} {f:Addr} {name qual:Str} {params:Arguments} {body:List Stmt} {scope:Scope} {dV kV doc pm cdv ct oc:Value} {an od:Option Addr}
  {osl:Array (Option Value)} {N ps:List Str} {sp:Sp} (lk:K.lookup f=some ⟨oc,od,.func (W.fnOf name qual params body scope dV kV doc pm an cdv ct),osl⟩) (hcd:W.codeIn K cdv qual=true) (S:FnScope N ps scope)
  (len:∀ vs H Q E,sp vs H Q E→vs.length=ps.length)
  (hbody:∀ (A:Around) (outer:List Env) (s:Shared) (H:Hp) (vs:List V) (Q:VK) (E:XK),Room k (A.deeper (envOfC qual scope s.heap.objs.size f cdv))→sp vs H Q E →
   ∃ t,PSs (cxOf CX P w K mg base N qual scope f cdv A outer s H E) body t∧t { nx:=λ _ H'=>Q .non H',rt:=Q } (zdo N vs) H) :
  FnOk P w K mg base CX (k+1) f (W.fnOf name qual params body scope dV kV doc pm an cdv ct) ps sp:=by
 refine ⟨len,λ A outer s H args us vs Q E hr e0 hb r hsp=>?_⟩
 have hl:=len _ _ _ _ hsp
 have KX:K.In s.heap:=e0.mod.kin.keeps λ b o e=>(e0.bs b o e).1
 have lim:s.heap.NoLimit:=e0.mod.nolimit.keeps λ b o e=>(e0.bs b o e).1
 have hkind:∀ y∈ps.zip us,scope.names.lookup y.1=some .local ∨ (scope.names.lookup y.1=some .cell∧((cellsFrom (s.heap.objs.size+1) scope.names []).lookup y.1).isSome=true):=λ ⟨n,v⟩ hy=>by
  rcases S.par n (List.of_mem_zip hy).1 with q | q
  ·exact .inl q
  ·exact .inr ⟨q,W.cellsFrom_some _ _ _ (.inl q)⟩
 refine codeAny_call_function hr.depth (KX _ _ lk) rfl S.co S.gen rfl (W.codeRec_of KX hcd) (hb _ _ _ _ ?_)
 refine wpAny_newFunctionEnv_cells S.kind hkind λ env he s1 x=>?_
 subst he
 refine ⟨lim.keeps x.toInCall.keep,codeAny_func ?_⟩
 obtain ⟨t,ht,hq⟩:=hbody A outer s H vs Q E (hr.deeper _) hsp
 have I:Inv (cxOf CX P w K mg base N qual scope f cdv A outer s H E) [] (zdo N vs) H s1:=zvo S hr.hd e0 hl r x
 refine wpAny_mono (ht [] s1 (zdo N vs) H _ I hq) (λ fl s' hs=>?_) λ e s' hs=>hs
 have fin:∀ {σ':St} {H':Hp} {v:V} {u:Value},Inv (cxOf CX P w K mg base N qual scope f cdv A outer s H E) [] σ' H' s'→RelV v u→Q v H'→CE outer P w H s Q u s' :=
  fun {σ' H' v u} J rv q=>⟨v,H',J.os,J.bare,J.base,J.hok,rv,q⟩
 cases fl with
 | ret u =>
  obtain ⟨v,σ',H',J,rv,q⟩:=hs
  exact fin J rv q
 | next =>
  obtain ⟨σ',H',J,q⟩:=hs
  exact fin (v:=V.non) (u:=Value.none) J rfl q
 | brk =>
  obtain ⟨_,_,_,q⟩:=hs
  exact False.elim q
 | cont =>
  obtain ⟨_,_,_,q⟩:=hs
  exact False.elim q
end L2
namespace L2
open PySem PySem.Spec PyProof.Rows
section
variable {X:Cx} {x:Str} {p pos:Pos} {e:Expr} {es:List Expr} {t:TA} {id T:String} {r:List V→Hp→VK→Prop}
noncomputable def tCB (r:List V→Hp→VK→Prop) (t:TA):TE:=λ σ H Q=>t σ H λ vs H1=>r vs H1 Q
theorem zmb (hc:zwi X (.builtin id) r) (hg:Gl X x) (hm:X.mg x=none) (hv:bootBuiltins x=some (.builtin id)) (ha:PA X (e::es) t) (hn:x ≠ "__name__" := by decide) (hdb:(x == ("__debug__" : Str))=false:=by decide)
  (he:starEach (e::es) X.env=(false,eval e X.env)::starEach es X.env:=by rfl) (hpl:(backTo pos (starEach es X.env)).any (·.1)=false:=by rfl):PE X (.Call (.Name x p) (e::es) [] pos) (tCB r t) := .mk <| by
 intro pins s σ H Q I h
 refine wpAny_Call_Name_kw (zwj I hg hm hv ?_ hn hdb)
 exact PyProof.Rows.callWith_builtin1 (thn (ha pos pins s σ H _ I h) λ us s1 ⟨vs,H1,I1,r1,q1⟩=>hc pins s1 σ H1 vs us Q I1 r1 q1) he hpl
theorem zza (hc:zwi X (.type T) r) (hg:Gl X x) (hm:X.mg x=none) (hv:bootBuiltins x=some (.type T)) (ha:PA X (e::es) t) (hn:x ≠ "__name__" := by decide) (hdb:(x == ("__debug__" : Str))=false:=by decide)
  (he:starEach (e::es) X.env=(false,eval e X.env)::starEach es X.env:=by rfl) (hpl:(backTo pos (starEach es X.env)).any (·.1)=false:=by rfl):PE X (.Call (.Name x p) (e::es) [] pos) (tCB r t) := .mk <| by
 intro pins s σ H Q I h
 refine wpAny_Call_Name_kw (zwj I hg hm hv ?_ hn hdb)
 exact PyProof.Rows.callWith_type1 (thn (ha pos pins s σ H _ I h) λ us s1 ⟨vs,H1,I1,r1,q1⟩=>hc pins s1 σ H1 vs us Q I1 r1 q1) he hpl
end
end L2
namespace HT
open PySem PyProof.Rows
section
open PySem.SeqAt
open PySem.AutoSeq1 (wpAny_loadPart')
open PySem.MeetsSeq PySem.MeetsSeq2 PySem.MeetsSeq3
end
section
variable {prog:Program} {w:World} {A:Around} {E:Value→Shared→Prop} {s:Shared}
theorem cat_tup {t b:Addr} {vs ws:List Value} {Q:Value→Shared→Prop} (ht:IsTup s.heap t vs.toArray) (hb:IsTup s.heap b ws.toArray) (hv:vs≠[])
  (h1:ws=[]→Q (.ref t) s) (h2:ws≠[]→Q (.ref s.heap.objs.size) { s with heap:=s.heap.push { cls := .type "tuple",data := .seq (vs++ws).toArray } })
  (hsz:vs.length+ws.length≤sizeLine):wpAny (model prog w) A (binaryOp .Add (.ref t) (.ref b)) Q E s:=by
 obtain ⟨⟨cls,dd,data,sl⟩,ho,hc,n,hd⟩:=id ht
 obtain ⟨⟨cls2,dd2,data2,sl2⟩,ho2,hc2,n2,hd2⟩:=id hb
 simp only at hc hd hc2 hd2
 subst hc hd hc2 hd2
 have e:vs.toArray++ws.toArray=(vs++ws).toArray:=by simp
 by_cases hw:ws=[]
 ·exact concat_meets ⟨_,ho,rfl⟩ ⟨_,ho2,rfl⟩ noFill_tuple_add seq_tuple_add PySem.F.slot_tuple_add PySem.F.entry_tuple_add (PySem.F.args_tuple_add_2 _ _)
   (tuple_addW1 t b vs.toArray ws.toArray n n2 dd dd2 sl sl2 (by simpa using hv) (by simp [hw])) ⟨ho,ho2,h1 hw⟩
 ·refine concat_meets ⟨_,ho,rfl⟩ ⟨_,ho2,rfl⟩ noFill_tuple_add seq_tuple_add PySem.F.slot_tuple_add PySem.F.entry_tuple_add (PySem.F.args_tuple_add_2 _ _)
   (tuple_addW2 t b vs.toArray ws.toArray n n2 dd dd2 sl sl2 (by simpa using hv) (by simpa using hw) (by rw [List.size_toArray,List.size_toArray];exact hsz)) ⟨ho,ho2,?_⟩
  rw [e]
  exact h2 hw
noncomputable def sIx (n d:Nat):Option Int→Nat
 | none=>d
 | some v=>if v<0 then (v+(n:Int)).toNat else min v.toNat n
theorem sIx_none (n d:Nat):sIx n d none=d:=rfl
theorem sIx_nat (n d k:Nat):sIx n d (some (k:Int))=min k n:=by
 show (if (k:Int)<0 then ((k:Int)+(n:Int)).toNat else min (k:Int).toNat n)=min k n
 rw [if_neg (by omega),Int.toNat_natCast]
theorem sIx_le (n d:Nat) (hd:d≤n) (o:Option Int):sIx n d o≤n:=by
 cases o with
 | none=>exact hd
 | some v =>
  show (if v<0 then (v+(n:Int)).toNat else min v.toNat n)≤n
  by_cases hv:v<0
  ·rw [if_pos hv];omega
  ·rw [if_neg hv];exact Nat.min_le_right _ _
theorem zaq (v:Int) (n d:Nat):(if v<0 then max (v+(n:Int)) 0 else min v (n:Int))=((sIx n d (some v):Nat):Int):=by
 show (if v<0 then max (v+(n:Int)) 0 else min v (n:Int))=(((if v<0 then (v+(n:Int)).toNat else min v.toNat n):Nat):Int)
 by_cases hv:v<0
 ·simp only [if_pos hv];omega
 ·simp only [if_neg hv];omega
theorem zbl (lo hi:Option Int) (n:Nat):Builtin.Slice.sliceAdjust lo hi 1 (n:Int)=(((sIx n 0 lo:Nat):Int),((sIx n n hi:Nat):Int)):=by
 have h1:¬ ((1:Int)<0):=by omega
 unfold Builtin.Slice.sliceAdjust
 simp only [h1,if_false]
 refine Prod.ext ?_ ?_
 ·cases lo with
  | none=>rfl
  | some v=>exact zaq v n 0
 ·cases hi with
  | none=>rfl
  | some v=>exact zaq v n n
theorem zil (i j:Nat):Builtin.Slice.slicePlaces (i:Int) (j:Int) 1=j - i:=by
 unfold Builtin.Slice.slicePlaces
 have h1:(1:Int) > 0:=by omega
 simp only [h1,if_true,Int.ediv_one]
 split <;> omega
theorem zeg {v:Value} {o:Option Int} {Q:Option Int→Shared→Prop} (p:IsPart v o) (h:Q o s):wpAny (model prog w) A (Builtin.Slice.slicePartIndex v) Q E s:=by
 cases p with
 | none=>exact slicePart_none h
 | int i t=>exact slicePart_int h
theorem zgc {sl:Addr} {vl vu:Value} {lo hi:Option Int} {n:Nat} {Q:Int×Int×Nat→Shared→Prop} (hs:s.heap.IsSliceOf sl vl vu .none) (pl:IsPart vl lo) (pu:IsPart vu hi)
  (h:Q (((sIx n 0 lo:Nat):Int),1,sIx n n hi - sIx n 0 lo) s):wpAny (model prog w) A (Builtin.Slice.sliceApplied (.ref sl) (pure (n:Int))) Q E s:=by
 obtain ⟨os,hos,hcs,hds⟩:=id hs
 unfold Builtin.Slice.sliceApplied Builtin.Slice.sliceFields
 refine wpAny_bind (wpAny_bind (wpAny_field hos hds (x:=vl) rfl (wpAny_bind (wpAny_field hos hds (x:=vu) rfl (wpAny_bind (wpAny_field hos hds (x := .none) rfl (wpAny_pure ?_)))))))
 refine wpAny_bind (slicePart_none ?_)
 show wpAny _ _ (if ((1:Int) == 0)=true then _ else _) _ _ s
 rw [if_neg (by decide)]
 refine wpAny_bind (zeg pl (wpAny_bind (zeg pu (wpAny_bind (wpAny_pure ?_)))))
 show wpAny _ _ (match Builtin.Slice.sliceAdjust lo hi 1 (n:Int) with | (lo,hi)=>pure (lo,(1:Int),Builtin.Slice.slicePlaces lo hi 1)) _ _ s
 rw [zbl lo hi n]
 show wpAny _ _ (pure (((sIx n 0 lo:Nat):Int),(1:Int),Builtin.Slice.slicePlaces ((sIx n 0 lo:Nat):Int) ((sIx n n hi:Nat):Int) 1)) _ _ s
 rw [zil]
 exact wpAny_pure h
theorem zvr (xs:Array Value) (i k:Nat):((List.range k).filterMap λ (m:Nat)=>xs[((i:Int)+(m:Int) * 1).toNat]?).toArray=((xs.toList.drop i).take k).toArray:=by
 have e:(λ (m:Nat)=>xs[((i:Int)+(m:Int) * 1).toNat]?)=λ m=>xs[i+m]?:=by
  funext m
  have:((i:Int)+(m:Int) * 1).toNat=i+m:=by omega
  rw [this]
 rw [e]
 have:=pick_run xs i k
 rw [List.filterMap_map] at this
 have e2:((λ x=>xs[x]?) ∘ λ x=>i+x)=λ m=>xs[i+m]?:=rfl
 rw [e2] at this
 rw [this]
theorem getItem_tuple_cut {t sl:Addr} {items:Array Value} {vl vu:Value} {lo hi:Option Int} {Q:Value→Shared→Prop} (ht:IsTup s.heap t items) (hs:s.heap.IsSliceOf sl vl vu .none) (pl:IsPart vl lo) (pu:IsPart vu hi)
  (hw:¬ (sIx items.size 0 lo=0∧sIx items.size items.size hi=items.size))
  (h:Q (.ref s.heap.objs.size) { s with heap:=s.heap.push { cls := .type "tuple",data := .seq ((items.toList.drop (sIx items.size 0 lo)).take (sIx items.size items.size hi - sIx items.size 0 lo)).toArray } })
  (hsz:items.size≤sizeLine):wpAny (model prog w) A (getItem (.ref t) (.ref sl)) Q E s:=by
 have htake:sizeOk (.seq ((items.toList.drop (sIx items.size 0 lo)).take (sIx items.size items.size hi - sIx items.size 0 lo)).toArray):=by
  show ((items.toList.drop (sIx items.size 0 lo)).take (sIx items.size items.size hi - sIx items.size 0 lo)).toArray.size≤sizeLine
  rw [List.size_toArray,List.length_take,List.length_drop,Array.length_toList]
  omega
 have hj:sIx items.size items.size hi≤items.size:=sIx_le _ _ (Nat.le_refl _) hi
 obtain ⟨os,hos,hcs,hds⟩:=id hs
 have hTs:s.TypeIs (.ref sl) "slice" := ⟨os,hos,hcs⟩
 unfold getItem
 try with_reducible refine wpAny_holding ?_
 first | refine wpAny_bind (wpAny_pure ?_) | skip
 refine wpAny_bind (wpAny_sequenceKey ht.typeIs (by decide) ?_)
 refine wpAny_bind (wpAny_callSpecial?_slot (name:=Str.ofString "__getitem__") ht.typeIs PyProof.Rows.slot_tuple_getitem
  (wpAny_call_entry PyProof.Rows.slot_tuple_getitem ht.typeIs entry_tuple_getitem ?_ (args_tuple_getitem _ _)))
 show wpAny _ _ (Builtin.Tuple.tupleItemsOf (.ref t) >>= _) _ _ s
 refine wpAny_bind (tupleItemsOf_ ht ?_)
 refine wpAny_bind (wpAny_typeOf hTs ?_)
 rw [if_pos (by decide)]
 refine wpAny_bind (zgc hs pl pu ?_)
 have hno:¬ ((((sIx items.size 0 lo:Nat):Int) == 0 && (1:Int) == 1 && (sIx items.size items.size hi - sIx items.size 0 lo) == items.size)=true):=by
  intro q
  rw [Bool.and_eq_true,Bool.and_eq_true] at q
  have q1:((sIx items.size 0 lo:Nat):Int)=0:=eq_of_beq q.1.1
  have q2:sIx items.size items.size hi - sIx items.size 0 lo=items.size:=eq_of_beq q.2
  exact hw ⟨by omega,by omega⟩
 show wpAny _ _ (if (((sIx items.size 0 lo:Nat):Int) == 0 && (1:Int) == 1 && (sIx items.size items.size hi - sIx items.size 0 lo) == items.size)=true then _ else _) _ _ s
 rw [if_neg hno,zvr]
 first
  | exact wpAny_bind (m:=Builtin.Tuple.tupleExact _) (wpAny_newObj_type (wpAny_pure ⟨_,rfl,wpAny_pure h⟩) htake)
  | exact wpAny_bind (m:=Builtin.Tuple.tupleExact _) (wpAny_newObj_type (wpAny_bind (wpAny_pure (wpAny_pure ⟨_,rfl,wpAny_pure h⟩))) htake)
  | exact wpAny_bind (wpAny_bind (m:=Builtin.Tuple.tupleExact _) (wpAny_newObj_type (wpAny_pure (wpAny_pure ⟨_,rfl,wpAny_pure h⟩)) htake))
  | exact wpAny_bind (wpAny_bind (m:=Builtin.Tuple.tupleExact _) (wpAny_newObj_type (wpAny_pure ⟨_,rfl,wpAny_pure h⟩) htake))
end
end HT
namespace L2
open PySem PySem.Spec PyProof.Rows
noncomputable abbrev TO:=St→Hp→(Option Int→Hp→Prop)→Prop
noncomputable def PO (X:Cx) (e:Option Expr) (t:TO):Prop :=
 ∀ (pins:List (Addr×Obj)) (s:Shared) (σ:St) (H:Hp) (Q:Option Int→Hp→Prop),Inv X pins σ H s→t σ H Q →
  wpAny (model X.prog X.w) X.A (evalPart e X.env) (λ u s'=>∃ o H',Inv X pins σ H' s'∧IsPart u o∧Q o H') X.xe s
noncomputable def zav:TO:=λ _ H Q=>Q none H
noncomputable def zt2 (t:TE):TO:=λ σ H Q=>t σ H λ x H1=>∃ i,x = .int i∧Q (some i) H1
section
variable {X:Cx} {e:Expr} {te:TE} {lo hi:Option Expr} {tl th:TO} {pos p2:Pos}
theorem zud:PO X none zav:=by
 intro pins s σ H Q I h
 rw [evalPart_none]
 exact wpAny_pure ⟨none,H,I,.none,h⟩
theorem zpc (h:PE X e te):PO X (some e) (zt2 te):=by
 intro pins s σ H Q I hw
 rw [evalPart_some]
 refine thn (h pins s σ H _ I hw) λ u s1 ⟨x,H1,I1,r1,q1⟩=>?_
 obtain ⟨i,rfl,q⟩:=q1
 obtain ⟨t,rfl⟩:=r1
 exact ⟨some i,H1,I1,.int i t,q⟩
noncomputable def SlR (X:Cx) (r:V→Option Int→Option Int→Hp→VK→Prop):Prop :=
 ∀ (pins:List (Addr×Obj)) (s:Shared) (σ:St) (H:Hp) (x:V) (v vl vu:Value) (lo hi:Option Int) (sl:Addr) (Q:VK),Inv X pins σ H s→RelV x v→s.heap.IsSliceOf sl vl vu .none→IsPart vl lo→IsPart vu hi→r x lo hi H Q →
  ∃ T id,typeLookup (.type T) "__getitem__" = pure (some (.builtin id))∧s.TypeIs v T∧wpAny (model X.prog X.w) X.A (getItem v (.ref sl)) (EP X pins σ Q) X.xe s
noncomputable def tSl (r:V→Option Int→Option Int→Hp→VK→Prop) (te:TE) (tl th:TO):TE:=λ σ H Q=>te σ H λ x H1=>tl σ H1 λ l H2=>th σ H2 λ u H3=>r x l u H3 Q
theorem zxb {r:V→Option Int→Option Int→Hp→VK→Prop} (hr:SlR X r) (he:PE X e te) (hl:PO X lo tl) (hu:PO X hi th):PE X (.Subscript e (.Slice lo hi none p2) pos) (tSl r te tl th) := .mk <| by
 intro pins s σ H Q I h
 refine Subscript_ (thn (he pins s σ H _ I h) λ v s1 ⟨x,H1,I1,r1,q1⟩=>?_)
 refine wpAny_Slice (thn (hl pins s1 σ H1 _ I1 q1) λ vl s2 ⟨l,H2,I2,pl,q2⟩=>thn (hu pins s2 σ H2 _ I2 q2) λ vu s3 ⟨u,H3,I3,pu,q3⟩=>?_)
 rw [evalPart_none]
 refine wpAny_pure ?_
 have I4:Inv X pins σ H3 { s3 with heap:=s3.heap.push { cls := .type "slice",data := .fields #[vl,vu,.none] } }:=I3.kept (t':=s3.toks) λ b ob q=>Heap.get?_push_of_some _ q
 obtain ⟨T,id,hT,ht,hg⟩:=hr pins { s3 with heap:=s3.heap.push { cls := .type "slice",data := .fields #[vl,vu,.none] } } σ H3 x v vl vu l u s3.heap.objs.size Q I4 r1 (Heap.IsSliceOf.new ..) pl pu q3
 show wpAny (model X.prog X.w) X.A (subscriptTail e (.Slice lo hi none p2) v (.ref s3.heap.objs.size)) (EP X pins σ Q) X.xe { s3 with heap:=s3.heap.push { cls := .type "slice",data := .fields #[vl,vu,.none] } }
 exact tail_any (ops:=[.ref s3.heap.objs.size,v]) ht hT hg (by with_unfolding_all rfl)
noncomputable def cutV (xs:List V) (lo hi:Option Int):List V:=(xs.drop (HT.sIx xs.length 0 lo)).take (HT.sIx xs.length xs.length hi - HT.sIx xs.length 0 lo)
theorem znd (xs:List V) (lo hi:Option Int):(cutV xs lo hi).length≤xs.length:=by
 unfold cutV
 rw [List.length_take,List.length_drop]
 omega
noncomputable def rSlT (K:W.Frag):V→Option Int→Option Int→Hp→VK→Prop:=λ x lo hi H Q=>∃ a xs,x = .ref a∧SqT K H a xs ∧
 ¬ (HT.sIx xs.length 0 lo=0∧HT.sIx xs.length xs.length hi=xs.length)∧∀ p,H p=none→Q (.ref p) (upd H p (.tup (cutV xs lo hi)))
theorem zoz:SlR X (rSlT X.K):=by
 intro pins s σ H x v vl vu lo hi sl Q I rx hs pl pu h
 obtain ⟨a,xs,rfl,hx,hw,q⟩:=h
 cases rx
 obtain ⟨its,r,ht,hz⟩:=I.tuple hx
 have hlen:its.toArray.size=xs.length:=by rw [List.size_toArray];exact r.length.symm
 refine ⟨"tuple",_,PyProof.Rows.slot_tuple_getitem.lookup,ht.typeIs,?_⟩
 refine HT.getItem_tuple_cut ht hs pl pu (by rw [hlen];exact hw) ?_ (by rw [hlen];exact hz)
 rw [hlen]
 refine ⟨.ref s.heap.objs.size,_,I.laid (t':=s.toks) (o := .tup (cutV xs lo hi)) (λ b ob q=>Heap.get?_push_of_some _ q) (Nat.le_refl _) ?_,rfl,q _ (I.hok.fresh (Nat.le_refl _))⟩
 exact ⟨Nat.le_trans (znd xs lo hi) hz,_,(r.drop (HT.sIx xs.length 0 lo)).take (HT.sIx xs.length xs.length hi - HT.sIx xs.length 0 lo),IsTup.new _ _⟩
noncomputable def zx2 (K:W.Frag):R2:=λ x y H Q=>∃ a b xs ys,x = .ref a∧y = .ref b∧SqT K H a xs∧SqT K H b ys∧xs≠[]∧xs.length+ys.length≤sizeLine ∧
 (ys=[]→Q (.ref a) H)∧(ys≠[]→∀ p,H p=none→Q (.ref p) (upd H p (.tup (xs++ys))))
theorem Vals.nil_iff {xs:List V} {us:List Value} (r:Vals xs us):us=[]↔xs=[]:=by
 cases r with
 | nil=>simp
 | cons _ _=>simp
theorem zjt:OpR X (binaryOp .Add) (zx2 X.K):=by
 intro pins s σ H x y v u Q I rx ry h
 obtain ⟨a,b,xs,ys,rfl,rfl,ha,hb,hx,hz,q1,q2⟩:=h
 cases rx
 cases ry
 obtain ⟨its,r1,p1,_⟩:=I.tuple ha
 obtain ⟨its2,r2,p2,_⟩:=I.tuple hb
 refine HT.cat_tup p1 p2 (λ z=>hx (r1.nil_iff.mp z)) (λ z=>⟨.ref a,H,I,rfl,q1 (r2.nil_iff.mp z)⟩) (λ z=>?_) (by rw [← r1.length,← r2.length];exact hz)
 refine ⟨.ref s.heap.objs.size,_,I.laid (t':=s.toks) (o := .tup (xs++ys)) (λ b ob q=>Heap.get?_push_of_some _ q) (Nat.le_refl _) ?_,rfl,q2 (λ w=>z (r2.nil_iff.mpr w)) _ (I.hok.fresh (Nat.le_refl _))⟩
 exact ⟨by rw [List.length_append];exact hz,_,r1.append r2,IsTup.new _ _⟩
end
end L2
namespace L2
open PySem PySem.Spec PyProof.Rows
noncomputable def ixN (n:Nat) (i:Int):Option Nat:=if 0≤i then (if i<n then some i.toNat else none) else if -(n:Int)≤i then some (i+n).toNat else none
noncomputable def atI {α:Type} (xs:List α) (i:Int):Option α:=(ixN xs.length i).bind λ j=>xs[j]?
theorem zqu {n:Nat} {i:Int} {j:Nat} (h:ixN n i=some j):seqIndex? i n=some j∧j<n ∧ -(n:Int)≤i∧i<n:=by
 unfold ixN at h
 by_cases h0:0≤i
 ·rw [if_pos h0] at h
  by_cases h1:i<n
  ·rw [if_pos h1] at h
   have e:i.toNat=j:=Option.some.inj h
   exact ⟨by rw [seqIndex_of h0 h1,e],by omega,by omega,h1⟩
  ·rw [if_neg h1] at h;cases h
 ·rw [if_neg h0] at h
  by_cases h1 : -(n:Int)≤i
  ·rw [if_pos h1] at h
   have e:(i+n).toNat=j:=Option.some.inj h
   exact ⟨by rw [seqIndex_neg (by omega) h1,e],by omega,h1,by omega⟩
  ·rw [if_neg h1] at h;cases h
theorem zkk {α:Type} {xs:List α} {i:Int} {v:α} (h:atI xs i=some v):∃ j,seqIndex? i xs.length=some j∧xs[j]? = some v∧j<xs.length ∧ -(xs.length:Int)≤i∧i<xs.length:=by
 unfold atI at h
 cases e:ixN xs.length i with
 | none=>rw [e] at h;cases h
 | some j =>
  rw [e] at h
  obtain ⟨h1,h2,h3,h4⟩:=zqu e
  exact ⟨j,h1,h,h2,h3,h4⟩
theorem zfg {α:Type} {xs:List α} {j:Nat} {v:α} (h:xs[j]? = some v):atI xs (j:Int)=some v:=by
 have hj:j<xs.length:=(List.getElem?_eq_some_iff.mp h).1
 have e:ixN xs.length (j:Int)=some j:=by
  unfold ixN
  rw [if_pos (by omega),if_pos (by omega)];simp
 unfold atI;rw [e];exact h
theorem zmr {α:Type} (xs:List α) (v:α):atI (xs++[v]) (-1)=some v:=by
 have hl:(xs++[v]).length=xs.length+1:=by simp
 have e:ixN (xs++[v]).length (-1)=some xs.length:=by
  unfold ixN
  rw [hl,if_neg (by decide),if_pos (by omega)]
  congr 1
  omega
 unfold atI
 rw [e]
 show (xs++[v])[xs.length]? = some v
 simp
noncomputable def zdv (b:Expr):Prop:=∀ o i,subscripted b false o i=operate [o,i] (getItem o i)
noncomputable def IxR (X:Cx) (r:R2):Prop :=
 ∀ (value slice:Expr) (pins:List (Addr×Obj)) (s:Shared) (σ:St) (H:Hp) (x y:V) (v u:Value) (Q:VK),Inv X pins σ H s→RelV x v→RelV y u→r x y H Q →
  subscripted slice false v u=operate [v,u] (getItem v u)→wpAny (model X.prog X.w) X.A (subscriptTail value slice v u) (EP X pins σ Q) X.xe s
noncomputable def MtR (X:Cx) (id:String) (r:V→List V→Hp→VK→Prop):Prop :=
 ∀ (pins:List (Addr×Obj)) (s:Shared) (σ:St) (H:Hp) (x:V) (xs:List V) (v:Value) (us:List Value) (Q:VK),Inv X pins σ H s→RelV x v→Vals xs us→r x xs H Q →
  wpAny (model X.prog X.w) X.A (call (.builtin id) (v::us)) (EP X pins σ Q) X.xe s
section
variable {X:Cx} {a b:Expr} {ta tb:TE} {pos:Pos}
theorem zld {r:R2} (hr:IxR X r) (ha:PE X a ta) (hb:PE X b tb) (hs:zdv b):PE X (.Subscript a b pos) (tOp r ta tb) := .mk <| by
 intro pins s σ H Q I h
 exact Subscript_ (binT ha hb I h λ v u s2 x y H2 I2 rx ry q=>hr a b pins s2 σ H2 x y v u Q I2 rx ry q (hs _ _))
noncomputable def rIxL (K:W.Frag):R2:=λ x y H Q=>∃ p xs i v,x = .ref p∧y = .int i∧SqL K H p xs∧atI xs i=some v∧Q v H
noncomputable def rIxT (K:W.Frag):R2:=λ x y H Q=>∃ p xs i v,x = .ref p∧y = .int i∧SqT K H p xs∧atI xs i=some v∧Q v H
noncomputable def rIxS:R2:=λ x y H Q=>∃ z i c,x = .str z∧y = .int i∧z.length≤sizeLine∧atI z.cps.toList i=some c∧Q (.str ⟨#[c]⟩) H
theorem zcf:IxR X (rIxL X.K):=by
 intro value slice pins s σ H x y v u Q I rx ry h hs
 obtain ⟨p,xs,i,z,rfl,rfl,hq,he,q⟩:=h
 cases rx
 obtain ⟨t,rfl⟩:=ry
 obtain ⟨its,r,pl,hz⟩:=I.list hq
 obtain ⟨j,h1,h2,h3,h4,h5⟩:=zkk he
 obtain ⟨w,ew,rw'⟩:=r.get h2
 have hl:=r.length
 have hn:=zpl
 have fin:EP X pins σ Q w s:=⟨z,H,I,rw',q⟩
 by_cases h0:0≤i
 ·have hj:i.toNat=j:=by
   rw [seqIndex_of h0 h5] at h1
   exact Option.some.inj h1
  exact item_listR pl.isList h0 (by omega) (by rw [hj];simpa using ew) fin hs
 ·have hj:(i+(its.toArray.size:Int)).toNat=j:=by
   rw [seqIndex_neg (by omega) h4] at h1
   rw [List.size_toArray,← hl]
   exact Option.some.inj h1
  exact subscriptTail_builtinR (x:=w) pl.isList.typeIs slot_list_getitem.lookup
   (wpAny_getItem_list_neg (Q:=λ r s'=>r=w∧EP X pins σ Q r s') pl.isList (by omega) (by rw [List.size_toArray] <;> omega) (by omega) (by rw [hj];simpa using ew) ⟨rfl,fin⟩) hs
theorem zhd:IxR X (rIxT X.K):=by
 intro value slice pins s σ H x y v u Q I rx ry h hs
 obtain ⟨p,xs,i,z,rfl,rfl,hq,he,q⟩:=h
 cases rx
 obtain ⟨t,rfl⟩:=ry
 obtain ⟨its,r,pl,hz⟩:=I.tuple hq
 obtain ⟨j,h1,h2,h3,h4,h5⟩:=zkk he
 obtain ⟨w,ew,rw'⟩:=r.get h2
 have hl:=r.length
 have hn:=zpl
 have fin:EP X pins σ Q w s:=⟨z,H,I,rw',q⟩
 exact subscriptTail_builtinR (x:=w) pl.typeIs slot_tuple_getitem.lookup
  (getItem_tuple (j:=j) (Q:=λ r s'=>r=w∧EP X pins σ Q r s') pl (by omega) (by omega) (by rw [List.size_toArray,← hl];exact h1) (by simpa using ew) ⟨rfl,fin⟩) hs
theorem zcu:IxR X rIxS:=by
 intro value slice pins s σ H x y v u Q I rx ry h hs
 obtain ⟨z,i,c,rfl,rfl,hz,he,q⟩:=h
 obtain ⟨t,rfl⟩:=rx
 obtain ⟨t',rfl⟩:=ry
 obtain ⟨j,h1,h2,h3,h4,h5⟩:=zkk he
 have hl:z.cps.toList.length=z.length:=by simp [Str.length]
 rw [hl] at h1 h4 h5
 have hn:=zpl
 exact tail_any (typeIs_str s z t) slot_str_getitem.lookup (getItem_str (c:=c) (by
  have e1:decide (i < -(2 ^ 63:Int))=false:=decide_eq_false (by omega)
  have e2:decide (i ≥ 2 ^ 63)=false:=decide_eq_false (by omega)
  rw [e1,e2,Bool.or_false]) (by rw [h1];simpa using h2) ⟨.str ⟨#[c]⟩,H,I.tok _,⟨_,rfl⟩,q⟩) hs
theorem zmh (lo hi:Option Int) (n:Nat):(sliceBounds lo hi none n).1=((HT.sIx n 0 lo:Nat):Int)∧(sliceBounds lo hi none n).2.1=((HT.sIx n n hi:Nat):Int)∧(sliceBounds lo hi none n).2.2=1:=by
 refine ⟨?_,?_,rfl⟩
 ·cases lo with
  | none=>simp [sliceBounds,HT.sIx]
  | some i =>
   simp only [sliceBounds,HT.sIx,Option.getD_none,show (1:Int) > 0 by decide,if_true]
   by_cases h:i<0
   ·simp only [h,if_true] <;> omega
   ·simp only [h,if_false] <;> omega
 ·cases hi with
  | none=>simp [sliceBounds,HT.sIx]
  | some i =>
   simp only [sliceBounds,HT.sIx,Option.getD_none,show (1:Int) > 0 by decide,if_true]
   by_cases h:i<0
   ·simp only [h,if_true] <;> omega
   ·simp only [h,if_false] <;> omega
theorem zyg (its:List Value) (lo hi:Option Int):slicePick its.toArray lo hi none=((its.drop (HT.sIx its.length 0 lo)).take (HT.sIx its.length its.length hi - HT.sIx its.length 0 lo)).toArray:=by
 obtain ⟨h1,h2,h3⟩:=zmh lo hi its.toArray.size
 unfold slicePick
 rw [h1,h2,h3]
 simp only [sliceRange_one,pick_run,List.size_toArray] <;> rfl
noncomputable def rSlL (K:W.Frag):V→Option Int→Option Int→Hp→VK→Prop:=λ x lo hi H Q=>∃ a xs,x = .ref a∧SqL K H a xs∧∀ p,H p=none→Q (.ref p) (upd H p (.lst (cutV xs lo hi)))
theorem ztk:SlR X (rSlL X.K):=by
 intro pins s σ H x v vl vu lo hi sl Q I rx hs pl pu h
 obtain ⟨a,xs,rfl,hx,q⟩:=h
 cases rx
 obtain ⟨its,r,ht,hz⟩:=I.list hx
 have hlen:=r.length
 refine ⟨"list",_,slot_list_getitem.lookup,ht.isList.typeIs,?_⟩
 refine wpAny_getItem_list_slice ht.isList hs pl pu .none (by simp) ?_ (by rw [List.size_toArray] <;> omega)
 rw [zyg,← hlen]
 refine ⟨.ref s.heap.objs.size,_,I.laid (t':=s.toks) (o := .lst (cutV xs lo hi)) (λ b ob q=>Heap.get?_push_of_some _ q) (Nat.le_refl _) ?_,rfl,q _ (I.hok.fresh (Nat.le_refl _))⟩
 exact ⟨Nat.le_trans (znd xs lo hi) hz,_,0,(r.drop (HT.sIx xs.length 0 lo)).take (HT.sIx xs.length xs.length hi - HT.sIx xs.length 0 lo),Heap.get?_push_size _ rfl⟩
noncomputable def zsp:V→Bool
 | .non=>true
 | .bl _=>true
 | .int _=>true
 | .str _=>true
 | _=>false
noncomputable def eqV:V→V→Bool
 | .non,.non=>true
 | .bl a,.bl b=>a == b
 | .bl a,.int b=>(if a then 1 else 0) == b
 | .int a,.bl b=>a == (if b then 1 else 0)
 | .int a,.int b=>a == b
 | .str a,.str b=>a == b
 | _,_=>false
theorem zwx {A:Around} {s:Shared} {y x:V} {u v:Value} (ry:RelV y u) (rx:RelV x v) (fy:zsp y=true) (fx:zsp x=true):SeqAt.EqAt A s u v (eqV y x):=by
 cases y with
 | non =>
  cases ry
  cases x with
  | non=>cases rx;exact SeqAt.EqAt.same _
  | bl b=>cases rx;exact SeqAt.EqAt.none_bool b
  | int b=>obtain ⟨t,rfl⟩:=rx;exact SeqAt.EqAt.none_int b t
  | str b=>obtain ⟨t,rfl⟩:=rx;exact SeqAt.EqAt.none_str b t
  | _=>exact absurd (show false=true from fx) Bool.false_ne_true
 | bl a =>
  cases ry
  cases x with
  | non=>cases rx;exact SeqAt.EqAt.bool_none a
  | bl b=>cases rx;exact SeqAt.EqAt.bool_bool a b
  | int b=>obtain ⟨t,rfl⟩:=rx;exact SeqAt.EqAt.bool_int a b t
  | str b=>obtain ⟨t,rfl⟩:=rx;exact SeqAt.EqAt.bool_str a b t
  | _=>exact absurd (show false=true from fx) Bool.false_ne_true
 | int a =>
  obtain ⟨t',rfl⟩:=ry
  cases x with
  | non=>cases rx;exact SeqAt.EqAt.int_none a t'
  | bl b=>cases rx;exact SeqAt.EqAt.int_bool a t' b
  | int b=>obtain ⟨t,rfl⟩:=rx;exact SeqAt.EqAt.int_int a t' b t
  | str b=>obtain ⟨t,rfl⟩:=rx;exact SeqAt.EqAt.int_str a t' b t
  | _=>exact absurd (show false=true from fx) Bool.false_ne_true
 | str a =>
  obtain ⟨t',rfl⟩:=ry
  cases x with
  | non=>cases rx;exact SeqAt.EqAt.str_none a t'
  | bl b=>cases rx;exact SeqAt.EqAt.str_bool a t' b
  | int b=>obtain ⟨t,rfl⟩:=rx;exact SeqAt.EqAt.str_int a t' b t
  | str b=>obtain ⟨t,rfl⟩:=rx;exact SeqAt.EqAt.str_str a t' b t
  | _=>exact absurd (show false=true from fx) Bool.false_ne_true
 | _=>exact absurd (show false=true from fy) Bool.false_ne_true
noncomputable def eqU (x:V) (u:Value):Bool:=match u with
 | .none=>eqV .non x
 | .bool b=>eqV (.bl b) x
 | .int i _=>eqV (.int i) x
 | .str z _=>eqV (.str z) x
 | _=>false
theorem zsu {x y:V} {u:Value} (r:RelV y u) (f:zsp y=true):eqU x u=eqV y x:=by
 cases y with
 | non=>cases r;rfl
 | bl b=>cases r;rfl
 | int i=>obtain ⟨t,rfl⟩:=r;rfl
 | str z=>obtain ⟨t,rfl⟩:=r;rfl
 | _=>exact absurd (show false=true from f) Bool.false_ne_true
theorem ztg {x:V}:∀ {xs:List V} {us:List Value},Vals xs us→xs.all zsp=true→us.any (eqU x)=xs.any λ y=>eqV y x
 | _,_,.nil,_=>rfl
 | y::xs,u::us,.cons r t,f=>by
  rw [List.all_cons,Bool.and_eq_true] at f
  rw [List.any_cons,List.any_cons,zsu r f.1,ztg t f.2]
theorem zte {A:Around} {s:Shared} {x:V} {v:Value} (rx:RelV x v) (fx:zsp x=true):∀ {xs:List V} {us:List Value},Vals xs us→xs.all zsp=true→∀ u∈us,SeqAt.EqAt A s u v (eqU x u)
 | _,_,.nil,_=>λ u hu=>by cases hu
 | y::xs,u::us,.cons r t,f=>λ u' hu=>by
  rw [List.all_cons,Bool.and_eq_true] at f
  rcases List.mem_cons.mp hu with rfl | hu
  ·rw [zsu r f.1];exact zwx r rx f.1 fx
  ·exact zte rx fx t f.2 u' hu
noncomputable def inV (x:V) (xs:List V):Bool:=xs.any λ y=>eqV y x
noncomputable def rIn (K:W.Frag) (neg:Bool):R2:=λ x y H Q=>∃ p xs,y = .ref p∧(SqL K H p xs ∨ SqT K H p xs)∧zsp x=true∧xs.all zsp=true∧Q (.bl (if neg then !inV x xs else inV x xs)) H
theorem zsn:OpR X (compareOp .In) (rIn X.K false):=by
 intro pins s σ H x y v u Q I rx ry h
 obtain ⟨p,xs,rfl,hq,fx,fs,q⟩:=h
 cases ry
 rcases hq with hq | hq
 ·obtain ⟨its,r,pl,hz⟩:=I.list hq
  refine SeqAt.in_listAt (eqU x) pl.isList (λ w hw=>zte rx fx r fs w (by simpa using hw)) ⟨.bl _,H,I,rfl,?_⟩
  rw [show its.toArray.any (eqU x)=its.any (eqU x) by simp,ztg r fs]
  exact q
 ·obtain ⟨its,r,pl,hz⟩:=I.tuple hq
  refine SeqAt.in_tupleAt (eqU x) pl (λ w hw=>zte rx fx r fs w (by simpa using hw)) ⟨.bl _,H,I,rfl,?_⟩
  rw [show its.toArray.any (eqU x)=its.any (eqU x) by simp,ztg r fs]
  exact q
theorem zee:OpR X (compareOp .NotIn) (rIn X.K true):=by
 intro pins s σ H x y v u Q I rx ry h
 obtain ⟨p,xs,rfl,hq,fx,fs,q⟩:=h
 cases ry
 rcases hq with hq | hq
 ·obtain ⟨its,r,pl,hz⟩:=I.list hq
  refine SeqAt.notIn_listAt (eqU x) pl.isList (λ w hw=>zte rx fx r fs w (by simpa using hw)) ⟨.bl _,H,I,rfl,?_⟩
  rw [show its.toArray.any (eqU x)=its.any (eqU x) by simp,ztg r fs]
  exact q
 ·obtain ⟨its,r,pl,hz⟩:=I.tuple hq
  refine SeqAt.notIn_tupleAt (eqU x) pl (λ w hw=>zte rx fx r fs w (by simpa using hw)) ⟨.bl _,H,I,rfl,?_⟩
  rw [show its.toArray.any (eqU x)=its.any (eqU x) by simp,ztg r fs]
  exact q
theorem zjb:zwi X (.builtin "len") (λ xs H Q=>∃ p ys,xs=[.ref p]∧(SqL X.K H p ys ∨ SqT X.K H p ys)∧Q (.int ys.length) H):=by
 intro pins s σ H xs us Q I r h
 obtain ⟨p,ys,rfl,hq,q⟩:=h
 obtain ⟨u,rfl,rx⟩:=zlq r
 cases rx
 have hn:=zpl
 rcases hq with hq | hq
 ·obtain ⟨its,r',pl,hz⟩:=I.list hq
  have hlen:=r'.length
  exact Calls.call_len_list pl.isList (by simp only [List.size_toArray] <;> omega) ⟨.int ys.length,H,I.tok _,⟨s.toks+1,by rw [List.size_toArray,hlen]⟩,q⟩
 ·obtain ⟨its,r',pl,hz⟩:=I.tuple hq
  have hlen:=r'.length
  exact len_tuple pl (by simp only [List.size_toArray] <;> omega) ⟨.int ys.length,H,I.tok _,⟨s.toks+1,by rw [List.size_toArray,hlen]⟩,q⟩
theorem zph:zwi X (.builtin "len") (λ xs H Q=>∃ z,xs=[.str z]∧z.length≤sizeLine∧Q (.int z.length) H):=by
 intro pins s σ H xs us Q I r h
 obtain ⟨z,rfl,hz,q⟩:=h
 obtain ⟨u,rfl,t,rfl⟩:=zlq r
 have hn:=zpl
 exact len_str (by omega) ⟨.int z.length,H,I.tok _,⟨_,rfl⟩,q⟩
theorem zse:zwi X (.type "list") (λ xs H Q=>∃ p ys,xs=[.ref p]∧(SqL X.K H p ys ∨ SqT X.K H p ys)∧∀ l,H l=none→Q (.ref l) (upd H l (.lst ys))):=by
 intro pins s σ H xs us Q I r h
 obtain ⟨p,ys,rfl,hq,q⟩:=h
 obtain ⟨u,rfl,rx⟩:=zlq r
 cases rx
 have fin:∀ (its:List Value),Vals ys its→ys.length≤sizeLine→∀ (h':Heap) (c':Nat),(∀ b o',s.heap.get? b=some o'→h'.get? b=some o') →
   h'.get? s.heap.objs.size=some { cls := .type "list",dict:=none,data := .seq its.toArray c',slots := #[] }→EP X pins σ Q (.ref s.heap.objs.size) { s with heap:=h' }:=λ its r' hz h' c' kp e =>
  ⟨.ref s.heap.objs.size,_,I.laid (t':=s.toks) kp (Nat.le_refl _) (show ObjOk X.prog X.w _ h' _ (.lst ys) from ⟨hz,its,c',r',e⟩),rfl,q _ (I.hok.fresh (Nat.le_refl _))⟩
 rcases hq with hq | hq
 ·obtain ⟨its,r',pl,hz⟩:=I.list hq
  have hlen:=r'.length
  obtain ⟨o,ho,hc,n,hd⟩:=pl.isList
  exact call_list_seq p (.inl rfl) ho hc hd (λ h' c' kp e=>fin its r' hz h' c' kp e) (by simp only [List.size_toArray] <;> omega)
 ·obtain ⟨its,r',pl,hz⟩:=I.tuple hq
  have hlen:=r'.length
  obtain ⟨o,ho,hc,n,hd⟩:=pl
  exact call_list_seq p (.inr rfl) ho hc hd (λ h' c' kp e=>fin its r' hz h' c' kp e) (by simp only [List.size_toArray] <;> omega)
theorem zkc:zwi X (.type "tuple") (λ xs H Q=>∃ p ys,xs=[.ref p]∧((SqL X.K H p ys∧∀ l,H l=none→Q (.ref l) (upd H l (.tup ys))) ∨ (SqT X.K H p ys∧Q (.ref p) H))):=by
 intro pins s σ H xs us Q I r h
 obtain ⟨p,ys,rfl,h⟩:=h
 obtain ⟨u,rfl,rx⟩:=zlq r
 cases rx
 rcases h with ⟨hq,q⟩ | ⟨hq,q⟩
 ·obtain ⟨its,r',pl,hz⟩:=I.list hq
  have hlen:=r'.length
  refine call_tuple_list pl.isList (λ h' kp=>?_) (by simp only [List.size_toArray] <;> omega)
  have I1:Inv X pins σ H { s with heap:=h' }:=I.kept (t':=s.toks) kp
  have I2:Inv X pins σ (upd H h'.objs.size (.tup ys)) { s with heap:=h'.push { cls := .type "tuple",data := .seq its.toArray } } :=
   I1.laid (t':=s.toks) (λ b o e=>Heap.get?_push_of_some _ e) (Nat.le_refl _) (show ObjOk X.prog X.w _ _ _ (.tup ys) from ⟨hz,its,r',IsTup.new _ _⟩)
  exact ⟨.ref h'.objs.size,_,I2,rfl,q _ (I1.hok.fresh (Nat.le_refl _))⟩
 ·obtain ⟨its,r',pl,hz⟩:=I.tuple hq
  exact call_tuple_same pl ⟨.ref p,H,I,rfl,q⟩
noncomputable def tyV (K:W.Frag) (T:String) (x:V) (H:Hp):Prop:=match x with
 | .str _=>T = "str"
 | .int _=>T = "int"
 | .ref p=>(T = "list" ∧ ∃ xs,SqL K H p xs) ∨ (T = "tuple" ∧ ∃ o,K.lookup p=some o∧o.cls = .type "tuple" ∧ o.dict=none) ∨
   (T = "dict" ∧ ((∃ kvs,H p=some (.dK kvs)) ∨ ∃ kvs,H p=some (.dT kvs))) ∨ (T = "set" ∧ ∃ S n,H p=some (.set S n))
 | _=>False
theorem zqv {pins:List (Addr×Obj)} {σ:St} {H:Hp} {s:Shared} {T:String} {x:V} {v:Value} (I:Inv X pins σ H s) (r:RelV x v) (ty:tyV X.K T x H) :
  s.TypeIs v T∧∀ a,v = .ref a→∃ ob,s.heap.get? a=some ob∧ob.dict=none:=by
 cases x with
 | str z =>
  obtain ⟨t,rfl⟩:=r
  cases (show T = "str" from ty)
  exact ⟨typeIs_str s z t,λ _ e=>nomatch e⟩
 | int i =>
  obtain ⟨t,rfl⟩:=r
  cases (show T = "int" from ty)
  exact ⟨typeIs_int s i t,λ _ e=>nomatch e⟩
 | ref p =>
  cases r
  rcases ty with ⟨rfl,xs,hq⟩ | ⟨rfl,o,hk,hc,hd⟩ | ⟨rfl,hk⟩ | ⟨rfl,S,n,hk⟩
  ·obtain ⟨its,_,pl,_⟩:=I.list hq
   refine ⟨pl.isList.typeIs,λ a e=>?_⟩
   cases e
   obtain ⟨o,n,e,c,hd,_⟩:=pl
   exact ⟨o,e,hd⟩
  ·refine ⟨⟨o,I.kIn p o hk,hc⟩,λ a e=>?_⟩
   cases e
   exact ⟨o,I.kIn _ o hk,hd⟩
  ·have z:∃ o,s.heap.get? p=some o∧o.ExactDict:=by
    rcases hk with ⟨kvs,hk⟩ | ⟨kvs,hk⟩
    ·obtain ⟨_,_,_,_,o,_,_,e,ex,_⟩:=I.hok p _ hk
     exact ⟨o,e,ex⟩
    ·obtain ⟨_,_,_,_,o,_,_,e,ex,_⟩:=I.hok p _ hk
     exact ⟨o,e,ex⟩
   obtain ⟨o,e,ex⟩:=z
   refine ⟨⟨o,e,ex.1⟩,λ a e2=>?_⟩
   cases e2
   exact ⟨o,e,ex.2.1⟩
  ·obtain ⟨o,_,_,_,e,ex,_⟩:=I.hok p _ hk
   refine ⟨⟨o,e,ex.1⟩,λ a e2=>?_⟩
   cases e2
   exact ⟨o,e,ex.2.1⟩
 | _=>exact False.elim ty
noncomputable def tBM0 (K:W.Frag) (T:String) (r:V→List V→Hp→VK→Prop) (to:TE):TE:=λ σ H Q=>to σ H λ x H1=>tyV K T x H1∧r x [] H1 Q
noncomputable def tBM (K:W.Frag) (T:String) (r:V→List V→Hp→VK→Prop) (to:TE) (t:TA):TE:=λ σ H Q=>to σ H λ x H1=>tyV K T x H1∧t σ H1 λ xs H2=>r x xs H2 Q
variable {o e:Expr} {es:List Expr} {to:TE} {t:TA} {name:Str} {apos cpos:Pos} {T id:String} {r:V→List V→Hp→VK→Prop}
theorem zur (pa:PlainAttrs T) (slot:Slot T name id) (hty:typeOf (.builtin id)=pure (.type "method_descriptor")) (hm:MtR X id r) (ho:PE X o to)
  (hbase:attributeBase o name X.env (eval o X.env)=eval o X.env:=by rfl) (hline:(apos.endLine == cpos.line)=true:=by rfl):PE X (.Call (.Attribute o name apos) [] [] cpos) (tBM0 X.K T r to) := .mk <| by
 intro pins s σ H Q I h
 refine wpAny_Call_method0_late hbase hline (thn (ho pins s σ H _ I h) λ v s1 ⟨x,H1,I1,r1,ty,q1⟩=>?_)
 obtain ⟨h1,h2⟩:=zqv I1 r1 ty
 exact ⟨T,id,pa,slot,hty,h1,h2,Calls.callWith_builtin rfl (PySem.evalArgs_none (hm pins s1 σ H1 x [] v [] Q I1 r1 .nil q1))⟩
theorem zxi (pa:PlainAttrs T) (slot:Slot T name id) (hty:typeOf (.builtin id)=pure (.type "method_descriptor")) (hm:MtR X id r) (ho:PE X o to) (ha:PA X (e::es) t)
  (hbase:attributeBase o name X.env (eval o X.env)=eval o X.env:=by rfl)
  (hfew:((backTo cpos (starEach (e::es) X.env)).all (λ x => !x.1) && (backToKw cpos (keywordEach [] X.env)).all (λ x=>x.1.isSome)
   && decide ((e::es).length+([]:List Keyword).length+(if ([]:List Keyword).isEmpty then 0 else 1)<30))=true:=by rfl)
  (hline:(apos.endLine == cpos.line)=true:=by rfl) (hs:starEach (e::es) X.env=(false,eval e X.env)::starEach es X.env:=by rfl) (hplain:(backTo cpos (starEach es X.env)).any (·.1)=false:=by rfl) :
  PE X (.Call (.Attribute o name apos) (e::es) [] cpos) (tBM X.K T r to t) := .mk <| by
 intro pins s σ H Q I h
 refine wpAny_Call_method_late hbase hfew hline rfl (thn (ho pins s σ H _ I h) λ v s1 ⟨x,H1,I1,r1,ty,q1⟩=>?_)
 obtain ⟨h1,h2⟩:=zqv I1 r1 ty
 refine ⟨T,id,pa,slot,hty,h1,h2,?_⟩
 have hA:=ha cpos pins s1 σ H1 _ I1 q1
 rw [hs] at hA ⊢
 refine Calls.callWith_builtin (by show (false || (backTo cpos (starEach es X.env)).any (·.1))=false;rw [hplain] <;> rfl) (Calls.evalArgs_plain ?_)
 exact thn hA λ us s2 ⟨vs,H2,I2,r2,q2⟩=>hm pins s2 σ H2 x vs v us Q I2 r1 r2 q2
/- xs.append(e),list.index on a module's tuple .. are MtR facts of 06m -/
end
end L2
namespace L2
open PySem PySem.Spec PyProof.Rows
noncomputable def MtM (X:Cx) (id:String) (r:V→List V→Hp→VK→Prop):Prop :=
 ∀ (pins:List (Addr×Obj)) (s:Shared) (σ:St) (H:Hp) (x:V) (xs:List V) (v:Value) (us:List Value) (Q:VK),Inv X pins σ H s→RelV x v→Vals xs us→r x xs H Q →
  wpAny (model X.prog X.w) X.A (call (.builtin id) (v::us)) (EP X pins σ Q) X.xe s
theorem Vals.one:∀ {x:V} {us:List Value},Vals [x] us→∃ u,us=[u]∧RelV x u
 | _,_,.cons r .nil=>⟨_,rfl,r⟩
theorem Vals.two:∀ {x y:V} {us:List Value},Vals [x,y] us→∃ u v,us=[u,v]∧RelV x u∧RelV y v
 | _,_,_,.cons r (.cons q .nil)=>⟨_,_,rfl,r,q⟩
theorem Vals.zero:∀ {us:List Value},Vals [] us→us=[]
 | _,.nil=>rfl
theorem Vals.rep {xs:List V} {us:List Value} (h:Vals xs us):∀ k:Nat,Vals (List.replicate k xs).flatten (List.replicate k us).flatten
 | 0=>.nil
 | k+1=>by
  rw [List.replicate_succ,List.replicate_succ,List.flatten_cons,List.flatten_cons]
  exact Vals.append h (Vals.rep h k)
theorem zvi (its:List Value):∀ (k:Nat) (acc:List Value),
  List.foldl (λ x1 x2=>x1++x2) acc.toArray (List.replicate k its.toArray)=(acc++(List.replicate k its).flatten).toArray
 | 0,acc=>by simp
 | k+1,acc=>by
  have e:acc.toArray++its.toArray=(acc++its).toArray:=by simp
  have e2:(acc++its)++(List.replicate k its).flatten=acc++(List.replicate (k+1) its).flatten:=by
   rw [List.replicate_succ,List.flatten_cons,List.append_assoc]
  rw [← e2,← zvi its k (acc++its),← e,List.replicate_succ,List.foldl_cons]
section
variable {X:Cx} {pins:List (Addr×Obj)} {σ:St} {H:Hp} {s:Shared} {l b:Addr} {xs ys zs:List V}
theorem Inv.lset {its its':List Value} {n:Nat} {f:Array Value→Array Value} {t':Nat} (I:Inv X pins σ H s) (hH:H l=some (.lst xs))
  (e:s.heap.get? l=some { cls := .type "list",data := .seq its.toArray n }) (hf:f its.toArray=its'.toArray) (hv:Vals ys its') (hz:ys.length≤sizeLine) :
  Inv X pins σ (upd H l (.lst ys)) { s with heap:=s.heap.update l (Obj.mapSeq f),toks:=t' }:=by
 have q:=PySem.IsL.update e f
 rw [hf] at q
 refine I.write (x:=l) (e:=l) (by rw [hH];exact trivial) (.inl rfl) (λ b' u hb hu=>(Heap.get?_update_other s.heap (Obj.mapSeq f) (Ne.symm hb)).trans hu) ⟨_,q⟩ ?_
 exact ⟨hz,its',_,hv,q⟩
theorem Inv.lnew {its:List Value} {t':Nat} (I:Inv X pins σ H s) (hv:Vals ys its) (hz:ys.length≤sizeLine) :
  Inv X pins σ (upd H s.heap.objs.size (.lst ys)) { s with heap:=s.heap.push { cls := .type "list",data := .seq its.toArray },toks:=t' } :=
 I.laid (λ _ _ q=>Heap.get?_push_of_some _ q) (Nat.le_refl _) ⟨hz,its,0,hv,Heap.get?_push_size _ rfl⟩
theorem Inv.fresh (I:Inv X pins σ H s):H s.heap.objs.size=none:=I.hok.fresh (Nat.le_refl _)
theorem Inv.lstM (I:Inv X pins σ H s) (hH:H l=some (.lst xs)):xs.length≤sizeLine∧∃ (its:List Value) (n:Nat),Vals xs its∧xs.length=its.length∧s.heap.get? l=some { cls := .type "list",data := .seq its.toArray n }:=by
 obtain ⟨z,its,n,r,e⟩:=I.hok l _ hH
 exact ⟨z,its,n,r,r.length,e⟩
theorem zam {n:Nat} (h:n≤sizeLine):Builtin.List.listTooLong n=false:=by
 unfold Builtin.List.listTooLong
 exact decide_eq_false (by omega)
end
section
variable {X:Cx}
noncomputable def zkv:V→List V→Hp→VK→Prop:=λ x vs H Q=>∃ l xs y,x = .ref l∧vs=[y]∧H l=some (.lst xs)∧xs.length<sizeLine∧Q .non (upd H l (.lst (xs++[y])))
theorem zzd:MtM X "list.append" zkv:=by
 intro pins s σ H x vs v us Q I rx rv h
 obtain ⟨l,xs,y,rfl,rfl,hH,hz,q⟩:=h
 cases rx
 obtain ⟨u,rfl,ru⟩:=rv.one
 obtain ⟨z,its,n,r,hl,e⟩:=I.lstM hH
 refine call_meets F.slot_list_append ⟨_,e,rfl⟩ F.entry_list_append (F.args_list_append_2 _ _) (PySem.list_append l its.toArray n u (by rw [List.size_toArray];omega)) ⟨e,?_⟩
 refine ⟨.non,_,I.lset (its':=its++[u]) hH e (by simp) (r.append (.cons ru .nil)) ?_,rfl,q⟩
 rw [List.length_append,List.length_singleton]
 omega
noncomputable def zfx:V→List V→Hp→VK→Prop:=λ x vs H Q=>∃ l xs,x = .ref l∧vs=[]∧H l=some (.lst xs)∧Q .non (upd H l (.lst []))
theorem zhh:MtM X "list.clear" zfx:=by
 intro pins s σ H x vs v us Q I rx rv h
 obtain ⟨l,xs,rfl,rfl,hH,q⟩:=h
 cases rx
 have hus:=rv.zero
 subst hus
 obtain ⟨z,its,n,r,hl,e⟩:=I.lstM hH
 refine call_meets F.slot_list_clear ⟨_,e,rfl⟩ F.entry_list_clear (F.args_list_clear_1 _) (AutoSeq1.list_clear_list_0 l its.toArray n (by rw [List.size_toArray];omega)) ⟨e,?_⟩
 exact ⟨.non,_,I.lset (its':=[]) (ys:=[]) hH e rfl .nil (Nat.zero_le _),rfl,q⟩
noncomputable def rCat:R2:=λ x y H Q=>∃ l b xs zs,x = .ref l∧y = .ref b∧H l=some (.lst xs)∧H b=some (.lst zs)∧xs.length+zs.length≤sizeLine∧∀ p,H p=none→Q (.ref p) (upd H p (.lst (xs++zs)))
theorem zwd:OpR X (binaryOp .Add) rCat:=by
 intro pins s σ H x y v u Q I rx ry h
 obtain ⟨l,b,xs,zs,rfl,rfl,hH,hB,hz,q⟩:=h
 cases rx
 cases ry
 obtain ⟨z,its,n,r,hl,e⟩:=I.lstM hH
 obtain ⟨z2,its2,n2,r2,hl2,e2⟩:=I.lstM hB
 refine PySem.P.add_list e e2 ?_ (by rw [List.size_toArray,List.size_toArray];omega)
 have ea:its.toArray++its2.toArray=(its++its2).toArray:=by simp
 rw [ea]
 exact ⟨.ref _,_,I.lnew (t':=s.toks) (r.append r2) (by rw [List.length_append];omega),rfl,q _ I.fresh⟩
noncomputable def rRep:R2:=λ x y H Q=>∃ l k xs,x = .ref l∧y = .int k∧H l=some (.lst xs) ∧ -(2 ^ 63)≤k∧k<2 ^ 63∧xs.length * k.toNat≤sizeLine ∧
 ∀ p,H p=none→Q (.ref p) (upd H p (.lst (List.replicate k.toNat xs).flatten))
theorem zot {α:Type} (xs:List α) (k:Nat):(List.replicate k xs).flatten.length=k * xs.length:=by
 induction k with
 | zero=>simp
 | succ k ih=>rw [List.replicate_succ,List.flatten_cons,List.length_append,ih,Nat.succ_mul,Nat.add_comm]
theorem zau:OpR X (binaryOp .Mult) rRep:=by
 intro pins s σ H x y v u Q I rx ry h
 obtain ⟨l,k,xs,rfl,rfl,hH,h1,h2,hz,q⟩:=h
 cases rx
 obtain ⟨t,rfl⟩:=ry
 obtain ⟨z,its,n,r,hl,e⟩:=I.lstM hH
 have hlen:its.toArray.size * k.toNat≤sizeLine:=by rw [List.size_toArray,← hl];exact hz
 have hcap:¬ its.toArray.size * k.toNat > (2 ^ 63 - 1) / 8:=by
  have:(sizeLine:Nat)≤(2 ^ 63 - 1) / 8:=by decide
  omega
 have hfit:¬ (!Builtin.List.listFitsIndex k)=true:=by
  rw [fitsIndex_both h1 h2]
  exact Bool.false_ne_true
 have hlong:¬ Builtin.List.listTooLong (its.toArray.size * k.toNat)=true:=by
  rw [zam hlen]
  exact Bool.false_ne_true
 have hnew:List.foldl (λ x1 x2=>x1++x2) #[] (List.replicate (if its.toArray.isEmpty=true then 0 else k.toNat) its.toArray)=(List.replicate k.toNat its).flatten.toArray:=by
  have f0:∀ m:Nat,List.foldl (λ x1 x2=>x1++x2) #[] (List.replicate m its.toArray)=(List.replicate m its).flatten.toArray:=λ m=>by
   have:=zvi its m []
   rw [List.nil_append] at this
   exact this
  rw [f0]
  cases its with
  | nil=>simp
  | cons a r'=>rw [if_neg (by simp)]
 refine wpAny_binaryOp_repeat_ref (T := "list") (U := "int") (by decide) ⟨_,e,rfl⟩ (λ s'=>typeIs_int s' k t) noFill_list_mul F.fills_int_mul F.slot_int_rmul repeat_list F.slot_int_index.lookup
  (call_meets F.slot_int_rmul (typeIs_int s k t) F.entry_int_rmul (F.args_int_rmul_2 _ _) (int___rmul___int_list k t l its.toArray n)
   ⟨e,rfl,⟨_,e,rfl⟩,call_meets F.slot_list_mul ⟨_,e,rfl⟩ F.entry_list_mul (F.args_list_mul_2 _ _) (AutoListH.list___mul___list_int_3 l its.toArray n k t hfit hcap hlong) ⟨e,?_⟩⟩)
 rw [hnew]
 exact ⟨.ref _,_,I.lnew (t':=s.toks) (r.rep k.toNat) (by rw [zot,Nat.mul_comm];exact hz),rfl,q _ I.fresh⟩
end
section
variable {prog:Program} {w:World} {A:Around} {E:Value→Shared→Prop} {s:Shared}
end
section
variable {X:Cx}
end
end L2
namespace Att
open PySem PySem.W PySem.Calls PyProof.Rows
theorem zve {P:Params} {h:Heap}:∀ (ns:List Int) (vs:List Value),WellAll P h vs (ns.map WData.int)→IntsAre vs ns:=by
 intro ns
 induction ns with
 | nil =>
  intro vs w
  rw [List.map_nil] at w
  cases w
  exact .nil
 | cons n ns ih =>
  intro vs w
  rw [List.map_cons] at w
  cases w with
  | cons a b =>
   cases a
   exact .cons _ _ (ih _ b)
theorem zko {l:OpenLaw} {n:Nat} (hn:l.most=some n) {P:Params} {h:Heap} {args:List WData} {vals:List Value}
  (hpre:l.row.toRowW.claim.pre args=true) (hwl:WellAll P h vals args) :
  ∃ a vs ns,vals=[Value.ref a]∧args=[WData.list (ns.map WData.int)]∧h.get? a=some { cls := .type "list",data := .seq vs.toArray }∧IntsAre vs ns∧ns.length≤n:=by
 have hsh:WShape.hasAll [] args [.list .int]=true:=(pre_splitW hpre).1
 have hc:l.pre.holds [] { args:=args }=true:=(pre_splitW hpre).2
 obtain ⟨d,r,rfl,h1,h2⟩:=hasAllW_cons hsh
 obtain rfl:=hasAllW_nil h2
 obtain ⟨xs,rfl,h3⟩:=hasW_list h1
 obtain ⟨ns,rfl⟩:=items_int h3
 have hlen:ns.length≤n:=by
  unfold OpenLaw.pre at hc
  have h4:(WTm.not (.lt (.lit (.int (n:Int))) (.len (.arg 0)))).holds [] { args:=[.list (ns.map .int)] }=true:=by
   have h4:=(holds_andW hc).1
   rw [hn] at h4
   exact h4
  have h5:=condW_of h4 (w_not (w_lt w_lit (w_len_list (w_arg rfl))))
  rw [List.length_map] at h5
  refine Nat.le_of_not_lt λ q=>?_
  have q':(n:Int)<((ns.length:Nat):Int):=by omega
  first
   | (rw [decide_eq_true q'] at h5;exact absurd h5 (by decide))
   | (simp at h5;omega)
 cases hwl with
 | cons w1 w2 =>
  cases w2
  cases w1 with
  | list ho hall=>exact ⟨_,_,ns,rfl,rfl,ho,zve ns _ hall,hlen⟩
theorem zyo (l:OpenLaw) (args:List WData):l.row.toRowW.claim.post args (.bool true) args=true :=
 postW_of (r:=l.row.toRowW) (X:=(true == true))
  (show WShape.has [] (.bool true) .bool=true by first | rfl | decide | simp [WShape.has,WShape.arms,WShape.armsAll])
  (show (WTm.eq .res (.lit (.bool true))).value [] { args:=args,res:=some (.bool true),after:=args }=some (.bool (true == true)) from w_eq_bool (w_res rfl) w_lit) rfl
theorem attach_call {l:OpenLaw} {n:Nat} {q:Program} {loose:List Str} {XP:(Str→Option Value)→Heap→Prop} {YP:World→Heap→Prop} {d:DefRec}
  (hn:l.most=some n) (hdf:d.params.defaults=[])
  (call:∀ (w:World) (s₀ s₁:Shared) (mg mb:Str→Option Value) (fa:Addr) (o:Obj) (pm cd doc:Value) (a:Addr) (vs:List Value) (ns:List Int),
   Ground q loose [] XP w s₀ mg mb s₁.heap→YP w s₁.heap →
   s₁.heap.get? fa=some o→o.data = .func (docDef d.name d.params d.body d.scope pm cd doc)→s₁.heap.CodeRec cd d.name→mg d.name=some (.ref fa) →
   s₁.heap.get? a=some { cls := .type "list",data := .seq vs.toArray }→IntsAre vs ns→ns.length≤n→s₁.gens = #[] →
   codeAny (model l.prog w) callerA (.call (.ref fa) ⟨[.ref a],[]⟩) (λ r s'=>r = .ok (.ret (.bool true))∧OldK s₁.heap s'.heap∧s'.os=s₁.os∧AllBare s'.gens) s₁) :
  WalkO q loose XP YP l.row.toRowW d [] (λ f vs=>PySem.call f vs):=by
 intro w s₀ s₁ mg mb G Y fa o pm cd doc dV kV ho hd hcd hD hmg hg args vals as hpre hlay hrd hwl hlo
 obtain rfl:dV = .none:=Dflts.none hD hdf
 obtain rfl:kV = .none:=Dflts.noKw hD
 obtain ⟨a,vs,ns,rfl,rfl,hobj,hints,hlen⟩:=zko hn hpre hwl
 refine enter_call (codeAny_mono (call w s₀ s₁ mg mb fa o pm cd doc a vs ns G Y ho (fd_plain hd) hcd hmg hobj hints hlen hg) λ r s' hq=>?_)
 obtain ⟨rfl,h2,h3,h4⟩:=hq
 exact ⟨.inl ⟨.bool true,.bool true,[],rfl,λ _=>rfl,.bool true,zyo l _,λ _=>⟨List.Pairwise.nil,λ _ hm=>(nomatch hm)⟩⟩,h2,h3,h4⟩
section
variable {prog:Program} {w:World} {A:Around} {E:Value→Shared→Prop} {s:Shared} {K:Frag}
end
end Att
namespace L2
open PySem PySem.Spec PyProof.Rows
theorem zrj:∀ {vs:List Value} {ns:List Int},IntsAre vs ns→Vals (ns.map V.int) vs
 | _,_,.nil=>.nil
 | _,_,.cons n t h=>.cons ⟨t,rfl⟩ (zrj h)
noncomputable def Only (H:Hp):Prop:=∀ b,H b=none ∨ ∃ o xs,H b=some (.frz o (.lst xs))
theorem zrs {P:Program} {w:World} {K:W.Frag} {mg mb:Str→Option Value} {CX:CXT} {k:Nat} {fa a:Addr} {fd:FuncData} {x:Str} {sp:Sp} {s₁:Shared} {vs:List Value} {ns:List Int}
  (KX:K.In s₁.heap) (hns:s₁.heap.Ns mainGlobals mg) (hb:s₁.heap.Ns builtinsNs mb) (hbb:∀ x:Str,x ≠ "__name__" → mb x=bootBuiltins x) (hlim:s₁.heap.NoLimit) (hg:s₁.gens = #[])
  (ha:s₁.heap.get? a=some { cls := .type "list",data := .seq vs.toArray }) (hi:IntsAre vs ns) (hl:ns.length≤sizeLine) (hr:Room k callerA)
  (F:∀ base:Heap,K.In base→base.Ns mainGlobals mg→FnOk P w K mg base CX k fa fd [x] sp) (hbind:∀ (s:Shared) (u:Value),BindsTo s fd ⟨[u],[]⟩ [(x,u)])
  (hsp:∀ H:Hp,Only H→SqL K H a (ns.map V.int)→sp [.ref a] H (λ v _=>v = .bl true) λ _ _ _=>False)
  (hCX:∀ H e s',CX [] H s₁ (λ _ _ _=>False) e s'→False) :
  codeAny (model P w) callerA (.call (.ref fa) ⟨[.ref a],[]⟩) (λ r s'=>r = .ok (.ret (.bool true))∧OldK s₁.heap s'.heap∧s'.os=s₁.os∧AllBare s'.gens) s₁:=by
 have rv:=zrj hi
 have lenV:=hi.length
 have core:∀ H:Hp,Only H→SqL K H a (ns.map V.int)→HOk P w H s₁.heap→(∀ b,H b≠none→b=a)→(H a≠none→K.lookup a=none) →
   codeAny (model P w) callerA (.call (.ref fa) ⟨[.ref a],[]⟩) (λ r s'=>r = .ok (.ret (.bool true))∧OldK s₁.heap s'.heap∧s'.os=s₁.os∧AllBare s'.gens) s₁:=by
  intro H hO hS hok hA hK
  have base_of:∀ {b:Addr} {o:Obj},s₁.heap.get? b=some o→H b=none→(hidT s₁.heap H).get? b=some o:=λ e n=>zbs e n
  have noA:∀ {b:Addr} {o:Obj} {es:Array DictEntry} {ep:Nat},s₁.heap.get? b=some o→o.data = .dict es ep→H b=none:=fun {b o es ep} e d=>by
   cases q:H b with
   | none=>rfl
   | some u =>
    have e':b=a:=hA b (by rw [q];simp)
    subst e'
    rw [ha] at e;cases e
    have d':Data.seq vs.toArray _=Data.dict es ep:=d
    cases d'
  have nsK:∀ {b:Addr} {m:Str→Option Value},s₁.heap.Ns b m→(hidT s₁.heap H).Ns b m:=fun {b m} ⟨o,es,ep,e,d,r⟩=>⟨o,es,ep,base_of e (noA e d),d,r⟩
  have hKb:K.In (hidT s₁.heap H):=λ b o e=>base_of (KX b o e) (by
   cases q:H b with
   | none=>rfl
   | some u =>
    have e':b=a:=hA b (by rw [q];simp)
    subst e'
    rw [hK (by rw [q];simp)] at e;cases e)
  have hM:Mod K mg (hidT s₁.heap H):=⟨hKb,nsK hns,⟨mb,nsK hb,hbb⟩,let ⟨mc,h1,h2⟩:=hlim; ⟨mc,nsK h1,h2⟩⟩
  have e0:Env0 P w K mg (hidT s₁.heap H) callerA [] s₁ H:=⟨rfl,hM,λ b o e=>zew e,Nat.le_of_eq (zpo _ _),trivial,λ b hb=>absurd (show b∈([]:List Addr) from hb) (by simp),hok,.of_eq hg⟩
  refine codeAny_mono ((F _ hKb (nsK hns)).run callerA [] s₁ H ⟨[.ref a],[]⟩ [.ref a] [.ref a] _ _ hr e0 (hbind s₁ (.ref a)) (.cons rfl .nil) (hsp H hO hS)) λ r s' h=>?_
  cases r with
  | error e=>exact (hCX H e s' h).elim
  | ok fl =>
   cases fl with
   | next=>exact False.elim h
   | brk=>exact False.elim h
   | cont=>exact False.elim h
   | ret u =>
    obtain ⟨v,H',os,bare,un,hok',r',q⟩:=h
    have q':v = .bl true:=q
    subst q'
    obtain rfl:u=Value.bool true:=r'
    refine ⟨rfl,OldK.of_keep λ b o e=>?_,os,bare⟩
    cases q:H b with
    | none=>exact un.keep b o e q (by intro z;exact absurd (show b∈([]:List Addr) from z) (by simp)) (by simp)
    | some u =>
     rcases hO b with z | ⟨ob,xs,z⟩
     ·rw [q] at z;cases z
     ·have z2:=un.frzs b ob _ z
      obtain ⟨e1,_⟩:=hok b _ z
      obtain ⟨e2,_⟩:=hok' b _ z2
      rw [e] at e1;cases e1
      exact e2
 cases hk:K.lookup a with
 | some o =>
  have e:=KX a o hk
  rw [ha] at e
  cases e
  refine core (λ _=>none) (λ _=>.inl rfl) (.inr ⟨_,vs.toArray,_,hk,rfl,rfl,rfl,by rw [List.size_toArray,lenV];exact hl,by simpa using rv⟩) (λ b u z=>by have z':(none:Option HO)=some u:=z;cases z') (λ b z=>absurd rfl z) λ z=>absurd rfl z
 | none =>
  refine core (λ b=>if b=a then some (.frz { cls := .type "list",data := .seq vs.toArray } (.lst (ns.map V.int))) else none) (λ b=>?_) (.inl (.inr ⟨{ cls := .type "list",data := .seq vs.toArray },if_pos rfl⟩)) (λ b u z=>?_) (λ b z=>?_) λ _=>hk
  ·by_cases hb:b=a
   ·exact .inr ⟨_,_,if_pos hb⟩
   ·exact .inl (if_neg hb)
  ·by_cases hb:b=a
   ·have z':=(if_pos hb).symm.trans z
    cases z'
    subst hb
    exact ⟨ha,by rw [List.length_map];exact hl,vs,_,rv,ha⟩
   ·have z':=(if_neg hb).symm.trans z
    cases z'
  ·by_cases hb:b=a
   ·exact hb
   ·exact absurd (if_neg hb) z
end L2
namespace L2
open PySem PySem.Spec PyProof.Rows
theorem walk_of {l:W.OpenLaw} {n k:Nat} {q:Program} {loose:List Str} {XP:(Str→Option Value)→Heap→Prop} {YP:World→Heap→Prop} {d:DefRec} {K:Params→W.Frag} {CX:World→CXT} {sp:World→Sp} {x:Str}
  (hn:l.most=some n) (hn2:n≤sizeLine) (hdf:d.params.defaults=[]) (hr:Room k callerA)
  (hY:∀ (w:World) (h:Heap),YP w h→(K w.params).In h)
  (F:∀ (w:World) (mg:Str→Option Value) (fa:Addr) (h:Heap),(K w.params).In h→h.Ns mainGlobals mg→mg d.name=some (.ref fa) →
   ∃ fd:FuncData,(∀ (s:Shared) (u:Value),BindsTo s fd ⟨[u],[]⟩ [(x,u)]) ∧
    ∀ base:Heap,(K w.params).In base→base.Ns mainGlobals mg→FnOk l.prog w (K w.params) mg base (CX w) k fa fd [x] (sp w))
  (hsp:∀ (w:World) (H:Hp) (a:Addr) (ns:List Int),ns.length≤n→Only H→SqL (K w.params) H a (ns.map V.int)→sp w [.ref a] H (λ v _=>v = .bl true) λ _ _ _=>False)
  (hCX:∀ (w:World) (H:Hp) (s:Shared) (e:Value) (s':Shared),CX w [] H s (λ _ _ _=>False) e s'→False) :
  W.WalkO q loose XP YP l.row.toRowW d [] (λ f vs=>PySem.call f vs):=by
 refine Att.attach_call hn hdf λ w s₀ s₁ mg mb fa o pm cd doc a vs ns G Y ho hd hcd hmg hobj hints hlen hg=>?_
 have KX:=hY w _ Y
 obtain ⟨fd,hb,hF⟩:=F w mg fa _ KX G.T.g hmg
 exact zrs KX G.T.g G.T.b G.T.builtins G.T.nolimit hg hobj hints (Nat.le_trans hlen hn2) hr hF hb (λ H hO hS=>hsp w H a ns hlen hO hS) λ H e s'=>hCX w H s₁ e s'
end L2
/- THE LAST THEOREM (shape;LID,My.* are yours):
   My.Adr: a structure of the addresses that your layer names (classes,functions);My.Txt K t: a structure (Prop) of the equations over K;
   My.txt_mk:{K} {implicit addresses ..} (e1:nsIn K mainGlobals "law" = some (some (.ref f))) (e2:K.lookup f=some ⟨oc,od,.func (fnOf "law" "law" params body scope dV kV doc pm an cdv ct),sl⟩) (e3:codeIn K cdv "law" = true) .. : ∃ t,My.Txt K t
set_option maxRecDepth 100000 in
set_option maxHeartbeats 0 in
theorem PySem.Challenge.cw_LID_holds : PySem.Challenge.rw_LID.Holds := by
 w_on;o_law;k_head; (case hw=>w_witness2)
 k_fill
 refine L2.walk_of (l:=PySem.Challenge.rw_LID) (n:=63) (k:=40) (x := "script") (CX:=λ w=>..) (sp:=λ _=>My.sp_law) rfl (by decide) rfl ⟨rfl,by decide,by decide⟩ (λ w h Y=>W.kIn_of Y) ?F ?S ?C
 case F =>
  intro w mg fa h KX G hmg
  have T:∃ t,My.Txt (L2.KOf KX) t:=by
   dsimp only [L2.KOf]                          -- K must stand as «<heap const> w.params» for k_is
   refine' My.txt_mk ?e1 ?e2 ?e3 ..
   (case e1=>W.k_is)                    -- in the order: a name -> its address -> its object -> its parts
   (case e2=>W.k_is)
   ..
  obtain ⟨t,T⟩:=T
  have e0:=hmg.symm.trans (W.mg_of KX G T.law)
  cases e0                                       -- fa is the law's own address
  exact ⟨_,λ s u=>.of_eq rfl,λ base kb nb=>My.law_fn T kb nb⟩     -- if «.of_eq rfl» comes too early: refine' ⟨_,?b,λ base kb nb=>My.law_fn T kb nb⟩;exact λ s u=>.of_eq rfl
 case S=>exact λ w H a ns hl hO hS=>..
 case C=>exact ..
(the tactic k_is has no namespace: write k_is) -/
namespace L2
open PySem PySem.Spec PyProof.Rows
noncomputable def zah (s:Stmt):Arguments:=match s with
 | .FunctionDef _ a _ _ _ _ _ _ _ _=>a
 | _=>{ posonlyargs:=[],args:=[],vararg:=none,kwonlyargs:=[],kw_defaults:=[],kwarg:=none,defaults:=[] }
noncomputable def zle (s:Stmt):List Stmt:=match s with
 | .FunctionDef _ _ b _ _ _ _ _ _ _=>b
 | _=>[]
noncomputable def zha (s:Stmt):Scope:=match s with
 | .FunctionDef _ _ _ _ _ _ sc _ _ _=>sc
 | _=>{ kind := .function,names:=[],isGenerator:=false,isCoroutine:=false }
noncomputable abbrev E0:XK:=λ _ _ _=>False
structure Fun (K:W.Frag) (x qual:Str) (st:Stmt) (f:Addr) (fd:FuncData):Prop where
 ex:∃ (oc:Value) (od:Option Addr) (kV doc pm:Value) (an:Option Addr) (cdv ct:Value) (osl:Array (Option Value)),
  fd=W.fnOf x qual (zah st) (zle st) (zha st) .none kV doc pm an cdv ct∧K.lookup f=some ⟨oc,od,.func fd,osl⟩∧W.codeIn K cdv qual=true
 kp:W.keepIn K (.ref f)=true
section
variable {P:Program} {w:World} {K:W.Frag} {mg:Str→Option Value} {base:Heap}
theorem Fun.binds {x qual:Str} {st:Stmt} {f:Addr} {fd:FuncData} {ps:List Str} (F:Fun K x qual st f fd)
  (h:∀ (kV doc pm:Value) (an:Option Addr) (cdv ct:Value) (us:List Value),us.length=ps.length→bindArgs (W.fnOf x qual (zah st) (zle st) (zha st) .none kV doc pm an cdv ct) ⟨us,[]⟩=pure (ps.zip us)):Binds K fd ps []:=by
 obtain ⟨oc,od,kV,doc,pm,an,cdv,ct,osl,rfl,lk,hcd⟩:=F.ex
 exact .all (h kV doc pm an cdv ct)
theorem fun_mk {x qual:Str} {st:Stmt} {f:Addr} {oc:Value} {od an:Option Addr} {osl:Array (Option Value)} {kV doc pm cdv ct:Value} (l:K.lookup f=some ⟨oc,od,.func (W.fnOf x qual (zah st) (zle st) (zha st) .none kV doc pm an cdv ct),osl⟩)
  (c:W.codeIn K cdv qual=true) (k:W.keepIn K (.ref f)=true):Fun K x qual st f (W.fnOf x qual (zah st) (zle st) (zha st) .none kV doc pm an cdv ct):=⟨⟨oc,od,kV,doc,pm,an,cdv,ct,osl,rfl,l,c⟩,k⟩
end
theorem zf2 {A:Around} {k:Nat} (hr:Room k A):A.units+1<cLine:=Nat.lt_of_le_of_lt (Nat.add_le_add_left (by decide:1≤64) _) hr.units
theorem zyd {n:Nat} (h:n≤1000):n<sizeLine:=Nat.lt_of_le_of_lt h (by decide)
section
variable {X:Cx}
theorem pv (i:Nat) {x:Str} {pos:Pos} (hN:X.N[i]? = some x:=by rfl) (hv:Vis X.env.scope x:=by first | exact Or.inl rfl | exact Or.inr (Or.inl rfl) | exact Or.inr (Or.inr rfl)) (hd:(x == ("__debug__" : Str))=false:=by decide)
  (hcd:(x == ("__classdict__" : Str))=false:=by decide):PE X (.Name x pos) (tVar i):=zcx hN hv hd hcd
end
theorem iteF {A B:Prop} (h:B):if false=true then A else B:=by
 rw [if_neg Bool.false_ne_true]
 exact h
theorem iteT {A B:Prop} (h:A):if true=true then A else B:=by
 rw [if_pos rfl]
 exact h
noncomputable def Same (H H':Hp):Prop:=∀ b o,H b=some o→H' b=some o
theorem Same.refl (H:Hp):Same H H:=λ _ _ h=>h
theorem Same.trans {H H1 H2:Hp} (a:Same H H1) (b:Same H1 H2):Same H H2:=λ c o h=>b c o (a c o h)
theorem Same.free {H H':Hp} (e:Same H H') {l:Addr} (h:H' l=Option.none):H l=Option.none:=by
 cases q:H l with
 | none=>rfl
 | some o =>
  rw [e l o q] at h
  cases h
theorem Same.seq {K:W.Frag} {H H':Hp} {a:Addr} {xs:List V} (e:Same H H') (h:SqL K H a xs):SqL K H' a xs:=by
 rcases h with (h | ⟨o,h⟩) | h
 ·exact .inl (.inl (e _ _ h))
 ·exact .inl (.inr ⟨o,e _ _ h⟩)
 ·exact .inr h
end L2
namespace L2
open PySem PySem.Spec PyProof.Rows
section
variable {X:Cx} {pins:List (Addr×Obj)} {σ:St} {H:Hp} {s:Shared} {h':Heap}
theorem Inv.turnLay {t':Nat} {ch:List Addr} {T:Addr} {o:HO} (I:Inv X pins σ H s) (hf:∀ b∈ch,FpOk X pins H b)
  (k:∀ b u,b∉ch→s.heap.get? b=some u→h'.get? b=some u) (hT:s.heap.objs.size≤T)
  (new:ObjOk X.prog X.w (upd H T o) h' T o):Inv X pins σ (upd H T o) { s with heap:=h',toks:=t' }:=by
 have hn:H T=none:=I.hok.fresh hT
 have nT:∀ b u,s.heap.get? b=some u→b≠T:=λ b u e=>Nat.ne_of_lt (Nat.lt_of_lt_of_le (Heap.lt_size e) hT)
 have nch:∀ b u,H b=some u→b∉ch:=λ b u e hb=>by rw [(hf b hb).1] at e;cases e
 have nTH:∀ b u,H b=some u→b≠T:=λ b u e=>zeb e hn
 refine I.step (g':=s.gens) (d':=s.drawn) (ch:=ch) (λ b hb=>?_) (λ b o _ _ hc e _=>k b o hc e) (λ b o _ _ hc e _=>⟨o.slots,k b o hc e⟩)
  (λ b u hc e n=>by rw [zta (nT b u e)];exact n) (λ b u hc e=>⟨u,k b u hc e⟩) (λ b xs e=>by rw [zta (nTH b _ e)];exact e) (λ b o' u e=>by rw [zta (nTH b _ e)];exact e)
  (λ b ps e=>⟨#[],by rw [zta (nTH b _ e),e];simp⟩) (λ m hm=>?_) (λ b u e=>?_) I.bare
 ·obtain ⟨f0,f1,f2,f3,f4,f5⟩:=hf b hb
  exact ⟨f3,f1,f4,f5⟩
 ·obtain ⟨ob,es,ep,ho,r⟩:=hm
  exact ⟨ob,es,ep,k _ ob (λ z=>(hf _ z).2.1 rfl) ho,r⟩
 ·by_cases hb:b=T
  ·subst hb;rw [upd_same] at e;cases e;exact new
  ·rw [zta hb] at e
   refine (I.hok b u e).stay (λ c v hc q=>k c v ?_ q) (λ c q=>by rw [zta (nTH c _ q)];exact q) λ c xs q=>by rw [zta (nTH c _ q)];exact q
   rcases hc with z | z
   ·rw [z];exact nch b u e
   ·exact nch c _ z
theorem Inv.turnedL {t':Nat} {ch:List Addr} (I:Inv X pins σ H s) (hf:∀ b∈ch,FpOk X pins H b)
  (k:∀ b u,b∉ch→s.heap.get? b=some u→h'.get? b=some u):Inv X pins σ H { s with heap:=h',toks:=t' }:=by
 have nch:∀ b u,H b=some u→b∉ch:=λ b u e hb=>by rw [(hf b hb).1] at e;cases e
 refine I.step (g':=s.gens) (d':=s.drawn) (ch:=ch) (λ b hb=>?_) (λ b o _ _ hc e _=>k b o hc e) (λ b o _ _ hc e _=>⟨o.slots,k b o hc e⟩)
  (λ b u hc e n=>n) (λ b u hc e=>⟨u,k b u hc e⟩) (λ b xs e=>e) (λ b o' u e=>e)
  (λ b ps e=>⟨#[],by rw [e];simp⟩) (λ m hm=>?_) (λ b u e=>?_) I.bare
 ·obtain ⟨f0,f1,f2,f3,f4,f5⟩:=hf b hb
  exact ⟨f3,f1,f4,f5⟩
 ·obtain ⟨ob,es,ep,ho,r⟩:=hm
  exact ⟨ob,es,ep,k _ ob (λ z=>(hf _ z).2.1 rfl) ho,r⟩
 ·refine (I.hok b u e).stay (λ c v hc q=>k c v ?_ q) (λ c q=>q) λ c xs q=>q
  rcases hc with z | z
  ·rw [z];exact nch b u e
  ·exact nch c _ z
end
noncomputable def Its (x:Str):It:=⟨λ i _=>i<x.cps.size,λ i H v H'=>H'=H∧∃ c,x.cps[i]? = some c∧v = .str ⟨#[c]⟩,λ i _=>i=x.cps.size⟩
theorem zim {P:Program} {w:World} {K:W.Frag} {tg:Expr} {x:Str} {it:Addr} {n:String} {t:Tok} (hn:n = "str_ascii_iterator" ∨ n = "str_iterator")
  (W:∀ A':Around,A'.handled=none→Walks P w A' it [it] [it] x.cps.size (SignAt x) (λ i h=>h.IsStrIter it n x t i))
  (hs:∀ (A:Around) (i:Nat) (s:Shared) (Q:Value→Shared→Prop) (E:Value→Shared→Prop),s.heap.IsStrIter it n x t i→Q (.ref it) s→wpAny (model P w) A (pyIter (.ref it)) Q E s) :
  Turn P w K tg (Its x) [it] it (λ i h=>h.IsStrIter it n x t i) where
 mem:=by simp
 obj:=λ i h st b hb=>by
  have e:b=it:=by simpa using hb
  subst e
  obtain ⟨o,e,c,d⟩:=st
  exact ⟨o,e,λ v z=>by rw [d] at z;cases z⟩
 keep:=λ i h h' st k=>let ⟨o,ho,r⟩:=st; ⟨o,k it (by simp) o ho,r⟩
 item:=by
  intro X hP hw hK hc i pins s σ H E I hf st hg
  subst hP hw hK
  refine (W X.A (I.ok.hd hc)).item i s _ _ hg st λ v h' tk hv st' kk=>?_
  obtain ⟨c,u,hx,rfl⟩:=hv
  have I1:Inv X pins σ H { s with heap:=h',toks:=tk }:=I.turnedL hf kk
  obtain ⟨o,e,c',d⟩:=id st'
  refine ⟨_,rfl,zyw (s:={ s with heap:=h',toks:=tk }) e c' d (by rcases hn with rfl | rfl <;> decide) ⟨.str ⟨#[c]⟩,H,I1,⟨u,rfl⟩,⟨rfl,c,hx,rfl⟩,st',λ b hb=>(hf b hb).1⟩⟩
 done:=by
  intro X hP hw hK hc i pins s σ H E I hf st hg
  subst hP hw hK
  have e:i=x.cps.size:=hg
  subst e
  exact (W X.A (I.ok.hd hc)).done s _ _ st λ h' tk kk=>⟨rfl,I.turnedL hf kk⟩
 self:=hs
section
variable {X:Cx} {tg:Expr}
noncomputable def iStr (tl:TE):TI:=λ σ H R=>tl σ H λ x H1=>∃ z,x = .str z∧R (Its z) H1
theorem zex {l:Expr} {tl:TE} (hl:PE X l tl):PI X tg l (iStr tl) := .mk <| by
 intro pins s σ H R I h
 refine thn (hl pins s σ H _ I h) λ v s1 ⟨x,H1,I1,r1,q1⟩=>?_
 obtain ⟨z,e,q⟩:=q1
 subst e
 obtain ⟨t,rfl⟩:=r1
 have fpo:∀ b∈[s1.heap.objs.size],FpOk X pins H1 b:=λ b hb=>by
  have e:b=s1.heap.objs.size:=by simpa using hb
  subst e
  exact I1.fpOk (Nat.le_refl _) (I1.hok.fresh (Nat.le_refl _))
 cases ha:z.cps.all (· < 128)
 ·exact wpAny_pyIter_wide ha ⟨s1.heap.objs.size,[s1.heap.objs.size],_,_,H1,rfl,I1.kept (t':=s1.toks) λ b o e=>Heap.get?_push_of_some _ e,
   zim (n := "str_iterator") (t:=t) (.inr rfl) (λ A' hA=>Walks.strWide hA _ z t) (λ A i s Q E st h=>wpAny_pyIter_striter_wide st h),⟨_,Heap.get?_push_size _ rfl,rfl,rfl⟩,fpo,q⟩
 ·exact wpAny_pyIter_ascii ha ⟨s1.heap.objs.size,[s1.heap.objs.size],_,_,H1,rfl,I1.kept (t':=s1.toks) λ b o e=>Heap.get?_push_of_some _ e,
   zim (n := "str_ascii_iterator") (t:=t) (.inl rfl) (λ A' hA=>Walks.strAscii hA _ z t) (λ A i s Q E st h=>wpAny_pyIter_striter_ascii st h),⟨_,Heap.get?_push_size _ rfl,rfl,rfl⟩,fpo,q⟩
end
noncomputable def Ite (K:W.Frag) (a:Addr):It :=
 ⟨λ i H=>∃ xs x,SqL K H a xs∧xs[i]? = some x,λ i H v H'=>∃ T y,v = .ref T∧H T=none∧H'=upd H T (.tup [.int i,y])∧∀ xs,SqL K H a xs→xs[i]? = some y,λ i H=>∃ xs,SqL K H a xs∧xs.length≤i⟩
theorem zuo {P:Program} {w:World} {K:W.Frag} {elts:List Expr} {kk:Nat} {tp:Pos} (a e it:Addr) (hne:e≠it) :
  Turn P w K (.Tuple elts kk tp) (Ite K a) [e,it] e (λ i h=>(∃ old,IsEnum h e it (i:Nat) old)∧h.IsListIter it a i) where
 mem:=by simp
 obj:=λ i h st b hb=>by
  obtain ⟨⟨old,he⟩,o,e',c,d⟩:=st
  have:b=e ∨ b=it:=by simpa using hb
  rcases this with rfl | rfl
  ·exact ⟨_,he,λ v z=>nomatch z⟩
  ·exact ⟨o,e',λ v z=>by rw [d] at z;cases z⟩
 keep:=λ i h h' st k=>⟨let ⟨old,he⟩:=st.1; ⟨old,k e (by simp) _ he⟩,st.2.at λ o q=>k it (by simp) o q⟩
 item:=by
  intro X hP hw hK hc i pins s σ H E I hf st hg
  subst hP hw hK
  obtain ⟨⟨old,he⟩,hit⟩:=st
  obtain ⟨xs,x,hq,hx⟩:=hg
  obtain ⟨its,rv,p,hz⟩:=I.list hq
  obtain ⟨u,hu,ru⟩:=rv.get hx
  have helt:e<s.heap.objs.size:=Heap.lt_size he
  refine wpAny_pyNext_enum_item he hit p.isList (x:=u) (by simpa using hu) hne λ h1 heo hit1 ht1 hz1 hk1=>?_
  refine ⟨_,rfl,wpAny_letOwnedTupleGo_enum heo λ h2 he2 hs2=>?_⟩
  have hT2:h2.get? s.heap.objs.size=some { cls := .type "tuple",data := .seq #[.int i s.toks,u] }:=(hs2.2 _ (Nat.ne_of_gt helt)).trans ht1
  have I2:Inv X pins σ (upd H s.heap.objs.size (.tup [.int i,x])) { s with heap:=h2,toks:=s.toks+1 }:=by
   refine I.turnLay (ch:=[e,it]) hf (λ b o hb q=>?_) (Nat.le_refl _) ?_
   ·have n1:b≠e:=λ z=>hb (by simp [z])
    have n2:b≠it:=λ z=>hb (by simp [z])
    exact (hs2.2 b n1).trans (hk1 b o n1 n2 q)
   ·exact ⟨by show 2≤sizeLine;decide,[.int i s.toks,u],.cons ⟨_,rfl⟩ (.cons ru .nil),⟨_,hT2,rfl,_,rfl⟩⟩
  have hn:H s.heap.objs.size=none:=I.hok.fresh (Nat.le_refl _)
  refine ⟨.ref s.heap.objs.size,_,I2,rfl,⟨_,x,rfl,hn,rfl,λ ys hy=>by rw [I.list_inj hy hq];exact hx⟩,⟨⟨u,by simpa using he2⟩,hit1.at λ o q=>(hs2.2 it (Ne.symm hne)).trans q⟩,λ b hb=>?_⟩
  have hb':b<s.heap.objs.size:=by
   have:b=e ∨ b=it:=by simpa using hb
   rcases this with rfl | rfl
   ·exact helt
   ·obtain ⟨o,q,_⟩:=hit;exact Heap.lt_size q
  rw [zta (Nat.ne_of_lt hb')]
  exact (hf b hb).1
 done:=by
  intro X hP hw hK hc i pins s σ H E I hf st hg
  subst hP hw hK
  obtain ⟨⟨old,he⟩,hit⟩:=st
  obtain ⟨xs,hq,hx⟩:=hg
  obtain ⟨its,rv,p,hz⟩:=I.list hq
  have hl:=rv.length
  exact wpAny_pyNext_enum_end (I.ok.hd hc) he hit p.isList (by simp;omega) λ h' eb=>⟨rfl,I.turnedL (t':=s.toks) hf λ b o hb q=>eb b o (λ z=>hb (by simp [z])) q⟩
 self:=λ A i s Q E st h=>by
  obtain ⟨⟨old,he⟩,hit⟩:=st
  have hT:s.TypeIs (.ref e) "enumerate" := ⟨_,he,rfl⟩
  refine wpAny_pyIter_slot hT F.slot_enumerate_iter (wpAny_call_entry F.slot_enumerate_iter hT F.entry_enumerate_iter ?_ (F.args_enumerate_iter_1 _))
  show wpAny _ _ (ret (.ref e)) _ _ s
  exact wpAny_pure ⟨_,rfl, "enumerate",_,hT,F.slot_enumerate_next.lookup,h⟩
end L2
namespace L2
open PySem PySem.Spec PyProof.Rows
section
variable {X:Cx}
noncomputable def zn4 (K:W.Frag) (ta:TA):TI:=λ σ H R=>ta σ H λ vs H1=>∃ a,vs=[.ref a]∧(∃ xs,SqL K H1 a xs)∧R (Ite K a) H1
theorem zdt {elts:List Expr} {kk:Nat} {tp:Pos} {a:Expr} {ta:TA} {p pos:Pos} (hg:Gl X "enumerate") (hm:X.mg "enumerate" = none) (hb:bootBuiltins "enumerate" = some (.type "enumerate")) (ha:PA X [a] ta) (hs:starEach [a] X.env=[(false,eval a X.env)]:=by rfl) :
  PI X (.Tuple elts kk tp) (.Call (.Name "enumerate" p) [a] [] pos) (zn4 X.K ta) := .mk <| by
 intro pins s σ H R I h
 refine Call_ (zwj I hg hm hb (PyProof.Rows.callWith_type1 (thn (ha pos pins s σ H _ I h) λ us s1 ⟨vs,H1,I1,r1,q1⟩=>?_) hs rfl))
 obtain ⟨b,e,⟨xs,hq⟩,q⟩:=q1
 subst e
 cases r1 with
 | cons r rr =>
  cases rr
  cases r
  obtain ⟨its,rv,pl,hz⟩:=I1.list hq
  refine call_enumerate_list pl.isList λ h' he hi hsz hk=>?_
  have I2:Inv X pins σ H1 { s1 with heap:=h' }:=I1.kept (t':=s1.toks) hk
  have T:=zuo (P:=X.prog) (w:=X.w) (K:=X.K) (elts:=elts) (kk:=kk) (tp:=tp) b (s1.heap.objs.size+1) s1.heap.objs.size (Nat.succ_ne_self _)
  have t0:(∃ old,IsEnum h' (s1.heap.objs.size+1) s1.heap.objs.size ((0:Nat):Int) old)∧h'.IsListIter s1.heap.objs.size b 0:=⟨⟨.none,by simpa using he⟩,hi⟩
  refine T.self X.A 0 _ _ _ t0 ⟨_,_,_,_,H1,rfl,I2,T,t0,λ c hc=>?_,q⟩
  have hc':s1.heap.objs.size≤c:=by
   have:c=s1.heap.objs.size+1 ∨ c=s1.heap.objs.size:=by simpa using hc
   rcases this with rfl | rfl
   ·exact Nat.le_succ _
   ·exact Nat.le_refl _
  exact I1.fpOk hc' (I1.hok.fresh hc')
end
theorem zts {K:W.Frag} {a:Addr} {xs:List V} {g:TG} {tb:TS} {D:Ends} {σ:St} {H:Hp} (Pv:Nat→St→Hp→Prop) (h0:Pv 0 σ H) (hl:∀ i σ H,i≤xs.length→Pv i σ H→SqL K H a xs)
  (hs:∀ i x T σ H,xs[i]? = some x→Pv i σ H→H T=none→g (.ref T) σ (upd H T (.tup [.int i,x])) λ σ2 H2=>tb { D with nx:=Pv (i+1),ct:=Pv (i+1),bk:=D.nx } σ2 H2) (hd:∀ σ H,Pv xs.length σ H→D.nx σ H) :
  ∃ W:Nat→Nat→St→Hp→Prop,(∃ m,W 0 m σ H)∧∀ i m σ H,W i m σ H →
   ((Ite K a).stop i H∧D.nx σ H) ∨ ((Ite K a).go i H∧∃ N:St→Hp→Prop,(∀ σ' H',N σ' H'→∃ m',m'<m∧W (i+1) m' σ' H')∧∀ x H',(Ite K a).yld i H x H'→g x σ H' λ σ2 H2=>tb { D with nx:=N,ct:=N,bk:=D.nx } σ2 H2):=by
 refine ⟨λ i m σ H=>m=xs.length - i∧i≤xs.length∧Pv i σ H,⟨xs.length,by simp,Nat.zero_le _,h0⟩,?_⟩
 rintro i m σ H ⟨rfl,hi,p⟩
 have q:=hl i σ H hi p
 by_cases hlt:i<xs.length
 ·refine .inr ⟨⟨xs,xs[i],q,by simp [hlt]⟩,Pv (i+1),λ σ' H' p'=>⟨xs.length - (i+1),by omega,rfl,hlt,p'⟩,λ x H' y=>?_⟩
  obtain ⟨T,z,rfl,hT,rfl,y⟩:=y
  exact hs i z T σ H (y xs q) p hT
 ·have e:i=xs.length:=by omega
  subst e
  exact .inl ⟨⟨xs,q,Nat.le_refl _⟩,hd σ H p⟩
noncomputable def zcd (env:Env) (cs:List (Str×Addr)) (p:Str×NameKind):List (Str×Addr):=if p.2 = .free then (match env.cells.lookup p.1 with | some c=>(p.1,c)::cs | none=>cs) else cs
noncomputable def clOf (scope:Scope) (env:Env):List (Str×Addr):=scope.names.foldl (zcd env) []
noncomputable def zzc (scope:Scope) (env:Env):Bool :=
 scope.names.all (λ p=>p.2 != .cell) && scope.names.all (λ p=>p.2 != .local || scope.names.lookup p.1 == some .local) && scope.names.all (λ p=>p.2 != .free || (env.scope.names.lookup p.1 == some .cell || env.scope.names.lookup p.1 == some .free))
theorem zmg {env:Env}:∀ (ns:List (Str×NameKind)) (cs:List (Str×Addr)),(∀ p∈ns,p.2 = .free→∃ c,env.cells.lookup p.1=some c) →
  (forIn (m:=Sem) ns cs λ (p:Str×NameKind) (cs:List (Str×Addr))=>(if (p.2 == .free)=true then do
    let c ← cellOf env p.1
    pure (ForInStep.yield ((p.1,c)::cs)) else pure (ForInStep.yield cs)))=pure (ns.foldl (zcd env) cs)
 | [],cs,_=>rfl
 | p::ns,cs,h=>by
  rw [List.forIn_cons,List.foldl_cons]
  have ih:=zmg (env:=env) ns
  have hr:∀ q∈ns,q.2 = .free→∃ c,env.cells.lookup q.1=some c:=λ q hq=>h q (List.mem_cons_of_mem _ hq)
  by_cases hk:p.2 = .free
  ·obtain ⟨c,e⟩:=h p List.mem_cons_self hk
   have e1:(p.2 == NameKind.free)=true:=by simp [hk]
   have e2:zcd env cs p=(p.1,c)::cs:=by unfold zcd;rw [if_pos hk,e]
   have e3:cellOf env p.1=pure c:=by unfold cellOf;rw [e]
   rw [if_pos e1,e3,e2]
   exact ih _ hr
  ·have e1:¬ ((p.2 == NameKind.free)=true):=by simp [hk]
   have e2:zcd env cs p=cs:=by unfold zcd;rw [if_neg hk]
   rw [if_neg e1,e2]
   exact ih _ hr
theorem zdg {scope:Scope} {env:Env} (h:∀ p∈scope.names,p.2 = .free→∃ c,env.cells.lookup p.1=some c):closureFor scope env=pure (clOf scope env):=by
 have e:=zmg (env:=env) scope.names [] h
 have e2:=congrArg (λ (z:Sem (List (Str×Addr)))=>z >>= λ s=>pure s) e
 exact e2
theorem zvw {env:Env} {x:Str} {c:Addr}:∀ (ns:List (Str×NameKind)) (cs:List (Str×Addr)),(∀ y d,cs.lookup y=some d→env.cells.lookup y=some d)→(ns.foldl (zcd env) cs).lookup x=some c→env.cells.lookup x=some c
 | [],cs,h,e=>h x c e
 | p::ns,cs,h,e=>by
  refine zvw ns (zcd env cs p) (λ y d q=>?_) e
  unfold zcd at q
  split at q
  ·split at q
   ·rename_i c' ec
    rw [List.lookup_cons] at q
    split at q
    ·rename_i he
     have:y=p.1:=by simpa using he
     subst this;rw [← q];exact ec
    ·exact h y d q
   ·exact h y d q
  ·exact h y d q
theorem zxp {env:Env} {x:Str} {c:Addr} (hx:env.cells.lookup x=some c):∀ (ns:List (Str×NameKind)) (cs:List (Str×Addr)),cs.lookup x=some c→(ns.foldl (zcd env) cs).lookup x=some c
 | [],cs,e=>e
 | p::ns,cs,e=>by
  refine zxp hx ns (zcd env cs p) ?_
  unfold zcd
  split
  ·split
   ·rename_i c' ec
    rw [List.lookup_cons]
    split
    ·rename_i he
     have:x=p.1:=by simpa using he
     subst this;rw [hx] at ec;exact ec.symm
    ·exact e
   ·exact e
  ·exact e
theorem zdr {env:Env} {x:Str} {c:Addr} (hx:env.cells.lookup x=some c):∀ (ns:List (Str×NameKind)) (cs:List (Str×Addr)),(x,NameKind.free)∈ns→(ns.foldl (zcd env) cs).lookup x=some c
 | [],cs,e=>by simp at e
 | p::ns,cs,e=>by
  rcases List.mem_cons.mp e with e | e
  ·subst e
   refine zxp hx ns _ ?_
   unfold zcd
   rw [if_pos rfl,hx]
   simp
  ·exact zdr hx ns _ e
theorem zmd {scope:Scope} {env:Env} (h:zzc scope env=true):∀ p∈scope.names,p.2 ≠ .cell:=λ p hp=>by
 unfold zzc at h
 simp only [Bool.and_eq_true,List.all_eq_true] at h
 simpa using h.1.1 p hp
theorem zpe {scope:Scope} {env:Env} (h:zzc scope env=true):∀ p∈scope.names,p.2 = .local→scope.names.lookup p.1=some .local:=λ p hp e=>by
 unfold zzc at h
 simp only [Bool.and_eq_true,List.all_eq_true] at h
 have:=h.1.2 p hp
 rw [e] at this
 simpa using this
theorem znc {scope:Scope} {env:Env} (h:zzc scope env=true):∀ p∈scope.names,p.2 = .free→env.kindOf p.1=some .cell ∨ env.kindOf p.1=some .free:=λ p hp e=>by
 unfold zzc at h
 simp only [Bool.and_eq_true,List.all_eq_true] at h
 have:=h.2 p hp
 rw [e] at this
 simpa [Env.kindOf] using this
theorem zad {env:Env}:∀ {names:List (Str×NameKind)} {x:Str} {k:NameKind},
  (names.map λ (n,k)=>if (k == NameKind.free && env.scope.kind == .function && env.kindOf n == some .cell) then (n,NameKind.cell) else (n,k)).lookup x=some k →
   names.lookup x=some k ∨ (names.lookup x=some .free∧k = .cell)
 | [],_,_,h=>by simp at h
 | (n,j)::r,x,k,h=>by
  have ih:=@zad env r x k
  rw [List.map_cons] at h
  by_cases hx:(x == n)=true
  ·rw [List.lookup_cons,hx]
   by_cases hc:(j == NameKind.free && env.scope.kind == .function && env.kindOf n == some .cell)=true
   ·simp only [hc,if_true] at h
    rw [List.lookup_cons,hx] at h
    have hj:j = .free:=by
     simp only [Bool.and_eq_true] at hc
     simpa using hc.1.1
    exact .inr ⟨by simp [hj],(Option.some.inj h).symm⟩
   ·simp only [hc,if_false] at h
    have h':List.lookup x ((n,j)::List.map (λ x=>if (x.snd == NameKind.free && env.scope.kind == ScopeKind.function && env.kindOf x.fst == some NameKind.cell)=true then (x.fst,NameKind.cell) else (x.fst,x.snd)) r)=some k:=by simpa using h
    rw [List.lookup_cons,hx] at h'
    exact .inl h'
  ·have hx':(x == n)=false:=by simpa using hx
   rw [List.lookup_cons,hx']
   apply ih
   by_cases hc:(j == NameKind.free && env.scope.kind == .function && env.kindOf n == some .cell)=true
   ·simp only [hc,if_true] at h
    rw [List.lookup_cons,hx'] at h
    exact h
   ·have h':List.lookup x ((n,j)::List.map (λ x=>if (x.snd == NameKind.free && env.scope.kind == ScopeKind.function && env.kindOf x.fst == some NameKind.cell)=true then (x.fst,NameKind.cell) else (x.fst,x.snd)) r)=some k:=by simpa [hc] using h
    rw [List.lookup_cons,hx'] at h'
    exact h'
theorem zoe {env:Env}:∀ {names:List (Str×NameKind)} {x:Str},names.lookup x=some .free →
  ∃ k,(names.map λ (n,k)=>if (k == NameKind.free && env.scope.kind == .function && env.kindOf n == some .cell) then (n,NameKind.cell) else (n,k)).lookup x=some k∧(k = .cell ∨ k = .free)
 | [],_,h=>by simp at h
 | (n,j)::r,x,h=>by
  have ih:=@zoe env r x
  by_cases hx:(x == n)=true
  ·rw [List.lookup_cons,hx] at h
   have hj:j = .free:=Option.some.inj h
   subst hj
   by_cases hc:(env.scope.kind == .function && env.kindOf n == some .cell)=true
   ·refine ⟨.cell,?_,.inl rfl⟩
    show List.lookup x ((if (NameKind.free == NameKind.free && env.scope.kind == .function && env.kindOf n == some .cell)=true then (n,NameKind.cell) else (n,NameKind.free))::_)=_
    rw [if_pos (by simpa using hc),List.lookup_cons,hx]
   ·refine ⟨.free,?_,.inr rfl⟩
    show List.lookup x ((if (NameKind.free == NameKind.free && env.scope.kind == .function && env.kindOf n == some .cell)=true then (n,NameKind.cell) else (n,NameKind.free))::_)=_
    rw [if_neg (by simpa using hc),List.lookup_cons,hx]
  ·have hx':(x == n)=false:=by simpa using hx
   rw [List.lookup_cons,hx'] at h
   obtain ⟨k,e,hk⟩:=ih h
   refine ⟨k,?_,hk⟩
   rw [List.map_cons]
   by_cases hc:(j == NameKind.free && env.scope.kind == .function && env.kindOf n == some .cell)=true
   ·simp only [hc,if_true,List.lookup_cons,hx']
    exact e
   ·show List.lookup x ((if (j == NameKind.free && env.scope.kind == .function && env.kindOf n == some .cell)=true then (n,NameKind.cell) else (n,j))::_)=_
    rw [if_neg hc,List.lookup_cons,hx']
    exact e
noncomputable def Cx.comp (X:Cx) (scope:Scope) (C:Addr) (s₀:Shared) (H₀:Hp) (fp:List Addr) (N':List Str) (E':Value→Shared→Prop):Cx :=
 { X with N:=N',s₀:=s₀,H₀:=H₀,env:=compEnvC scope (clOf scope X.env) C X.env,outer:=X.stack,ex:=fp,fn:=λ _=>false,pn:=[],xe:=E' }
noncomputable def caps (cap:List Nat) (σ:St):St:=cap.map λ j=>(σ[j]?).join
noncomputable def zgn (X:Cx) (scope:Scope) (N':List Str) (nt:Nat) (cap:List Nat):Bool :=
 (N'.length == nt+cap.length) && ((List.range cap.length).all λ j=>match cap[j]?,N'[nt+j]? with
  | some i,some x=>X.N[i]? == some x && scope.names.lookup x == some .free
  | _,_=>false)
section
variable {X:Cx}
theorem zop {scope:Scope} {N':List Str} {nt:Nat} {cap:List Nat} (h:zgn X scope N' nt cap=true):N'.length=nt+cap.length∧∀ j i,cap[j]? = some i→∃ x,N'[nt+j]? = some x∧X.N[i]? = some x∧scope.names.lookup x=some .free:=by
 unfold zgn at h
 simp only [Bool.and_eq_true,List.all_eq_true,beq_iff_eq] at h
 refine ⟨h.1,λ j i e=>?_⟩
 have hj:j<cap.length:=(List.getElem?_eq_some_iff.mp e).1
 have q:=h.2 j (List.mem_range.mpr hj)
 rw [e] at q
 cases q2:N'[nt+j]? with
 | none=>rw [q2] at q;simp at q
 | some x =>
  rw [q2] at q
  simp only [Bool.and_eq_true,beq_iff_eq] at q
  exact ⟨x,rfl,q.1,q.2⟩
theorem zjg {pins:List (Addr×Obj)} {σ:St} {H:Hp} {s3:Shared} {scope:Scope} {fp:List Addr} {N':List Str} {nt:Nat} {cap:List Nat} {h4:Heap} {t4:Nat} {E':Value→Shared→Prop} {m:Str→Option Value}
  (I:Inv X pins σ H s3) (hk:scope.kind = .function) (hb:zzc scope X.env=true) (hc:zgn X scope N' nt cap=true) (hf:∀ b∈fp,FpOk X pins H b) (hfl:∀ b∈fp,b<s3.heap.objs.size)
  (hn:h4.Ns s3.heap.objs.size m) (kp:∀ b o,s3.heap.get? b=some o→h4.get? b=some o) :
  Inv (X.comp scope s3.heap.objs.size s3 H fp N' E') [] (List.replicate nt none++caps cap σ) H { s3 with heap:=h4,toks:=t4 }:=by
 obtain ⟨hlen,hcap⟩:=zop hc
 have cin:∀ x c,(clOf scope X.env).lookup x=some c→X.env.cells.lookup x=some c:=λ x c e=>zvw scope.names [] (λ y d q=>by simp at q) e
 have kin:∀ x,((X.comp scope s3.heap.objs.size s3 H fp N' E').env.kindOf x=some .cell ∨ (X.comp scope s3.heap.objs.size s3 H fp N' E').env.kindOf x=some .free)→scope.names.lookup x=some .free:=λ x hx=>by
  have one:∀ k,(k=NameKind.cell ∨ k=NameKind.free)→(X.comp scope s3.heap.objs.size s3 H fp N' E').env.kindOf x=some k→scope.names.lookup x=some .free:=λ k hk' e=>by
   rcases zad (env:=X.env) (names:=scope.names) (x:=x) (k:=k) e with z | z
   ·rcases hk' with rfl | rfl
    ·exact absurd rfl (zmd hb _ (PySem.mem_of_lookup z))
    ·exact z
   ·exact z.1
  rcases hx with hx | hx
  ·exact one _ (.inl rfl) hx
  ·exact one _ (.inr rfl) hx
 have has:∀ x,scope.names.lookup x=some .free→∃ c,X.env.cells.lookup x=some c∧(clOf scope X.env).lookup x=some c:=λ x hx=>by
  have hm:=PySem.mem_of_lookup hx
  obtain ⟨c,e⟩:=I.ok.has x (znc hb _ hm rfl)
  exact ⟨c,e,zdr e _ _ hm⟩
 refine ⟨⟨I.ok.mod,hk,I.ok.glob,I.ok.blt,Nat.le_refl _,λ x y c e1 e2=>I.ok.inj x y c (cin x c e1) (cin y c e2),λ x hx=>?_,λ x c z _=>absurd z Bool.false_ne_true,I.ok.hd,I.ok.frames,.inl rfl,λ b hb'=>⟨Nat.ne_of_lt (hfl b hb'),λ x c e=>(hf b hb').2.2.2.2.1 x c (cin x c e)⟩,
  I.bs,Nat.le_trans I.ok.bsz I.sz,λ b o e hb'=>?_,λ b hb' hs=>?_,I.stack,I.stkFree⟩,rfl,I.bare,Un.kept kp,⟨m,hn,λ i x v h1 h2 h3=>?_⟩,λ x c e=>?_,I.hok.fresh (Nat.le_refl _),λ x c e=>I.freeC x c (cin x c e),λ p hp=>absurd hp (by simp [Cx.comp]),I.hok.kept kp,?_⟩
 ·obtain ⟨c,_,e⟩:=has x (kin x hx)
  exact ⟨c,e⟩
 ·rcases (hf b hb').2.2.2.1 with z | z
  ·exact I.ok.noex b o e z
  ·exact absurd (Nat.lt_of_lt_of_le (Heap.lt_size e) (Nat.le_trans I.ok.bsz z)) (Nat.lt_irrefl _)
 ·rcases List.mem_cons.mp (I.stkSub b hs) with z | z
  ·exact (hf b hb').2.1 z
  ·exact (hf b hb').2.2.1 z
 ·have hge:nt≤i:=by
   by_cases hlt:i<nt
   ·rw [List.getElem?_append_left (by simpa using hlt),List.getElem?_replicate] at h2
    split at h2 <;> cases h2
   ·omega
  obtain ⟨j,rfl⟩:∃ j,i=nt+j:=⟨i - nt,by omega⟩
  rw [List.getElem?_append_right (by simp),List.length_replicate,Nat.add_sub_cancel_left] at h2
  unfold caps at h2
  rw [List.getElem?_map] at h2
  cases ej:cap[j]? with
  | none=>rw [ej] at h2;cases h2
  | some i' =>
   rw [ej] at h2
   have h2':(σ[i']?).join=some v:=Option.some.inj h2
   obtain ⟨x',e1,e2,e3⟩:=hcap j i' ej
   have:x'=x:=by
    have h1':N'[nt+j]? = some x:=h1
    rw [e1] at h1';exact Option.some.inj h1'
   subst this
   have hσ:σ[i']? = some (some v):=by
    cases q:σ[i']? with
    | none=>rw [q] at h2';cases h2'
    | some o=>rw [q] at h2';exact congrArg some h2'
   have hkx:=znc hb _ (PySem.mem_of_lookup e3) rfl
   obtain ⟨m',hn',hl'⟩:=I.loc
   obtain ⟨u,ru,lk⟩:=hl' i' x' v e2 hσ (hkx.elim (λ z=>.inr (.inl z)) λ z=>.inr (.inr z))
   refine ⟨u,ru,.inr ⟨?_,?_⟩⟩
   ·obtain ⟨k,ek,hk'⟩:=zoe (env:=X.env) e3
    rcases hk' with rfl | rfl
    ·exact .inl ek
    ·exact .inr ek
   ·rcases lk with ⟨kl,_⟩ | ⟨_,c,ec,icell⟩
    ·rcases hkx with z | z <;> (rw [kl] at z;cases z)
    ·exact ⟨c,zdr ec _ _ (PySem.mem_of_lookup e3),icell.keeps kp⟩
 ·obtain ⟨v,z⟩:=I.cell x c (cin x c e)
  exact ⟨v,z.keeps kp⟩
 ·show (List.replicate nt none++caps cap σ).length=N'.length
  rw [hlen]
  simp [caps]
end
end L2
namespace L2
open PySem PySem.Spec PyProof.Rows
section
variable {prog:Program} {w:World} {A:Around} {E:Value→Shared→Prop} {R:Result→Shared→Prop} {s:Shared}
theorem zre {elt target iter:Expr} {ifs:List Expr} {scope:Scope} {pos:Pos} {it acc:Value} {env:Env} (I:Nat→Shared→Prop)
  (turn:∀ n s,I n s→wpAny (model prog w) A (pyNext it) (λ r s₁=>match r with
   | none=>R (.ok .next) s₁
   | some v=>wpAny (model prog w) A (letOwnedTupleGo target it v) (λ _ s₁'=>wpAny (model prog w) A (assign target env v) (λ _ s₂ =>
     wpAny (model prog w) A (forIn ifs true λ c r=>if r=true then do let ok ← isTrue c env (eval c env);pure (ForInStep.yield ok) else pure (ForInStep.yield r)) (λ ok s₃ =>
      if ok=true then wpAny (model prog w) A (eval elt env) (λ x s₄ =>
       wpAny (model prog w) A (call (.builtin "list.append") [acc,x]) (λ _ s₅=>∃ m,m<n∧I m s₅) (notedBy (model prog w) A env λ e s'=>R (.error e) s') s₄) (notedBy (model prog w) A env λ e s'=>R (.error e) s') s₃
      else ∃ m,m<n∧I m s₃) (notedBy (model prog w) A env λ e s'=>R (.error e) s') s₂) (notedBy (model prog w) A env λ e s'=>R (.error e) s') s₁') (notedBy (model prog w) A env λ e s'=>R (.error e) s') s₁) (notedBy (model prog w) A env λ e s'=>R (.error e) s') s)
  (n:Nat) (h:I n s):codeAny (model prog w) A (.compLoop (.ListComp elt [⟨target,iter,ifs,0⟩] scope pos) 0 it acc env) R s:=by
 refine codeAny_loop rfl I (λ n s hI=>?_) n h
 show wpAny _ A ((compTurn (.ListComp elt [⟨target,iter,ifs,0⟩] scope pos) 0 it acc env).onRaise (λ x=>do noteFrame x env;theTreesLotGoes x)) _ _ s
 refine wpAny_noted ?_
 rw [compTurn_list]
 refine wpAny_bind (wpAny_standAt (wpAny_bind (wpAny_mono (turn n s hI) (λ r s₁ h₁=>?_) λ _ _ h'=>h')))
 cases r with
 | none=>exact wpAny_pure h₁
 | some v =>
  refine wpAny_bind (wpAny_mono h₁ (λ _ s₁' h₁'=>?_) λ _ _ h'=>h')
  refine wpAny_bind (wpAny_mono h₁' (λ _ s₂ h₂=>wpAny_bind (wpAny_mono h₂ (λ ok s₃ h₃=>?_) λ _ _ h'=>h')) λ _ _ h'=>h')
  cases ok with
  | false=>exact wpAny_pure ⟨rfl,h₃⟩
  | true =>
   exact wpAny_bind (wpAny_bind (wpAny_mono h₃ (λ x s₄ h₄=>wpAny_bind (wpAny_mono h₄ (λ _ s₅ h₅=>wpAny_pure (wpAny_pure ⟨rfl,h₅⟩)) λ _ _ h'=>h')) λ _ _ h'=>h'))
end
structure PIf (X:Cx) (ifs:List Expr) (t:TT):Prop where
 run :
 ∀ (pins:List (Addr×Obj)) (s:Shared) (σ:St) (H:Hp) (Q:Bool→Hp→Prop),Inv X pins σ H s→t σ H Q →
  wpAny (model X.prog X.w) X.A (forIn ifs true λ c r=>if r=true then do let ok ← isTrue c X.env (eval c X.env);pure (ForInStep.yield ok) else pure (ForInStep.yield r)) (TP X pins σ Q) X.xe s
noncomputable instance {X:Cx} {ifs:List Expr} {t:TT}:CoeFun (PIf X ifs t) (λ _ =>
 ∀ (pins:List (Addr×Obj)) (s:Shared) (σ:St) (H:Hp) (Q:Bool→Hp→Prop),Inv X pins σ H s→t σ H Q →
  wpAny (model X.prog X.w) X.A (forIn ifs true λ c r=>if r=true then do let ok ← isTrue c X.env (eval c X.env);pure (ForInStep.yield ok) else pure (ForInStep.yield r)) (TP X pins σ Q) X.xe s
 ):=⟨λ h=>h.run⟩
noncomputable def tYes:TT:=λ _ H Q=>Q true H
noncomputable def zat (J:It) (D:Addr) (nt:Nat) (cap:List Nat) (g:TG) (ti:TT) (te:TE) (σ:St) (H1:Hp) (Q:VK):Prop:=∃ W:Nat→Nat→List V→Hp→Prop,(∃ m,W 0 m [] (upd H1 D (.lst []))) ∧
 ∀ i m ys H2,W i m ys H2→H2 D=some (.lst ys)∧((J.stop i H2∧Q (.ref D) H2) ∨ (J.go i H2∧ys.length<sizeLine∧∀ x H3,J.yld i H2 x H3→g x (List.replicate nt none++caps cap σ) H3 λ σ4 H4=>ti σ4 H4 λ b H5 =>
  if b=true then te σ4 H5 λ y H6=>H6 D=some (.lst ys)∧∃ m',m'<m∧W (i+1) m' (ys++[y]) (upd H6 D (.lst (ys++[y]))) else ∃ m',m'<m∧W (i+1) m' ys H5))
noncomputable def zlr (wi:TI) (nt:Nat) (cap:List Nat) (g:TG) (ti:TT) (te:TE):TE:=λ σ H Q=>wi σ H λ J H1=>∀ D,H1 D=none→zat J D nt cap g ti te σ H1 Q
noncomputable def zhf (nt:Nat) (g:TG):Prop:=∀ (x:V) (c:St) (H:Hp) (Q:St→Hp→Prop),g x (List.replicate nt none++c) H Q →
 g x (List.replicate nt none++c) H λ σ' H'=>Q σ' H'∧∀ (j:Nat) v,(List.replicate nt none++c)[j]? = some (some v)→σ'[j]? = some (some v)
theorem gk1:zhf 1 (zdq 0):=λ x c H Q h=>⟨h,λ j v e=>by
 cases j with
 | zero=>simp at e
 | succ j=>simpa using e⟩
theorem gk2 {K:W.Frag}:zhf 2 (gTup K 2 (zxw (zdq 0) (zxw (zdq 1) gNil))):=λ x c H Q h=>by
 obtain ⟨a,xs,e1,hq,hl,v,r,e2,v',r',e3,e4,h⟩:=h
 refine ⟨a,xs,e1,hq,hl,v,r,e2,v',r',e3,e4,h,λ j v e=>?_⟩
 match j,e with
 | 0,e=>simp [List.replicate] at e
 | 1,e=>simp [List.replicate] at e
 | j+2,e=>simpa [List.replicate,List.set] using e
section
variable {X:Cx}
theorem zpb:PIf X [] tYes := .mk <| λ _ _ _ H _ I h=>wpAny_tests_nil ⟨H,I,h⟩
theorem zpq {c:Expr} {t:TT} (h:PT X c t):PIf X [c] t := .mk <| λ pins s σ H Q I hw=>wpAny_tests_one (h pins s σ H Q I hw)
theorem zyf {pins pins':List (Addr×Obj)} {σ σ':St} {H H':Hp} {s3 s':Shared} {scope:Scope} {fp:List Addr} {N':List Str} {E':Value→Shared→Prop}
  (I3:Inv X pins σ H s3) (hf:∀ b∈fp,FpOk X pins H b) (I':Inv (X.comp scope s3.heap.objs.size s3 H fp N' E') pins' σ' H' s'):Inv X pins σ H' s':=by
 refine I3.call' (ch:=fp) I'.os I'.base I'.hok I'.bare λ b hb=>?_
 obtain ⟨f0,f1,f2,f3,f4,f5⟩:=hf b hb
 exact ⟨f3,f1,f4,f5⟩
theorem zzi {elt tg iter:Expr} {ifs:List Expr} {scope:Scope} {pos:Pos} {N':List Str} {nt:Nat} {cap:List Nat} {wi:TI} {g:TG} {ti:TT} {te:TE}
  (EK:Addr→Shared→Hp→List Addr→(Value→Shared→Prop)→Prop)
  (hE:∀ (pins:List (Addr×Obj)) (σ:St) (s3:Shared) (H3:Hp) (fp:List Addr) (Q:VK) (D:Addr),Inv X pins σ H3 s3→(∀ b∈fp,FpOk X pins H3 b) →
   EK s3.heap.objs.size s3 H3 fp (notedBy (model X.prog X.w) X.A (compEnvC scope (clOf scope X.env) s3.heap.objs.size X.env) λ e s'=>compPost (model X.prog X.w) X.A X.xe none (EP X pins σ Q) (.ref D) s3.heap.objs.size (.error e) s'))
  (hc:X.calm=true) (hi:PI X tg iter wi)
  (hg:∀ C s₀ H₀ fp E',EK C s₀ H₀ fp E'→PG (X.comp scope C s₀ H₀ fp N' E') tg g)
  (hif:∀ C s₀ H₀ fp E',EK C s₀ H₀ fp E'→PIf (X.comp scope C s₀ H₀ fp N' E') ifs ti)
  (he:∀ C s₀ H₀ fp E',EK C s₀ H₀ fp E'→PE (X.comp scope C s₀ H₀ fp N' E') elt te)
  (hk:scope.kind = .function) (hb:zzc scope X.env=true) (hcap:zgn X scope N' nt cap=true)
  (hgk:zhf nt g) (hs:∀ x,foldedSetIterable iter X.env x=pure x):PE X (.ListComp elt [⟨tg,iter,ifs,0⟩] scope pos) (zlr wi nt cap g ti te) := .mk <| by
 intro pins s σ H Q I h
 rw [eval_ListComp]
 have hclos:closureFor scope X.env=pure (clOf scope X.env):=zdg λ p hp e=>I.ok.has p.1 (znc hb p hp e)
 refine wpAny_comprehension_free (use:=none) rfl hs hclos hk (zpe hb) (thn (hi pins s σ H _ I h) λ v s1 h1=>thn h1 λ itv s2 h2=>?_)
 obtain ⟨it,fp,tn,J,H2,e,I2,T,st2,f2,q2⟩:=h2
 subst e
 refine wpAny_newObj_type (wpAny_newFunctionEnv (zmd hb) (by intro y hy;simp at hy) (λ h₁ hns₁ hsb₁=>?_) hk)
 have I3:=I2.lnew (ys:=[]) (its:=[]) (t':=s2.toks) .nil (Nat.zero_le _)
 have hfl:∀ b∈fp,b<s2.heap.objs.size:=λ b hb'=>let ⟨o,e,_⟩:=T.obj 0 _ st2 b hb';Heap.lt_size e
 obtain ⟨W,⟨m0,w0⟩,turn⟩:=q2 s2.heap.objs.size (I2.hok.fresh (Nat.le_refl _))
 have nD:∀ b∈fp,b≠s2.heap.objs.size:=λ b hb'=>Nat.ne_of_lt (hfl b hb')
 have f3:∀ b∈fp,FpOk X pins (upd H2 s2.heap.objs.size (.lst [])) b:=λ b hb'=>⟨by rw [zta (nD b hb')];exact (f2 b hb').1,(f2 b hb').2⟩
 obtain ⟨s3,hs3⟩:∃ s3:Shared,s3={ s2 with heap:=s2.heap.push { cls := .type "list",data := .seq ([]:List Value).toArray },toks:=s2.toks }:=⟨_,rfl⟩
 have hs3':s3.heap=s2.heap.push { cls := .type "list",data := .seq ([]:List Value).toArray }:=by rw [hs3]
 rw [← hs3] at I3
 have hsz:s3.heap.objs.size=s2.heap.objs.size+1:=by rw [hs3',Heap.size_push]
 have hfl3:∀ b∈fp,b<s3.heap.objs.size:=λ b hb'=>by rw [hsz];exact Nat.lt_succ_of_lt (hfl b hb')
 have hC:(s2.heap.push { cls:=Value.type "list",dict:=none,data:=Data.seq ([]:List Value).toArray }).objs.size=s3.heap.objs.size:=by rw [hs3']
 dsimp only at hns₁ hsb₁ ⊢
 rw [hC] at hns₁ hsb₁ ⊢
 rw [← hs3'] at hsb₁
 have kp:∀ b o,s3.heap.get? b=some o→h₁.get? b=some o:=λ b o e=>hsb₁.extBut b o (Nat.ne_of_lt (Heap.lt_size e)) (Heap.get?_push_of_some _ e)
 have hEE:=hE pins σ s3 _ fp Q s2.heap.objs.size I3 f3
 generalize hE':(notedBy (model X.prog X.w) X.A (compEnvC scope (clOf scope X.env) s3.heap.objs.size X.env) λ e s'=>compPost (model X.prog X.w) X.A X.xe none (EP X pins σ Q) (.ref s2.heap.objs.size) s3.heap.objs.size (.error e) s')=E' at hEE
 have I4:=zjg (t4:=s2.toks+([]:List (Str×Value)).length) (E':=E') I3 hk hb hcap f3 hfl3 hns₁ kp
 have st4:tn 0 h₁:=T.keep 0 _ _ st2 λ b hb' o e=>kp b o (by rw [hs3'];exact Heap.get?_push_of_some _ e)
 obtain ⟨s4,hs4⟩:∃ s4:Shared,s4={ s3 with heap:=h₁,toks:=s2.toks+([]:List (Str×Value)).length }:=⟨_,rfl⟩
 rw [← hs4] at I4
 have st4':tn 0 s4.heap:=by rw [hs4];exact st4
 have cin:∀ x c,(clOf scope X.env).lookup x=some c→X.env.cells.lookup x=some c:=λ x c e=>zvw scope.names [] (λ y d q=>by simp at q) e
 have stat:∀ {H':Hp},(∀ b∈fp,H' b=none)→∀ b∈fp,FpOk (X.comp scope s3.heap.objs.size s3 (upd H2 s2.heap.objs.size (.lst [])) fp N' E') [] H' b:=λ hn b hb'=>by
  refine ⟨hn b hb',Nat.ne_of_lt (hfl3 b hb'),λ z=>?_,.inl hb',λ x c e=>(f3 b hb').2.2.2.2.1 x c (cin x c e),λ p hp=>absurd hp (by simp [Cx.comp])⟩
  rcases List.mem_cons.mp (I3.stkSub b z) with z | z
  ·exact (f3 b hb').2.1 z
  ·exact (f3 b hb').2.2.1 z
 have loop:codeAny (model X.prog X.w) X.A (.compLoop (.ListComp elt [⟨tg,iter,ifs,0⟩] scope pos) 0 (.ref it) (.ref s2.heap.objs.size) (compEnvC scope (clOf scope X.env) s3.heap.objs.size X.env))
   (compPost (model X.prog X.w) X.A X.xe none (EP X pins σ Q) (.ref s2.heap.objs.size) s3.heap.objs.size) s4:=by
  refine zre (λ n s'=>∃ i ys H',Inv (X.comp scope s3.heap.objs.size s3 (upd H2 s2.heap.objs.size (.lst [])) fp N' E') [] (List.replicate nt none++caps cap σ) H' s'∧tn i s'.heap∧(∀ b∈fp,H' b=none)∧W i n ys H') ?_ m0
   ⟨0,[],_,I4,st4',λ b hb'=>(f3 b hb').1,w0⟩
  rintro n s5 ⟨i,ys,H5,I5,st5,fr5,w5⟩
  rw [hE']
  obtain ⟨hD5,alt⟩:=turn i n ys H5 w5
  rcases alt with ⟨stop,qn⟩ | ⟨go,hyl,step⟩
  ·refine thn (T.done (X.comp scope s3.heap.objs.size s3 (upd H2 s2.heap.objs.size (.lst [])) fp N' E') rfl rfl rfl hc i [] s5 _ H5 E' I5 (stat fr5) st5 stop) λ r s6 ⟨hr,I6⟩=>?_
   subst hr
   obtain ⟨m6,hn6,_⟩:=I6.loc
   refine ⟨m6,hn6,λ h' hsb'=>?_⟩
   have I7:=zyf I3 f3 I6
   refine ⟨.ref s2.heap.objs.size,H5,?_,rfl,qn⟩
   refine I7.turnedL (ch:=[s3.heap.objs.size]) (t':=s6.toks) (λ b hb'=>?_) λ b u hb' e=>(hsb'.2 b λ z=>hb' (by simp [z])).trans e
   have eb:b=s3.heap.objs.size:=by simpa using hb'
   subst eb
   exact I3.fpOk (Nat.le_refl _) I6.free
  ·refine thn (T.item (X.comp scope s3.heap.objs.size s3 (upd H2 s2.heap.objs.size (.lst [])) fp N' E') rfl rfl rfl hc i [] s5 _ H5 E' I5 (stat fr5) st5 go) λ r s6 ⟨u,hr,h6⟩=>?_
   subst hr
   refine thn h6 λ _ s7 ⟨x,H7,I7,r7,y7,st7,fr7⟩=>?_
   have I7':=I7.pinned (stat fr7) (T.obj _ _ st7)
   have again:∀ {σ8:St} {H8:Hp} {ys':List V} {s8:Shared},Inv (X.comp scope s3.heap.objs.size s3 (upd H2 s2.heap.objs.size (.lst [])) fp N' E') ([]++zuj fp s7.heap) σ8 H8 s8→(∃ m',m'<n∧W (i+1) m' ys' H8)→(∀ (j:Nat) v,(List.replicate nt none++caps cap σ)[j]? = some (some v)→σ8[j]? = some (some v)) →
     ∃ m,m<n∧∃ i ys H',Inv (X.comp scope s3.heap.objs.size s3 (upd H2 s2.heap.objs.size (.lst [])) fp N' E') [] (List.replicate nt none++caps cap σ) H' s8∧tn i s8.heap∧(∀ b∈fp,H' b=none)∧W i m ys H':=fun {σ8 H8 ys' s8} I8 ⟨m',hm,w8⟩ hσ=>by
    refine ⟨m',hm,i+1,ys',H8,I8.unpinned.weak (by rw [I8.len,I5.len]) hσ,T.keep _ _ _ st7 λ b hb o e=>(I8.pin (b,o) (List.mem_append_right _ (List.mem_append_right _ (zvb hb e)))).1,λ b hb=>?_,w8⟩
    obtain ⟨o,e,d⟩:=T.obj _ _ st7 b hb
    exact (I8.pin (b,o) (List.mem_append_right _ (List.mem_append_right _ (zvb hb e)))).2.1
   refine thn (hg _ _ _ _ _ hEE _ s7 _ H7 x u _ I7' r7 (hgk x _ H7 _ (step x H7 y7))) λ _ s8 ⟨σ8,H8,I8,q8,hσ⟩=>?_
   refine thn (hif _ _ _ _ _ hEE _ s8 σ8 H8 _ I8 q8) λ ok s9 ⟨H9,I9,q9⟩=>?_
   cases ok with
   | false =>
    rw [if_neg Bool.false_ne_true] at q9 ⊢
    exact again I9 q9 hσ
   | true =>
    rw [if_pos rfl] at q9 ⊢
    refine thn (he _ _ _ _ _ hEE _ s9 σ8 H9 _ I9 q9) λ y s10 ⟨vy,H10,I10,r10,hD10,hm10⟩=>?_
    exact thn (zzd (X:=X.comp scope s3.heap.objs.size s3 (upd H2 s2.heap.objs.size (.lst [])) fp N' E') _ s10 σ8 H10 (.ref s2.heap.objs.size) [vy] (.ref s2.heap.objs.size) [y] (λ _ H'=>H'=upd H10 s2.heap.objs.size (.lst (ys++[vy]))) I10 rfl (.cons r10 .nil) ⟨_,_,_,rfl,rfl,hD10,hyl,rfl⟩) λ _ s11 ⟨_,H11,I11,_,e11⟩=>by
     subst e11
     exact again I11 hm10 hσ
 have e4:({ s2 with heap:=h₁,toks:=s2.toks+([]:List (Str×Value)).length }:Shared)=s4:=by rw [hs4,hs3]
 show codeAny _ _ _ _ { s2 with heap:=h₁,toks:=s2.toks+([]:List (Str×Value)).length }
 rw [e4]
 exact codeAny_compStart_list loop (T.self X.A 0 s4 _ _ st4' loop)
theorem zde {elt tg iter:Expr} {ifs:List Expr} {scope:Scope} {pos:Pos} {wi:TI} {g:TG} {ti:TT} {te:TE} (N':List Str) (nt:Nat) (cap:List Nat)
  (hc:X.calm=true) (hi:PI X tg iter wi) (hgk:zhf nt g)
  (hg:∀ C s₀ H₀ fp E',PG (X.comp scope C s₀ H₀ fp N' E') tg g)
  (hif:∀ C s₀ H₀ fp E',PIf (X.comp scope C s₀ H₀ fp N' E') ifs ti)
  (he:∀ C s₀ H₀ fp E',PE (X.comp scope C s₀ H₀ fp N' E') elt te)
  (hk:scope.kind = .function:=by rfl) (hb:zzc scope X.env=true:=by rfl) (hcap:zgn X scope N' nt cap=true:=by rfl)
  (hs:∀ x,foldedSetIterable iter X.env x=pure x:=by intro _;rfl):PE X (.ListComp elt [⟨tg,iter,ifs,0⟩] scope pos) (zlr wi nt cap g ti te) :=
 zzi (λ _ _ _ _ _=>True) (λ _ _ _ _ _ _ _ _ _=>trivial) hc hi (λ C s₀ H₀ fp E' _=>hg C s₀ H₀ fp E') (λ C s₀ H₀ fp E' _=>hif C s₀ H₀ fp E') (λ C s₀ H₀ fp E' _=>he C s₀ H₀ fp E') hk hb hcap hgk hs
end
theorem zzq {x:Str} {nt:Nat} {cap:List Nat} {g:TG} {te:TE} {σ:St} {H1:Hp} {Q:VK} {D:Addr} (f:Nat→V) (hx:x.cps.size≤sizeLine)
  (step:∀ i c H2 (R:VK),x.cps[i]? = some c→(∀ y,y=f i→R y H2)→g (.str ⟨#[c]⟩) (List.replicate nt none++caps cap σ) H2 λ σ4 H4=>te σ4 H4 R)
  (fin:Q (.ref D) (upd H1 D (.lst ((List.range x.cps.size).map f)))) :
  zat (Its x) D nt cap g tYes te σ H1 Q:=by
 refine ⟨λ i m ys H2=>m=x.cps.size - i∧i≤x.cps.size∧ys=(List.range i).map f∧H2=upd H1 D (.lst ys),⟨_,rfl,Nat.zero_le _,rfl,rfl⟩,?_⟩
 rintro i m ys H2 ⟨rfl,hi,rfl,rfl⟩
 refine ⟨upd_same,?_⟩
 by_cases hlt:i<x.cps.size
 ·refine .inr ⟨hlt,by simp;omega,λ v H3 ⟨e,c,hc,ev⟩=>?_⟩
  subst e ev
  have hst:=step i c _ (λ y H6=>H6 D=some (.lst ((List.range i).map f))∧∃ m',m'<x.cps.size - i∧(m'=x.cps.size - (i+1)∧i+1≤x.cps.size∧(List.range i).map f++[y]=(List.range (i+1)).map f∧upd H6 D (.lst ((List.range i).map f++[y]))=upd H1 D (.lst ((List.range i).map f++[y])))) hc
   (λ y ey=>⟨upd_same,_,by omega,rfl,hlt,by rw [List.range_succ,List.map_append,ey];rfl,zrw⟩)
  simp only [tYes,if_true]
  exact hst
 ·have e:i=x.cps.size:=by omega
  subst e
  exact .inl ⟨rfl,fin⟩
end L2
namespace L2
open PySem PySem.Spec PyProof.Rows
section
variable {X:Cx}
noncomputable def rSlS:V→Option Int→Option Int→Hp→VK→Prop:=λ x lo hi H Q=>∃ z,x = .str z∧z.length≤sizeLine∧Q (.str (Txt.slice z lo hi)) H
theorem zdz:SlR X rSlS:=by
 intro pins s σ H x v vl vu lo hi sl Q I rx hs pl pu h
 obtain ⟨z,rfl,hz,q⟩:=h
 obtain ⟨t,rfl⟩:=rx
 refine ⟨"str",_,F.slot_str_getitem.lookup,typeIs_str _ _ _,?_⟩
 cases pl with
 | none =>
  cases pu with
  | none=>exact wpAny_getItem_str_slice (l:=none) (u:=none) (st:=none) hs rfl (post_val_or_str ⟨Nat.le_trans (Txt.slice_le z _ _) hz,λ t' k=>⟨.str (Txt.slice z _ _),H,I.tok k,⟨t',rfl⟩,q⟩⟩)
  | int j u=>exact wpAny_getItem_str_slice (l:=none) (u:=some (j,u)) (st:=none) hs rfl (post_val_or_str ⟨Nat.le_trans (Txt.slice_le z _ _) hz,λ t' k=>⟨.str (Txt.slice z _ _),H,I.tok k,⟨t',rfl⟩,q⟩⟩)
 | int i u' =>
  cases pu with
  | none=>exact wpAny_getItem_str_slice (l:=some (i,u')) (u:=none) (st:=none) hs rfl (post_val_or_str ⟨Nat.le_trans (Txt.slice_le z _ _) hz,λ t' k=>⟨.str (Txt.slice z _ _),H,I.tok k,⟨t',rfl⟩,q⟩⟩)
  | int j u=>exact wpAny_getItem_str_slice (l:=some (i,u')) (u:=some (j,u)) (st:=none) hs rfl (post_val_or_str ⟨Nat.le_trans (Txt.slice_le z _ _) hz,λ t' k=>⟨.str (Txt.slice z _ _),H,I.tok k,⟨t',rfl⟩,q⟩⟩)
theorem zkm:∀ {ys:List Str} {us:List Value},Vals (ys.map V.str) us→StrsAre us ys:=by
 intro ys
 induction ys with
 | nil=>intro us r;cases r;exact .nil
 | cons y ys ih =>
  intro us r
  cases r with
  | cons h t =>
   obtain ⟨k,rfl⟩:=h
   exact .cons y k (ih t)
noncomputable def zw3 (K:W.Frag):V→List V→Hp→VK→Prop:=λ x xs H Q=>∃ z p ys,x = .str z∧xs=[.ref p]∧SqL K H p (ys.map V.str)∧(ys.map (·.length)).sum+ys.length * z.length≤16777216∧Q (.str (Txt.join z ys)) H
theorem zbg:MtR X "str.join" (zw3 X.K):=by
 intro pins s σ H x xs v us Q I rx rv h
 obtain ⟨z,p,ys,rfl,rfl,hq,hl,q⟩:=h
 obtain ⟨t,rfl⟩:=rx
 obtain ⟨u,rfl,ru⟩:=rv.one
 cases ru
 obtain ⟨its,r,pl,_⟩:=I.list hq
 exact join_list pl.isList (zkm r) hl λ t' k=>⟨.str (Txt.join z ys),H,I.tok k,⟨t',rfl⟩,q⟩
theorem zfk:∀ {bs:List Bool} {us:List Value},Vals (bs.map V.bl) us→LSm.BoolsAre us bs:=by
 intro bs
 induction bs with
 | nil=>intro us r;cases r;exact .nil
 | cons b bs ih =>
  intro us r
  cases r with
  | cons h t =>
   cases h
   exact .cons b (ih t)
theorem zqr (hc:X.calm=true):zwi X (.builtin "all") (λ xs H Q=>∃ (p:Addr) (bs:List Bool),xs=[.ref p]∧SqL X.K H p (bs.map V.bl)∧Q (.bl (bs.all id)) H):=by
 intro pins s σ H xs us Q I rv h
 obtain ⟨p,bs,rfl,hq,q⟩:=h
 obtain ⟨u,rfl,ru⟩:=rv.one
 cases ru
 obtain ⟨its,r,pl,_⟩:=I.list hq
 have hl:=pl.isList
 have hb:=zfk r
 have hlt:p<s.heap.objs.size:=by obtain ⟨_,e,_⟩:=hl;exact Heap.lt_size e
 refine call_all_walk (wpAny_pyIter_list hl ?_)
 refine ⟨s.heap.objs.size,[s.heap.objs.size,p],[s.heap.objs.size],its.toArray.size,_,_,λ i=>(bs[i]?).getD true,rfl,Walks.list (A:=X.A.in1) (I.ok.hd hc) _ p (Nat.ne_of_lt hlt) its.toArray,
  ⟨⟨_,Heap.get?_push_size _ rfl,rfl,rfl⟩,hl.push _⟩,λ i v s' Q' E' hP hQ=>?_,λ h' tk hk=>?_⟩
 ·obtain ⟨b,e,rfl⟩:=hb.get i v (by simpa using hP)
  simp only [e,Option.getD_some] at hQ
  exact wpAny_truthy_bool hQ
 ·have e:((List.range its.toArray.size).all λ i=>(bs[i]?).getD true)=bs.all id:=by
   rw [List.size_toArray,hb.length];exact LSm.range_all bs
  rw [e]
  exact ⟨.bl (bs.all id),H,I.kept (LSm.kept_iter hk),rfl,q⟩
end
end L2
namespace L2
open PySem PySem.Spec PyProof.Rows
noncomputable def okHO:HO→Prop
 | .dT _=>False
 | .frz _ (.lst _)=>True
 | .frz _ _=>False
 | _=>True
noncomputable def Plain (H:Hp):Prop:=∀ a o,H a=some o→okHO o
theorem Plain.upd {H:Hp} {l:Addr} {o:HO} (p:Plain H) (h:okHO o):Plain (upd H l o):=λ a u e=>by
 by_cases ha:a=l
 ·subst ha;rw [upd_same] at e;cases e;exact h
 ·rw [zta ha] at e;exact p a u e
theorem Plain.lst {H:Hp} {l:Addr} {xs:List V} (p:Plain H):Plain (L2.upd H l (.lst xs)):=p.upd trivial
theorem Plain.tup {H:Hp} {l:Addr} {xs:List V} (p:Plain H):Plain (L2.upd H l (.tup xs)):=p.upd trivial
theorem Only.plain {H:Hp} (h:Only H):Plain H:=λ a o e=>by
 rcases h a with z | ⟨o',xs,z⟩
 ·rw [z] at e;cases e
 ·rw [z] at e;cases e;exact trivial
structure Cut (H H' H'':Hp):Prop where
 sub:∀ b o,H'' b=some o→H' b=some o
 old:∀ b o,H b=some o→H'' b=H' b
 ins:∀ a C dx fs,H'' a=some (.ins C dx fs)→H'' dx=some (.own a)
 plain:Plain H''
theorem Cut.un {fs:List Addr} {H H' H'':Hp} {h h':Heap} (c:Cut H H' H'') (u:Un fs [] H H' h h'):Un fs [] H H'' h h' where
 keep:=u.keep
 slot:=u.slot
 free:=λ b o e n hx=>by
  have:=u.free b o e n hx
  cases q:H'' b with
  | none=>rfl
  | some z=>rw [c.sub b z q] at this;cases this
 there:=u.there
 tups:=λ b xs e=>by rw [c.old b _ e];exact u.tups b xs e
 frzs:=λ b o z e=>by rw [c.old b _ e];exact u.frzs b o z e
 tbls:=λ b ps e=>by rw [c.old b _ e];exact u.tbls b ps e
theorem Cut.hok {P:Program} {w:World} {H H' H'':Hp} {h:Heap} (c:Cut H H' H'') (k:HOk P w H' h):HOk P w H'' h:=λ a o e=>by
 have q:=k a o (c.sub a o e)
 cases o with
 | ins C dx fs =>
  obtain ⟨d,r⟩:=q
  exact ⟨c.ins a C dx fs e,r⟩
 | dT kvs=>exact (c.plain a _ e).elim
 | frz ob u =>
  have z:=c.plain a _ e
  cases u with
  | lst xs=>exact q
  | _=>exact z.elim
 | lst xs=>exact q
 | tup xs=>exact q
 | dK kvs=>exact q
 | set S n=>exact q
 | own x=>exact q
 | xd fs=>exact q
 | met f x=>exact q
 | rng lo hi=>exact q
 | tbl ps=>exact q
 | ext φ=>exact q
section
variable {P:Program} {w:World} {K:W.Frag} {mg:Str→Option Value} {base:Heap} {CX:CXT} {k:Nat} {f:Addr} {fd:FuncData} {ps:List Str}
theorem FnOk.cut {sp:Sp} (F:FnOk P w K mg base CX k f fd ps sp) :
  FnOk P w K mg base CX k f fd ps (λ vs H Q E=>sp vs H (λ v H'=>∃ H'',((∀ a C dx fs,H a=some (.ins C dx fs)→H dx=some (.own a))→Cut H H' H'')∧Q v H'') E) :=
 ⟨λ vs H Q E h=>F.len vs H _ E h,λ A outer s H args us vs Q E hr he hb hv h=>by
  refine codeAny_mono (F.run A outer s H args us vs _ E hr he hb hv h) λ r s' q=>?_
  cases r with
  | error e=>exact q
  | ok fl =>
   cases fl with
   | ret u =>
    obtain ⟨v,H',os,bare,un,hok,rv,H'',hc,q⟩:=q
    have c:=hc λ a C dx fs e=>(he.hok a _ e).1
    exact ⟨v,H'',os,bare,c.un un,c.hok hok,rv,q⟩
   | _=>exact q⟩
noncomputable def zwm {α:Type} (Pre:α→List V→Prop) (Post:α→V→Prop):Sp:=λ vs H Q _=>Plain H∧∃ a,Pre a vs∧∀ v,Post a v→Q v H
noncomputable def zg4 {α:Type} (Pre:α→List V→Prop) (Post:α→V→Prop):Sp:=λ vs H Q _=>Plain H∧∃ a,Pre a vs∧∀ v H',Post a v→Same H H'→Q v H'
theorem FnOk.pure {α:Type} {Pre:α→List V→Prop} {Post:α→V→Prop} (F:FnOk P w K mg base CX k f fd ps (zg4 Pre Post)):FnOk P w K mg base CX k f fd ps (zwm Pre Post) :=
 F.cut.imp λ vs H Q E ⟨hp,a,ha,q⟩=>⟨hp,a,ha,λ v H' hv hs=>⟨H,λ hi=>⟨hs,λ b o e=>by rw [e,hs b o e],hi,hp⟩,q v hv⟩⟩
end
theorem Same.upd {H H':Hp} {l:Addr} {o:HO} (s:Same H H') (hl:H l=none):Same H (L2.upd H' l o):=λ b z e=>by
 rw [zta (zeb e hl)];exact s b z e
theorem zba {H:Hp} {l:Addr} {o:HO} (hl:H l=none):Same H (upd H l o):=(Same.refl H).upd hl
theorem zwc {p:Prop} [Decidable p] {A B:Prop} (h1:p→A) (h2:¬ p→B):if decide p=true then A else B:=by
 by_cases h:p
 ·rw [if_pos (decide_eq_true h)];exact h1 h
 ·rw [if_neg (by simpa using h)];exact h2 h
theorem zmw {p:Prop} [Decidable p] {A B:Prop} (h1:¬ p→A) (h2:p→B):if (!decide p)=true then A else B:=by
 by_cases h:p
 ·rw [if_neg (by simpa using h)];exact h2 h
 ·rw [if_pos (by simpa using h)];exact h1 h
theorem zy2 {b:Bool} {A B:Prop} (h1:b=true→A) (h2:b=false→B):if b=true then A else B:=by
 cases b
 ·rw [if_neg Bool.false_ne_true];exact h2 rfl
 ·rw [if_pos rfl];exact h1 rfl
theorem join {α:Type} {ok G:α→Prop} {C:Prop} (h1:(∀ z,ok z→G z)→C) (h2:∀ z,ok z→G z):C:=h1 h2
theorem zja (x y:Str):(x++y).length=x.length+y.length:=Array.size_append
theorem zpu {ns:List Int} {lo hi:Option Int} {i:Nat} {x:V} (h:(cutV (ns.map V.int) lo hi)[i]? = some x):∃ n,x=V.int n:=by
 have hm:=List.mem_of_getElem? h
 unfold cutV at hm
 have hm:=List.mem_of_mem_drop (List.mem_of_mem_take hm)
 obtain ⟨n,_,e⟩:=List.mem_map.mp hm
 exact ⟨n,e.symm⟩
end L2
namespace L2
open PySem PySem.Spec PyProof.Rows
structure Fly (new:Addr→Prop) (H:Hp) (x C:Addr) (h:Heap):Prop where
 ob:∃ oe vs,h.get? x=some oe∧oe.cls = .ref C∧oe.dict=none∧oe.data = .fields vs∧1<vs.size ∧
  (vs[1]? = some .none ∨ ∃ T oT ts,vs[1]? = some (.ref T)∧T≠x∧h.get? T=some oT∧oT.data = .fields ts∧3<ts.size∧new T∧H T=none)
 new:new x
 free:H x=none
theorem Fly.imp {n n':Addr→Prop} {H:Hp} {x C:Addr} {h:Heap} (f:Fly n H x C h) (k:∀ b,n b→n' b):Fly n' H x C h:=by
 obtain ⟨⟨oe,vs,a,b,c,d,e,g⟩,hn,hf⟩:=f
 refine ⟨⟨oe,vs,a,b,c,d,e,g.imp id ?_⟩,k _ hn,hf⟩
 rintro ⟨T,oT,ts,a,b,c,d,e,f,g⟩
 exact ⟨T,oT,ts,a,b,c,d,e,k _ f,g⟩
theorem ztn (o:Obj) (f:Array Value→Array Value):(o.mapFields f).dict=o.dict:=by
 obtain ⟨c,d,dt,sl⟩:=o
 cases dt <;> rfl
section
variable {M:Model} {A:Around} {E:Value→Shared→Prop} {s:Shared}
theorem zfi {env env':Env} (h:env.frame=env'.frame):PySem.frameOf env=PySem.frameOf env':=by
 unfold PySem.frameOf
 rw [h]
theorem zlf {env env':Env} {e:Value} (h:env.frame=env'.frame):noteFrame e env=noteFrame e env':=by
 unfold noteFrame
 rw [zfi h,h]
structure Kept (x T:Addr) (frames:List Addr) (h h':Heap):Prop where
 keep:∀ b o,b≠x→b≠T→b∉frames→h.get? b=some o→h'.get? b=some o
 slot:∀ b o,b≠x→b≠T→h.get? b=some o→∃ sl,h'.get? b=some { o with slots:=sl }
theorem zej {base:Heap} {env:Env} {outer:List Env} {L x:Addr} {oe:Obj} {vs:Array Value} {head:Value} {hadNext:Bool} {Q:Unit→Shared→Prop}
  (hfr:A.frames=some (env::outer)) (hl:s.heap.FunFrames base (env::outer)) (hf:env.frame=some L)
  (he:s.heap.get? x=some oe) (hd:oe.data = .fields vs) (hz:1<vs.size)
  (h:∀ h' T,(∃ oe' vs',h'.get? x=some oe'∧oe'.cls=oe.cls∧oe'.dict=oe.dict∧oe'.data = .fields vs'∧1<vs'.size∧vs'[1]? = some (.ref T))→(∃ oT ts,h'.get? T=some oT∧oT.data = .fields ts∧3<ts.size)→s.heap.objs.size≤T →
   Kept x x (frs (env::outer)) s.heap h'→Q () { s with heap:=h' }) :
  wpAny M A (do let a ← PySem.frameOf env;let pl ← entryPlaceOf L hadNext;let b ← EntryCells.newEntry head a .none (rawInt L) .none pl;setField (.ref x) 1 b) Q E s:=by
 have xnf:x∉(env::outer).filterMap (·.frame):=λ hm=>by
  obtain ⟨_,o,ho,hnf⟩:=hl.mem hm
  rw [he] at ho
  cases ho
  exact hnf vs hd
 refine wpAny_bind (wpAny_frameOf_fun hfr hl hf λ h1 g1=>?_)
 refine wpAny_bind (wpAny_entryPlaceOf λ pl hpl=>?_)
 unfold EntryCells.newEntry newFields
 refine wpAny_bind (wpAny_newObj_type ?_ (hpl.sizeOk5 _ _ _ _ _))
 have e1:h1.get? x=some oe:=(g1.2.1 x xnf).trans he
 have lt1:x<h1.objs.size:=Heap.lt_size e1
 have e2:=Heap.get?_push_of_some (h:=h1) { cls := .type "traceback",dict:=none,data := .fields ([head,.ref L,.none,rawInt L,.none]++(if pl.isEmpty then List.replicate 6 Value.none else pl)).toArray } e1
 have dm:=Obj.data_mapFields hd (·.setIfInBounds 1 (Value.ref h1.objs.size))
 refine wpAny_setField e2 hd hz (h _ h1.objs.size ⟨_,_,Heap.get?_update_self _ e2 (Obj.isFreed_of_fields dm),Obj.cls_mapFields _ _,ztn _ _,dm,by simpa using hz,by simp [hz]⟩
  ⟨_,_,(Heap.get?_update_other _ _ (Nat.ne_of_lt lt1)).trans (Heap.get?_push_size _ rfl),rfl,by simp only [List.size_toArray,List.length_append,List.length_cons];omega⟩ (by rw [g1.1];exact Nat.le_refl _) ⟨λ b o bx _ bf eb=>?_,λ b o bx _ eb=>?_⟩)
 ·rw [Heap.get?_update_other _ _ (Ne.symm bx)]
  exact Heap.get?_push_of_some _ ((g1.2.1 b bf).trans eb)
 ·obtain ⟨sl,q⟩:=g1.2.2 b o eb
  exact ⟨sl,by rw [Heap.get?_update_other _ _ (Ne.symm bx)];exact Heap.get?_push_of_some _ q⟩
end
section
variable {X:Cx} {σ:St} {H:Hp} {s:Shared} {x C:Addr}
noncomputable def Cx.new (X:Cx) (b:Addr):Prop:=(∀ o,X.s₀.heap.get? b=some o→b∈X.ex)∧∀ p∈X.pn,p.1≠b
theorem Inv.stepN {h':Heap} {t':Nat} {ch:List Addr} (I:Inv X [] σ H s) (hch:∀ b∈ch,X.new b∧H b=none∧b≠X.env.locals∧∀ y c,X.env.cells.lookup y=some c→c≠b)
  (keep:∀ b o,b∉ch→b∉frs X.stack→s.heap.get? b=some o→h'.get? b=some o) (slot:∀ b o,b∉ch→s.heap.get? b=some o→∃ sl,h'.get? b=some { o with slots:=sl }) :
  Inv X [] σ H { s with heap:=h',toks:=t' }:=by
 have old:∀ b o,X.s₀.heap.get? b=some o→b∉X.ex→b∉ch:=λ b o e hx hb=>hx ((hch b hb).1.1 o e)
 have neL:∀ b o,X.s₀.heap.get? b=some o→b≠X.env.locals:=λ b o e=>Nat.ne_of_lt (Nat.lt_of_lt_of_le (Heap.lt_size e) I.ok.above)
 have trk:∀ b u,H b=some u→b∉ch:=λ b u e hb=>by have:=(hch b hb).2.1;rw [e] at this;cases this
 have trs:∀ b u,H b=some u→b∉frs X.stack:=λ b u e hb=>by have:=I.stkFree b hb;rw [e] at this;cases this
 have nfs:∀ b,b≠X.env.locals→b∉X.fs→b∉frs X.stack:=λ b h1 h2 z=>(List.mem_cons.mp (I.stkSub b z)).elim h1 h2
 have cellK:∀ y c,X.env.cells.lookup y=some c→∀ v,s.heap.IsCell c v→h'.IsCell c v:=λ y c e v ⟨o,ho,hd⟩=>by
  obtain ⟨sl,q⟩:=slot c o (λ z=>(hch c z).2.2.2 y c e rfl) ho
  exact ⟨_,q,hd⟩
 refine ⟨I.ok,I.os,I.bare,⟨λ b o e n hb hx=>?_,λ b o e n hb hx=>?_,I.base.free,λ b o e hx=>?_,I.base.tups,I.base.frzs,I.base.tbls⟩,?_,λ y c e=>?_,I.free,I.freeC,λ p hp=>?_,λ b u e=>?_,I.len⟩
 ·exact keep b o (old b o e hx) (nfs b (neL b o e) hb) (I.base.keep b o e n hb hx)
 ·obtain ⟨sl,q⟩:=I.base.slot b o e n hb hx
  obtain ⟨sl',q'⟩:=slot b _ (old b o e hx) q
  exact ⟨sl',q'⟩
 ·obtain ⟨o',q⟩:=I.base.there b o e hx
  obtain ⟨sl,q'⟩:=slot b o' (old b o e hx) q
  exact ⟨_,q'⟩
 ·obtain ⟨m,⟨o,es,ep,ho,r⟩,hl⟩:=I.loc
  obtain ⟨sl,q⟩:=slot _ o (λ z=>(hch _ z).2.2.1 rfl) ho
  refine ⟨m,⟨_,es,ep,q,r⟩,λ i y v e1 e2 e3=>?_⟩
  obtain ⟨u,ru,lk⟩:=hl i y v e1 e2 e3
  exact ⟨u,ru,lk.imp id λ ⟨k,c,e,z⟩=>⟨k,c,e,cellK y c e _ z⟩⟩
 ·obtain ⟨v,z⟩:=I.cell y c e
  exact ⟨v,cellK y c e v z⟩
 ·obtain ⟨e,n,ne,nf,d⟩:=I.pin p hp
  have hp':p∈X.pn:=by simpa using hp
  exact ⟨keep p.1 p.2 (λ z=>(hch p.1 z).1.2 p hp' rfl) (nfs p.1 ne nf) e,n,ne,nf,d⟩
 ·refine (I.hok b u e).stay (λ c v hc q=>?_) (λ _ q=>q) λ _ _ q=>q
  rcases hc with rfl | hc
  ·exact keep c v (trk c u e) (trs c u e) q
  ·exact keep c v (trk c _ hc) (trs c _ hc) q
theorem Inv.fieldsNe (I:Inv X [] σ H s) {b:Addr} {o:Obj} {vs:Array Value} (e:s.heap.get? b=some o) (d:o.data = .fields vs):b≠X.env.locals∧(∀ y c,X.env.cells.lookup y=some c→c≠b)∧b∉frs X.stack:=by
 refine ⟨λ z=>?_,λ y c ec z=>?_,λ z=>?_⟩
 ·obtain ⟨m,⟨o',es,ep,ho,r,_⟩,_⟩:=I.loc
  rw [← z,e] at ho
  cases ho
  rw [d] at r
  cases r
 ·obtain ⟨v,o',ho,hd⟩:=I.cell y c ec
  rw [z,e] at ho
  cases ho
  rw [d] at hd
  cases hd
 ·obtain ⟨_,o',ho,hnf⟩:=I.stack.mem z
  rw [e] at ho
  cases ho
  exact hnf vs d
theorem Inv.kept2 {h':Heap} {T:Addr} (I:Inv X [] σ H s) (F:Fly X.new H x C s.heap) (hT:T=x ∨ ∃ oe vs oT ts,s.heap.get? x=some oe∧oe.data = .fields vs∧vs[1]? = some (.ref T)∧s.heap.get? T=some oT∧oT.data = .fields ts)
  (k:Kept x T (frs X.stack) s.heap h'):Inv X [] σ H { s with heap:=h' }:=by
 obtain ⟨oe,vs,e,_,_,d,_,tb⟩:=F.ob
 have one:X.new x∧H x=none∧x≠X.env.locals∧∀ y c,X.env.cells.lookup y=some c→c≠x:=⟨F.new,F.free,(I.fieldsNe e d).1,(I.fieldsNe e d).2.1⟩
 have two:X.new T∧H T=none∧T≠X.env.locals∧∀ y c,X.env.cells.lookup y=some c→c≠T:=by
  rcases hT with rfl | ⟨oe',vs',oT,ts,e',d',v',eT,dT⟩
  ·exact one
  ·rw [e] at e'
   cases e'
   rw [d] at d'
   cases d'
   rcases tb with z | ⟨T',oT',ts',v,_,_,_,_,hn,hf⟩
   ·rw [z] at v';cases v'
   ·rw [v] at v'
    cases v'
    exact ⟨hn,hf,(I.fieldsNe eT dT).1,(I.fieldsNe eT dT).2.1⟩
 refine I.stepN (ch:=[x,T]) (λ b hb=>?_) (λ b o hb hs q=>k.keep b o (λ z=>hb (by simp [z])) (λ z=>hb (by simp [z])) hs q) λ b o hb q=>k.slot b o (λ z=>hb (by simp [z])) (λ z=>hb (by simp [z])) q
 have:b=x ∨ b=T:=by simpa using hb
 rcases this with rfl | rfl
 ·exact one
 ·exact two
structure Cx.Top (X:Cx):Prop where
 top:∃ env outer L,X.stack=env::outer∧env.frame=some L∧X.env.frame=some L
theorem Cx.newAt {X:Cx} {σ:St} {H:Hp} {s:Shared} (I:Inv X [] σ H s) {T:Addr} (h:s.heap.objs.size≤T):X.new T:=by
 refine ⟨λ o q=>?_,λ p hp z=>?_⟩
 ·exact absurd (Nat.lt_of_lt_of_le (Heap.lt_size q) (Nat.le_trans I.sz h)) (Nat.lt_irrefl _)
 ·have:=Heap.lt_size (I.pin p (List.mem_append_left _ hp)).1
  rw [z] at this
  exact absurd (Nat.lt_of_lt_of_le this h) (Nat.lt_irrefl _)
theorem zhi {E:Value→Shared→Prop} {Q:Unit→Shared→Prop} (I:Inv X [] σ H s) (tp:X.Top) (F:Fly X.new H x C s.heap)
  (h:∀ h',Inv X [] σ H { s with heap:=h' }→Fly X.new H x C h'→(∃ oe vs T,h'.get? x=some oe∧oe.data = .fields vs∧vs[1]? = some (.ref T))→Q () { s with heap:=h' }) :
  wpAny (model X.prog X.w) X.A (noteFrame (.ref x) X.env) Q E s:=by
 obtain ⟨env,outer,L,hst,hf,hfe⟩:=tp.top
 have hfr:X.A.frames=some (env::outer):=by rw [I.ok.frames,hst]
 have hl:s.heap.FunFrames X.base (env::outer):=by rw [← hst];exact I.stack
 obtain ⟨oe,vs,e,ec,ed,d,z,tb⟩:=id F.ob
 rw [zlf (show X.env.frame=env.frame by rw [hfe,hf])]
 unfold noteFrame
 simp only [hf]
 rcases tb with v | ⟨T,oT,ts,v,nx,eT,dT,zT,hn,hfT⟩
 ·refine wpAny_bind (wpAny_field e d v ?_)
  rw [if_neg (by decide)]
  refine zej hfr hl hf e d z λ h' T ⟨oe',vs',a1,a2,a3,a4,a5,a6⟩ ⟨oT,ts,b1,b2,b3⟩ hz k=>?_
  rw [← hst] at k
  refine h h' (I.kept2 F (.inl rfl) k) ⟨⟨oe',vs',a1,a2.trans ec,a3.trans ed,a4,a5,.inr ⟨T,oT,ts,a6,?_,b1,b2,b3,Cx.newAt I hz,I.hok.fresh hz⟩⟩,F.new,F.free⟩ ⟨_,_,_,a1,a4,a6⟩
  exact Nat.ne_of_gt (Nat.lt_of_lt_of_le (Heap.lt_size e) hz)
 ·refine wpAny_bind (wpAny_field e d v ?_)
  rw [if_pos (show (Value.ref T != Value.none)=true from by simp)]
  have v3:ts[3]? = some ts[3]:=by simp [zT]
  refine wpAny_bind (wpAny_field eT dT v3 ?_)
  by_cases hq:(ts[3] == rawInt L)=true
  ·rw [if_pos hq]
   exact wpAny_pure (h s.heap I F ⟨_,_,_,e,d,v⟩)
  ·rw [if_neg hq]
   refine wpAny_bind (wpAny_setField eT dT zT ?_)
   have oth:∀ b,b≠T→(s.heap.update T (Obj.mapFields (·.setIfInBounds 3 Value.none))).get? b=s.heap.get? b:=λ b hb=>Heap.get?_update_other _ _ (Ne.symm hb)
   have e2:(s.heap.update T (Obj.mapFields (·.setIfInBounds 3 Value.none))).get? x=some oe:=(oth x (Ne.symm nx)).trans e
   have hl2:(s.heap.update T (Obj.mapFields (·.setIfInBounds 3 Value.none))).FunFrames X.base (env::outer):=hl.of_keeps λ b o ho hnf=>⟨o,(oth b λ q=>by rw [q,eT] at ho;cases ho;exact hnf ts dT).trans ho,rfl⟩
   refine zej (s:={ s with heap:=s.heap.update T (Obj.mapFields (·.setIfInBounds 3 Value.none)) }) hfr hl2 hf e2 d z λ h' T' ⟨oe',vs',a1,a2,a3,a4,a5,a6⟩ ⟨oT',ts',b1,b2,b3⟩ hz k=>?_
   rw [← hst] at k
   have hz':s.heap.objs.size≤T':=by
    have e3:(s.heap.update T (Obj.mapFields (·.setIfInBounds 3 Value.none))).objs.size=s.heap.objs.size:=Heap.size_after_update ..
    have hz2:(s.heap.update T (Obj.mapFields (·.setIfInBounds 3 Value.none))).objs.size≤T':=hz
    omega
   have k':Kept x T (frs X.stack) s.heap h':=⟨λ b o b1 b2 b3 q=>k.keep b o b1 b1 b3 ((oth b b2).trans q),λ b o b1 b2 q=>k.slot b o b1 b1 ((oth b b2).trans q)⟩
   refine h h' (I.kept2 F (.inr ⟨_,_,_,_,e,d,v,eT,dT⟩) k') ⟨⟨oe',vs',a1,a2.trans ec,a3.trans ed,a4,a5,.inr ⟨T',oT',ts',a6,?_,b1,b2,b3,Cx.newAt I hz',I.hok.fresh hz'⟩⟩,F.new,F.free⟩ ⟨_,_,_,a1,a4,a6⟩
   exact Nat.ne_of_gt (Nat.lt_of_lt_of_le (Heap.lt_size e) hz')
theorem zkd {A:Around} {E:Value→Shared→Prop} {Q:Unit→Shared→Prop} {f:Option Addr} (I:Inv X [] σ H s) (F:Fly X.new H x C s.heap) (ht:∃ oe vs T,s.heap.get? x=some oe∧oe.data = .fields vs∧vs[1]? = some (.ref T))
  (h:∀ h',Inv X [] σ H { s with heap:=h' }→Fly X.new H x C h'→(∃ oe vs T,h'.get? x=some oe∧oe.data = .fields vs∧vs[1]? = some (.ref T))→Q () { s with heap:=h' }) :
  wpAny (model X.prog X.w) A (setFlight (.ref x) f) Q E s:=by
 obtain ⟨oe,vs,e,ec,ed,d,z,tb⟩:=id F.ob
 obtain ⟨oe',vs',T,e',d',v⟩:=ht
 rw [e] at e'
 cases e'
 rw [d] at d'
 cases d'
 rcases tb with v' | ⟨T',oT,ts,v',nx,eT,dT,zT,hn,hfT⟩
 ·rw [v'] at v;cases v
 rw [v'] at v
 cases v
 unfold setFlight
 refine wpAny_bind (wpAny_field e d v' ?_)
 rw [if_pos (show (Value.ref T != Value.none)=true from by simp)]
 refine wpAny_setField eT dT zT ?_
 have oth:∀ b,b≠T→(s.heap.update T (Obj.mapFields (·.setIfInBounds 3 (f.elim Value.none λ f=>rawInt f)))).get? b=s.heap.get? b:=λ b hb=>Heap.get?_update_other _ _ (Ne.symm hb)
 have dm:=Obj.data_mapFields dT (·.setIfInBounds 3 (f.elim Value.none λ f=>rawInt f))
 have e2:=(oth x (Ne.symm nx)).trans e
 refine h _ (I.kept2 F (.inr ⟨_,_,_,_,e,d,v',eT,dT⟩) ⟨λ b o _ b2 _ q=>(oth b b2).trans q,λ b o _ b2 q=>⟨o.slots,(oth b b2).trans q⟩⟩)
  ⟨⟨oe,vs,e2,ec,ed,d,z,.inr ⟨T,_,_,v',nx,Heap.get?_update_self _ eT (Obj.isFreed_of_fields dm),dm,by simpa using zT,hn,hfT⟩⟩,F.new,F.free⟩ ⟨_,_,_,e2,d,v'⟩
end
end L2
namespace L2
open PySem PySem.Spec PyProof.Rows
noncomputable def CX1 (P:Program) (w:World) (base:Heap):CXT:=λ outer H s E e s'=>∃ (x C:Addr) (H':Hp),e = .ref x∧s'.os=s.os∧AllBare s'.gens∧Un (frs outer) [] H H' s.heap s'.heap∧HOk P w H' s'.heap ∧
 Fly (λ b=>s.heap.get? b=none) H' x C s'.heap∧E (.ref C) none H'
noncomputable def Wants (X:Cx) (E:XK):Prop:=∀ (σ:St) (H':Hp) (s':Shared) (x C:Addr),Inv X [] σ H' s'→Fly X.new H' x C s'.heap→E (.ref C) none H'→X.xe (.ref x) s'
theorem zw1 {X:Cx} {pins:List (Addr×Obj)} {σ:St} {H:Hp} {s:Shared} (I:Inv X pins σ H s) {b:Addr} (h:s.heap.get? b=none):X.new b:=by
 refine ⟨λ o e=>?_,λ p hp z=>?_⟩
 ·by_cases hx:b∈X.ex
  ·exact hx
  ·obtain ⟨o',q⟩:=I.base.there b o e hx
   rw [h] at q
   cases q
 ·have:=(I.pin p (List.mem_append_left _ hp)).1
  rw [z,h] at this
  cases this
theorem Inv.nopins {X:Cx} {pins:List (Addr×Obj)} {σ:St} {H:Hp} {s:Shared} (I:Inv X pins σ H s):Inv X [] σ H s:=I.pins_of λ p hp=>absurd hp (by simp)
theorem Wants.passes {X:Cx} {E:XK} (W:Wants X E):zro (CX1 X.prog X.w X.base) X E:=λ pins σ H s e s' I ⟨x,C,H',ee,os,bare,un,hok,F,q⟩=>by
 subst ee
 have J:Inv X pins σ H' s':=I.call' (ch:=[]) os un hok bare λ b z=>absurd z (by simp)
 exact W σ H' s' x C J.nopins (F.imp λ b hb=>zw1 I hb) q
theorem zac {P:Program} {w:World} {base:Heap} {X:Cx}:zro (CX1 P w base) X E0:=λ _ _ _ _ _ _ _ ⟨_,_,_,_,_,_,_,_,_,q⟩=>q.elim
theorem zia {P:Program} {w:World} {K:W.Frag} {mg:Str→Option Value} {base:Heap} {N:List Str} {qual:Str} {scope:Scope} {f:Addr} {cd:Value} {A:Around} {outer:List Env} {s:Shared} {H:Hp} {E:XK} :
  Wants (cxOf (CX1 P w base) P w K mg base N qual scope f cd A outer s H E) E:=λ σ H' s' x C I F q=>by
 refine wpAny_bind (zhi I ⟨⟨_,_,_,rfl,rfl,rfl⟩⟩ F λ h1 I1 F1 t1=>?_)
 refine zkd I1 F1 t1 λ h2 I2 F2 _=>?_
 refine ⟨x,C,H',rfl,I2.os,I2.bare,I2.base,I2.hok,F2.imp λ b hb=>?_,q⟩
 cases e:s.heap.get? b with
 | none=>rfl
 | some o=>exact absurd (hb.1 o e) (by simp [cxOf])
section
variable {P:Program} {w:World} {K:W.Frag} {mg:Str→Option Value} {base:Heap}
theorem Fun.okX {x qual:Str} {st:Stmt} {f:Addr} {fd:FuncData} {N ps:List Str} {k:Nat} {sp:Sp} (F:Fun K x qual st f fd) (S:FnScope N ps (zha st)) (len:∀ vs H Q E,sp vs H Q E→vs.length=ps.length)
  (hbody:∀ (cdv:Value) (A:Around) (outer:List Env) (s:Shared) (H:Hp) (vs:List V) (Q:VK) (E:XK),Room k (A.deeper (envOfC qual (zha st) s.heap.objs.size f cdv))→sp vs H Q E →
   ∃ t,PSs (cxOf (CX1 P w base) P w K mg base N qual (zha st) f cdv A outer s H E) (zle st) t∧t { nx:=λ _ H'=>Q .non H',rt:=Q } (zdo N vs) H):FnOk P w K mg base (CX1 P w base) (k+1) f fd ps sp:=by
 obtain ⟨oc,od,kV,doc,pm,an,cdv,ct,osl,rfl,lk,hcd⟩:=F.ex
 exact zl4 lk hcd S len λ A outer s H vs Q E hr hsp=>hbody cdv A outer s H vs Q E hr hsp
theorem Fun.okN {x qual:Str} {st:Stmt} {f:Addr} {fd:FuncData} {N ps:List Str} {k:Nat} {sp:Sp} (F:Fun K x qual st f fd) (S:FnScope N ps (zha st)) (len:∀ vs H Q E,sp vs H Q E→vs.length=ps.length)
  (hbody:∀ (cdv:Value) (A:Around) (outer:List Env) (s:Shared) (H:Hp) (vs:List V) (Q:VK) (E:XK),Room k (A.deeper (envOfC qual (zha st) s.heap.objs.size f cdv))→sp vs H Q E →
   ∃ t,PSs (cxOf (CX1 P w base) P w K mg base N qual (zha st) f cdv A outer s H E).nox (zle st) t∧t { nx:=λ _ H'=>Q .non H',rt:=Q } (zdo N vs) H):FnOk P w K mg base (CX1 P w base) (k+1) f fd ps sp :=
 F.okX S len λ cdv A outer s H vs Q E hr hsp=>let ⟨t,h,q⟩:=hbody cdv A outer s H vs Q E hr hsp; ⟨t,h.nox,q⟩
end
abbrev bmV:List Value:=[.type "ValueError",.type "Exception",.type "BaseException",.type "object"]
structure XCls (K:W.Frag) (C:Addr):Prop where
 ex:W.excIn K C bmV "ValueError.__new__" = true
 ga:W.findIn K (.ref C) "__getattribute__" = some (some (.builtin "BaseException.__getattribute__"))
 gn:W.findIn K (.ref C) "__getattr__" = some none
 be:W.subIn K (.ref C) (.type "BaseException")=some true
 hd:W.hasDictIn K C=true
 ca:W.findIn K (.ref C) "__class__" = some (some (.builtin "object.__class__"))
 mo:W.mroIn K C (.type "object")=some true
 gs:W.specialIn K (.builtin "object.__class__") "__get__" = some (some (.builtin "getset_descriptor.__get__"))
 tk:W.takesIn K (.builtin "object.__class__")=some true
theorem XCls.obj {K:W.Frag} {C:Addr} {h:Heap} (c:XCls K C) (X:K.In h):∃ bm N nm q bs hdct sn sub ab col dd k0 k1 k2 k3 k5 mN,
  h.get? C=some (excClassObj nm q C N bs bm hdct sn sub ab col dd k0 k1 k2 k3 k5 "ValueError.__new__")∧h.Ns N mN∧mN "__init__" = none∧OwnTail h bmV bm ∧
  ∀ b r,W.mroIn K C b=some r→(Value.ref C::bm).contains b=r:=by
 have q:=c.ex
 unfold W.excIn at q
 split at q
 ·rename_i dd cd sl ho
  split at q
  ·rename_i C' bm k0 k1 k2 k3 n k5 hm hs
   simp only [Bool.and_eq_true,beq_iff_eq,Bool.not_eq_true'] at q
   obtain ⟨⟨⟨⟨⟨rfl,rfl⟩,hdel⟩,ht⟩,hok⟩,hni⟩:=q
   have hmro:∀ b r,W.mroIn K C' b=some r→(Value.ref C'::bm).contains b=r:=λ b r e=>by
    unfold W.mroIn W.clsIn at e
    rw [ho] at e
    simp only [Option.bind_some,hm] at e
    simpa using e
   obtain ⟨nm,bs,mro,ns,qn,hd,sn,sub,ab,col,del⟩:=cd
   dsimp only at hm hdel hok hni
   subst hm hdel
   have hsl:sl = #[k0,k1,k2,k3,some (.builtin "ValueError.__new__"),k5]:=by
    obtain ⟨l⟩:=sl
    simp only at hs
    rw [hs]
   subst hsl
   exact ⟨bm,ns,nm,qn,bs,hd,sn,sub,ab,col,dd,k0,k1,k2,k3,k5,_,X _ _ ho,.of_isNs (W.isNs_of_in X hok),W.nsMap_none_of_in X hok hni,W.tail_of_in X ht,hmro⟩
  ·cases q
 ·cases q
section
variable {X:Cx}
noncomputable def zyy (C:Addr) (E:XK) (ta:TA):TS:=λ _ σ H=>ta σ H λ vs H1=>vs.length≤sizeLine∧E (.ref C) none H1
theorem zfb {C:Addr} {E:XK} {n:Str} {e:Expr} {es:List Expr} {ta:TA} {np cpos pos:Pos} (xc:XCls X.K C) (W:Wants X E) (hc:X.calm=true) (hg:Gl X n) (hm:X.mg n=some (.ref C)) (ha:PA X (e::es) ta)
  (hs:starEach (e::es) X.env=(false,eval e X.env)::starEach es X.env:=by rfl) (hp:(backTo cpos (starEach es X.env)).any (·.1)=false:=by rfl) (hdb:(n == ("__debug__" : Str))=false:=by decide) :
  PS X (.Raise (some (.Call (.Name n np) (e::es) [] cpos)) none pos) (zyy C E ta) := .mk <| by
 intro pins s σ H D I h
 obtain ⟨bm,N,nm,q,bs,hdct,sn,sub,ab,col,dd,k0,k1,k2,k3,k5,mN,hC,hN,hni,T,_⟩:=xc.obj I.mod.kin
 refine wpAny_Raise_call_subT (C:=C) (nm:=nm) (q:=q) (N:=N) (bs:=bs) (bm:=bm) (hdct:=hdct) (sn:=sn) (sub:=sub) (ab:=ab) (col:=col) (dd:=dd) (k0:=k0) (k1:=k1) (k2:=k2) (k3:=k3) (k5:=k5)
  PySem.F.excBase_ValueError (mN:=mN) (T.hasType (by decide)) (I.ok.hd hc) (by rw [hs];show (false || (backTo cpos (starEach es X.env)).any (·.1))=false;rw [hp];rfl) hni (zig I hg hm ⟨rfl,?_⟩ hdb)
 have hA:=ha cpos pins s σ H _ I h
 rw [hs] at hA ⊢
 refine Calls.evalArgs_plain (thn hA λ us s1 ⟨vs,H1,I1,r1,hl,hE⟩=>⟨rfl,by rw [← r1.length];exact hl,I1.bk _ _ hC,hN.keeps I1.bk,T.keeps I1.bk,λ h' x mk=>?_⟩)
 obtain ⟨t,e1,_,_⟩:=mk.there
 have J:Inv X [] σ H1 { s1 with heap:=h' }:=(I1.kept (t':=s1.toks) mk.keeps).nopins
 refine W σ H1 _ x C J ⟨⟨_,_,e1,rfl,rfl,rfl,by simp,.inl rfl⟩,zw1 I1 mk.new,?_⟩ hE
 cases z:H1 x with
 | none=>rfl
 | some o =>
  have:=(I1.hok x o z)
  have lt:∃ ob,s1.heap.get? x=some ob:=by
   cases o with
   | lst xs=>obtain ⟨_,_,_,_,e⟩:=this;exact ⟨_,e⟩
   | tup xs=>obtain ⟨_,_,_,p⟩:=this;obtain ⟨ob,e,_⟩:=p;exact ⟨_,e⟩
   | dK kvs=>obtain ⟨_,_,_,_,o,_,_,e,_⟩:=this;exact ⟨_,e⟩
   | dT kvs=>obtain ⟨_,_,_,_,o,_,_,e,_⟩:=this;exact ⟨_,e⟩
   | set S n=>obtain ⟨o,_,_,_,e,_⟩:=this;exact ⟨_,e⟩
   | ins C dx fs=>obtain ⟨_,_,_,e,_⟩:=this;exact ⟨_,e⟩
   | own y=>exact this
   | xd fs=>obtain ⟨_,⟨_,_,_,e,_⟩,_⟩:=this;exact ⟨_,e⟩
   | rng lo hi=>obtain ⟨_,_,_,e⟩:=this;exact ⟨_,e⟩
   | frz ob u=>obtain ⟨e,_⟩:=this;exact ⟨_,e⟩
   | tbl ps=>exact ⟨_,(show s1.heap.get? x=some _ from this)⟩
   | met f y=>exact ⟨_,(show s1.heap.get? x=some _ from this)⟩
   | ext φ=>obtain ⟨_,e,_⟩:=this;exact e
  obtain ⟨ob,e⟩:=lt
  rw [mk.new] at e
  cases e
end
end L2
namespace L2
open PySem PySem.Spec PyProof.Rows
noncomputable def excO (x C:Addr):HO := .ext λ h=>∃ o,h.get? x=some o∧o.cls = .ref C∧o.dict=none∧W.notCls o=true
noncomputable def Cx.tryC (X:Cx) (E':Value→Shared→Prop) (pn':List (Addr×Obj)):Cx:={ X with xe:=E',pn:=X.pn++pn' }
noncomputable def Cx.hand (X:Cx) (x:Addr):Cx:={ X with A:=X.A.mark (some (.ref x)),calm:=false,xe:=λ _ _=>False }
section
variable {X:Cx} {pins:List (Addr×Obj)} {σ:St} {H:Hp} {s:Shared} {x C D:Addr}
theorem Inv.toTry (I:Inv X pins σ H s) (E':Value→Shared→Prop):Inv (X.tryC E' pins) [] σ H s :=
 ⟨⟨I.ok.mod,I.ok.kind,I.ok.glob,I.ok.blt,I.ok.above,I.ok.inj,I.ok.has,I.ok.cab,I.ok.hd,I.ok.frames,I.ok.stk,I.ok.exf,I.ok.bs,I.ok.bsz,I.ok.noex,I.ok.exfs,I.ok.funs,I.ok.frf⟩,I.os,I.bare,I.base,I.loc,I.cell,I.free,I.freeC,λ p hp=>I.pin p (by simpa [Cx.tryC] using hp),I.hok,I.len⟩
theorem Inv.ofTry {E':Value→Shared→Prop} (I:Inv (X.tryC E' pins) [] σ H s):Inv X pins σ H s :=
 ⟨⟨I.ok.mod,I.ok.kind,I.ok.glob,I.ok.blt,I.ok.above,I.ok.inj,I.ok.has,I.ok.cab,I.ok.hd,I.ok.frames,I.ok.stk,I.ok.exf,I.ok.bs,I.ok.bsz,I.ok.noex,I.ok.exfs,I.ok.funs,I.ok.frf⟩,I.os,I.bare,I.base,I.loc,I.cell,I.free,I.freeC,λ p hp=>I.pin p (by simpa [Cx.tryC] using hp),I.hok,I.len⟩
theorem Inv.toHand (I:Inv X pins σ H s) (x:Addr):Inv (X.hand x) pins σ H s :=
 ⟨⟨I.ok.mod,I.ok.kind,I.ok.glob,I.ok.blt,I.ok.above,I.ok.inj,I.ok.has,I.ok.cab,λ z=>absurd z Bool.false_ne_true,I.ok.frames,I.ok.stk,I.ok.exf,I.ok.bs,I.ok.bsz,I.ok.noex,I.ok.exfs,I.ok.funs,I.ok.frf⟩,I.os,I.bare,I.base,I.loc,I.cell,I.free,I.freeC,I.pin,I.hok,I.len⟩
theorem Inv.ofHand {y:Addr} (I:Inv (X.hand y) pins σ H s) (hd:X.calm=true→X.A.handled=none):Inv X pins σ H s :=
 ⟨⟨I.ok.mod,I.ok.kind,I.ok.glob,I.ok.blt,I.ok.above,I.ok.inj,I.ok.has,I.ok.cab,hd,I.ok.frames,I.ok.stk,I.ok.exf,I.ok.bs,I.ok.bsz,I.ok.noex,I.ok.exfs,I.ok.funs,I.ok.frf⟩,I.os,I.bare,I.base,I.loc,I.cell,I.free,I.freeC,I.pin,I.hok,I.len⟩
theorem Inv.track (I:Inv X pins σ H s) (hn:∀ o,X.s₀.heap.get? x=some o→x∈X.ex) (hp:∀ p∈X.pn++pins,p.1≠x) (hf:H x=none)
  (ob:∃ oe vs,s.heap.get? x=some oe∧oe.cls = .ref C∧oe.dict=none∧oe.data = .fields vs):Inv X pins σ (upd H x (excO x C)) s:=by
 obtain ⟨oe,vs,e,ec,ed,d⟩:=ob
 obtain ⟨n1,n2,n3⟩:=I.nopins.fieldsNe e d
 have ne:∀ b u,H b=some u→b≠x:=λ b u q=>zeb q hf
 refine ⟨I.ok,I.os,I.bare,⟨I.base.keep,I.base.slot,λ b o q n hx=>?_,I.base.there,λ b xs q=>?_,λ b o u q=>?_,λ b ps q=>?_⟩,I.loc,I.cell,?_,λ y c q=>?_,λ p hp'=>?_,λ b u q=>?_,I.len⟩
 ·rw [zta (λ z=>hx (by subst z;exact hn o q))];exact I.base.free b o q n hx
 ·have:=I.base.tups b xs q;rw [zta (ne b _ this)];exact this
 ·have:=I.base.frzs b o u q;rw [zta (ne b _ this)];exact this
 ·obtain ⟨m,q'⟩:=I.base.tbls b ps q;exact ⟨m,by rw [zta (ne b _ q')];exact q'⟩
 ·rw [zta (Ne.symm n1)];exact I.free
 ·rw [zta (n2 y c q)];exact I.freeC y c q
 ·obtain ⟨a,b,c⟩:=I.pin p hp'
  exact ⟨a,by rw [zta (hp p hp')];exact b,c⟩
 ·by_cases hb:b=x
  ·subst hb
   rw [upd_same] at q
   cases q
   refine ⟨⟨oe,e,ec,ed,?_⟩,⟨oe,e⟩,λ h1 h2 ⟨o,a1,a2⟩ k=>⟨o,k o a1,a2⟩⟩
   unfold W.notCls
   rw [d]
  ·rw [zta hb] at q
   exact (I.hok b u q).stay (λ _ _ _ z=>z) (λ c z=>by rw [zta (ne c _ z)];exact z) λ c xs z=>by rw [zta (ne c _ z)];exact z
theorem Inv.goes {i:Nat} {n:Str} {h':Heap} {t':Nat} {v:Option Value} {m:Str→Option Value} (I:Inv X pins σ H s) (hN:X.N.Nodup) (hi:X.N[i]? = some n) (hm:s.heap.Ns X.env.locals m)
  (hl:∀ (j:Nat) (y:Str) (u:V),X.N[j]? = some y→σ[j]? = some (some u)→Vis X.env.scope y→∃ w,RelV u w∧Look X.env s.heap m y w)
  (hn:h'.Ns X.env.locals (λ y=>if y=n then v else m y)) (hs:Heap.SameBut X.env.locals s.heap h'):Inv X pins (σ.set i none) H { s with heap:=h',toks:=t' }:=by
 have neL:∀ b o,X.s₀.heap.get? b=some o→b≠X.env.locals:=λ b o e=>Nat.ne_of_lt (Nat.lt_of_lt_of_le (Heap.lt_size e) I.ok.above)
 have cl:∀ y c,X.env.cells.lookup y=some c→∀ w,s.heap.IsCell c w→h'.IsCell c w:=λ y c e w z=>z.sameBut hs (I.cne y c e)
 refine ⟨I.ok,I.os,I.bare,⟨λ b o e k hb hx=>(hs.2 b (neL b o e)).trans (I.base.keep b o e k hb hx),λ b o e k hb hx=>?_,I.base.free,λ b o e hx=>?_,I.base.tups,I.base.frzs,I.base.tbls⟩,⟨_,hn,λ j y u e1 e2 e3=>?_⟩,λ y c e=>?_,I.free,I.freeC,λ p hp=>?_,λ b u e=>?_,by rw [List.length_set];exact I.len⟩
 ·obtain ⟨sl,q⟩:=I.base.slot b o e k hb hx;exact ⟨sl,(hs.2 b (neL b o e)).trans q⟩
 ·obtain ⟨o',q⟩:=I.base.there b o e hx;exact ⟨o',(hs.2 b (neL b o e)).trans q⟩
 ·by_cases hj:j=i
  ·subst hj
   rw [List.getElem?_set] at e2
   simp at e2
  ·rw [List.getElem?_set_ne (Ne.symm hj)] at e2
   obtain ⟨w,r,q⟩:=hl j y u e1 e2 e3
   refine ⟨w,r,?_⟩
   rcases q with ⟨k,e⟩ | ⟨k,c,e,z⟩
   ·have ny:y≠n:=λ z=>hj (zgh hN e1 (by rw [z];exact hi))
    exact .inl ⟨k,by simp only [if_neg ny];exact e⟩
   ·exact .inr ⟨k,c,e,cl y c e _ z⟩
 ·obtain ⟨w,z⟩:=I.cell y c e;exact ⟨w,cl y c e w z⟩
 ·obtain ⟨e,k,ne,nf,d⟩:=I.pin p hp
  exact ⟨(hs.2 p.1 ne).trans e,k,ne,nf,d⟩
 ·refine (I.hok b u e).stay (λ c w hc q=>(hs.2 c ?_).trans q) (λ _ q=>q) λ _ _ q=>q
  rintro rfl
  rcases hc with rfl | hc
  ·rw [I.free] at e;cases e
  ·rw [I.free] at hc;cases hc
theorem zjo {M:Model} {A:Around} {E:Value→Shared→Prop} {K:W.Frag} {oe:Obj} {b:Bool} {Q:Bool→Shared→Prop} (X:K.In s.heap) (xd:XCls K D) (xc:XCls K C) (hs:W.mroIn K C (.ref D)=some b)
  (he:s.heap.get? x=some oe) (hcls:oe.cls = .ref C) (hq:Q b s):wpAny M A (excMatches (.ref x) (.ref D)) Q E s:=by
 obtain ⟨bm,N,nm,q,bs,hdct,sn,sub,ab,col,dd,k0,k1,k2,k3,k5,mN,hD,_,_,T,_⟩:=xd.obj X
 obtain ⟨bm',N',nm',q',bs',hdct',sn',sub',ab',col',dd',l0,l1,l2,l3,l5,mN',hC,_,_,T',hmC⟩:=xc.obj X
 have hcB:(Value.ref D::bm).contains (.type "BaseException")=true:=by rw [List.contains_cons,T.hasType (b:=true) (by decide),Bool.or_true]
 have hcC:=hmC _ _ hs
 have f:=tc_notTuple
 obtain ⟨h,g,d,t,os⟩:=s
 unfold excMatches
 repeat (first | (with_reducible refine wpAny_loadPart_at he ?_;rw [hcls]) | with_reducible refine wpAny_loadPart_at hD ?_ | (with_reducible refine wpAny_isSubtype_exc hD ?_;rw [hcB]) | (with_reducible refine wpAny_isSubtype_exc hC ?_;rw [hcC]) | wp_step)
 cases b <;> (wp_walk;exact hq)
noncomputable def zll (CX:CXT) (X:Cx) (σ:St) (E:XK):Prop:=∀ (pins:List (Addr×Obj)) (H:Hp) (s:Shared) (e:Value) (s':Shared),Inv X pins σ H s→CX X.stack H s E e s'→X.xe e s'
theorem zhl {CX:CXT} {k:Nat} {f:Addr} {fd:FuncData} {ps:List Str} {sp:Sp} {dvs:List V} {ds:List Value} {E:XK} {y:Str} {p pos:Pos} {e:Expr} {es:List Expr} {t:TA} {σ₀:St}
  (F:FnOk X.prog X.w X.K X.mg X.base CX k f fd ps sp) (hr:Room k X.A) (hg:Gl X y) (hm:X.mg y=some (.ref f)) (hk:W.keepIn X.K (.ref f)=true) (hb:Binds X.K fd ps ds) (hd:Vals dvs ds) (hx:zll CX X σ₀ E)
  (ha:PA X (e::es) t) (hdb:(y == ("__debug__" : Str))=false:=by decide) (he:starEach (e::es) X.env=(false,eval e X.env)::starEach es X.env:=by rfl) (hpl:(backTo pos (starEach es X.env)).any (·.1)=false:=by rfl) :
  PE X (.Call (.Name y p) (e::es) [] pos) (λ σ H Q=>σ=σ₀∧zb2 sp dvs E t σ H Q) := .mk <| by
 rintro pins s σ H Q I ⟨rfl,h⟩
 refine wpAny_Call_Name_kw (zig I hg hm ?_ hdb)
 refine W.callWith_K (h₀:=X.base) I.ok.mod.kin hk (thn (ha pos pins s σ H _ I h) λ us s1 ⟨vs,H1,I1,r,q⟩=>⟨I1.kIn,?_⟩) he hpl
 have r2:Vals (vs++dvs) (us++ds):=r.append hd
 have hl:(us++ds).length=ps.length:=by rw [← r2.length];exact F.len _ _ _ _ q
 refine wpAny_call (codeAny_mono (F.run X.A X.stack s1 H1 ⟨us,[]⟩ (us++ds) (vs++dvs) Q E hr I1.env0 (hb s1 us I1.kIn hl) r2 q) λ r s' hq=>?_)
 cases r with
 | error e=>exact hx pins H1 s1 e s' I1 hq
 | ok fl =>
  cases fl with
  | ret u=>exact I1.after hq
  | next=>exact False.elim hq
  | brk=>exact False.elim hq
  | cont=>exact False.elim hq
end
end L2
namespace L2
open PySem PySem.Spec PyProof.Rows
noncomputable def ExcAt (x C:Addr) (h:Heap):Prop:=∃ o,h.get? x=some o∧o.cls = .ref C∧o.dict=none∧W.notCls o=true
theorem ExcAt.inst {x C:Addr} {h:Heap} (p:ExcAt x C h):∃ ox,W.InstAt h x ox C none:=by
 obtain ⟨o,a,b,c,d⟩:=p
 refine ⟨o,a,b,d,?_⟩
 rw [c]
 trivial
theorem zzo {M:Model} {A:Around} {E:Value→Shared→Prop} {s:Shared} {K:W.Frag} {x C:Addr} {ox:Obj} {nameV:Value} {Q:Unit→Shared→Prop} (X:K.In s.heap) (I:W.InstAt s.heap x ox C none)
  (be:W.subIn K (.ref C) (.type "BaseException")=some true) (h:Q () s):wpAny M A (checkBuiltinCall "BaseException.__getattribute__" ⟨[.ref x,nameV],[]⟩) Q E s:=by
 have hk:builtinKind "BaseException.__getattribute__" = some .slot:=by decide +kernel
 have hsplit:splitId "BaseException.__getattribute__" = some ("BaseException", "__getattribute__"):=by decide +kernel
 have ha:=F.args_bexc_ga (.ref x) nameV
 have L0:=I.type (M:=M)
 have L1:=W.looks_subIn (M:=M) X be
 simp only [checkBuiltinCall,hk,hsplit]
 refine wpAny_bind ?_
 unfold isInstance
 refine wpAny_bind (L0.at (L1.at ?_))
 repeat wp_step
 exact h
theorem zgo {prog:Program} {w:World} {A:Around} {E:Value→Shared→Prop} {s:Shared} {K:W.Frag} {x C:Addr} {ox:Obj} {tk:Tok} {P:Fin→Shared→Prop} (X:K.In s.heap) (I:W.InstAt s.heap x ox C none)
  (hf:W.findObj K C none "__class__" = some (.bind (.builtin "getset_descriptor.__get__") (.builtin "object.__class__"))) (mo:W.mroIn K C (.type "object")=some true) (h:P (.done (.ret (.ref C))) s) :
  wpAny (model prog w) A (Builtin.«object.__getattribute__» ⟨[.ref x,.str "__class__" tk],[]⟩) P E s:=by
 have L0:=I.type (M:=model prog w)
 have L1:=W.looks_find (M:=model prog w) X I hf
 refine wpAny_bind (wpAny_pure (wpAny_bind (wpAny_pure (wpAny_bind (L0.at (wpAny_bind (L1.at ?_)))))))
 show wpAny _ _ (holding [Value.builtin "object.__class__"] (call (.builtin "getset_descriptor.__get__") [.builtin "object.__class__",.ref x,.ref C]) >>= ret) _ _ _
 exact wpAny_bind (wpAny_holding (wpAny_call (W.class_get (ox:=ox) (od:=none) X I mo (wpAny_pure h))))
theorem zgp {prog:Program} {w:World} {A:Around} {E:Value→Shared→Prop} {s:Shared} {K:W.Frag} {x C:Addr} {ox:Obj} {Q:Option Value→Shared→Prop} (xc:XCls K C) (X:K.In s.heap) (I:W.InstAt s.heap x ox C none)
  (h:Q (some (.ref C)) { s with toks:=s.toks+1 }):wpAny (model prog w) A (getAttr? (.ref x) "__class__") Q E s:=by
 have hf:W.findObj K C none "__class__" = some (.bind (.builtin "getset_descriptor.__get__") (.builtin "object.__class__")):=by
  obtain ⟨cd,hc,_⟩:=W.any_some xc.hd
  unfold W.findObj
  rw [hc,Option.bind_some,xc.ca,Option.bind_some]
  simp only [xc.gs,xc.tk,Option.bind_some]
 obtain ⟨hh,g,d,t,os⟩:=s
 have L0:=I.type (M:=model prog w)
 have L1:=W.looks_findIn (M:=model prog w) X xc.ga
 have L2:=W.looks_findIn (M:=model prog w) X xc.gn
 have f3:=F.attr_ValueError.ga.bind (.ref x)
 unfold getAttr? getAttrBy? getAttrBy
 refine wpAny_bind (wpAny_mkText (wpAny_bind (wpAny_attempt (wpAny_holding (wpAny_bind (L0.at (wpAny_bind (L1.at ?_))))))))
 show wpAny _ _ (getAttrByItsOwn _ _ _ _ _ _) _ _ _
 unfold getAttrByItsOwn
 refine wpAny_bind ?_
 show wpAny _ _ (typeLookup (.ref C) "__getattr__") _ _ _
 refine L2.at (wpAny_bind (wpAny_attempt (wpAny_holding ?_)))
 show wpAny _ _ (boundAndCalled _ _ _) _ _ _
 unfold boundAndCalled
 rw [f3]
 refine wpAny_bind (wpAny_pure ?_)
 exact wpAny_call (codeAny_call_builtin F.attr_ValueError.ga.plain F.entry_bexc_ga (zzo (s:=⟨hh,g,d,t+1,os⟩) X I xc.be (zgo (s:=⟨hh,g,d,t+1,os⟩) X I hf xc.mo (W.handed_on rfl (wpAny_pure h)))))
theorem ztl {K:W.Frag} {x C:Addr} (xc:XCls K C):W.KitX K (.ref x) (.ref C) (ExcAt x C) where
 ty:=λ _ _ _ p=>let ⟨_,I⟩:=p.inst;I.type
 it:=λ M h X _=>by
  obtain ⟨cdD,hcD,_⟩:=W.any_some xc.hd
  unfold W.clsIn at hcD
  split at hcD
  ·rename_i c' d' cd' sl' ho
   intro A' Q' E' s' k q
   unfold isType loadHead
   exact wpAny_bind (wpAny_loadPart (k _ _ (X _ _ ho)) (wpAny_pure q))
  ·cases hcD
 ne:=λ h tp dd its n sl X htp=>by
  obtain ⟨cdD,hcD,_⟩:=W.any_some xc.hd
  refine Bool.eq_false_iff.mpr λ q=>?_
  have e:C=tp:=Value.ref.inj (beq_iff_eq.mp q)
  subst e
  unfold W.clsIn at hcD
  split at hcD
  ·rename_i c' d' cd' sl' ho
   cases (X _ _ ho).symm.trans htp
  ·cases hcD
 ca:=fun {prog w A E Q s} X p h=>by
  obtain ⟨ox,I⟩:=p.inst
  exact zgp xc X I h
noncomputable def clsV:V→Option Value
 | .ref a=>some (.ref a)
 | .ty n=>some (.type n)
 | _=>none
theorem zok {v:V} {u c:Value} (r:RelV v u) (e:clsV v=some c):u=c:=by
 cases v with
 | ref a=>cases e;exact r
 | ty n=>cases e;exact r
 | _=>cases e
section
variable {X:Cx}
theorem zug:zwi X (.builtin "isinstance") (λ xs H Q=>∃ x C v c b,xs=[.ref x,v]∧H x=some (excO x C)∧XCls X.K C∧clsV v=some c∧W.kitOne X.K (.ref C) c=some b∧Q (.bl b) H):=by
 intro pins s σ H xs us Q I rv h
 obtain ⟨x,C,v,c,b,rfl,hx,xc,hv,hk,q⟩:=h
 obtain ⟨u,u',rfl,ru,rv'⟩:=rv.two
 cases (show u=Value.ref x from ru)
 have e:=zok rv' hv
 subst e
 have p:ExcAt x C s.heap:=(show ObjOk X.prog X.w H s.heap x (excO x C) from I.hok x _ hx).1
 exact W.kia_one (ztl xc) I.kIn p hk (λ z=>nomatch z) λ tk=>⟨.bl b,H,I.tok tk,rfl,q⟩
theorem zuk:∀ {vs:List V} {cs us:List Value},vs.map clsV=cs.map some→Vals vs us→us=cs
 | [],cs,us,e,r=>by
  cases r
  cases cs with
  | nil=>rfl
  | cons c cs=>cases e
 | v::vs,cs,us,e,r=>by
  cases r with
  | cons h t =>
   cases cs with
   | nil=>cases e
   | cons c cs =>
    simp only [List.map_cons,List.cons.injEq] at e
    rw [zok h e.1,zuk e.2 t]
theorem zxj:zwi X (.builtin "isinstance") (λ xs H Q=>∃ x C tp vs cs b,xs=[.ref x,.ref tp]∧H x=some (excO x C)∧XCls X.K C∧H tp=some (.tup vs)∧vs.map clsV=cs.map some∧W.kitAny X.K (.ref C) cs=some b∧Q (.bl b) H):=by
 intro pins s σ H xs us Q I rv h
 obtain ⟨x,C,tp,vs,cs,b,rfl,hx,xc,ht,hv,hk,q⟩:=h
 obtain ⟨u,u',rfl,ru,rv'⟩:=rv.two
 cases (show u=Value.ref x from ru)
 cases (show u'=Value.ref tp from rv')
 have p:ExcAt x C s.heap:=(show ObjOk X.prog X.w H s.heap x (excO x C) from I.hok x _ hx).1
 obtain ⟨_,its,r,o,e,ec,n,ed⟩:=(show ObjOk X.prog X.w H s.heap tp (.tup vs) from I.hok tp _ ht)
 have ei:=zuk hv r
 subst ei
 obtain ⟨c,d,dt,sl⟩:=o
 dsimp only at ec ed
 subst ec ed
 exact W.kia_tup (ztl xc) I.kIn p e hk (λ z=>nomatch z) λ tk=>⟨.bl b,H,I.tok tk,rfl,q⟩
end
section
variable {X:Cx}
theorem zpg {pins:List (Addr×Obj)} {σ:St} {s3:Shared} {H3:Hp} {fp:List Addr} {scope:Scope} {N':List Str} {E:XK} {Q:VK} {D:Addr} (I3:Inv X pins σ H3 s3) (hf:∀ b∈fp,FpOk X pins H3 b) (tp:X.Top) (W:Wants X E) :
  Wants (X.comp scope s3.heap.objs.size s3 H3 fp N' (notedBy (model X.prog X.w) X.A (compEnvC scope (clOf scope X.env) s3.heap.objs.size X.env) λ e s'=>compPost (model X.prog X.w) X.A X.xe none (EP X pins σ Q) (.ref D) s3.heap.objs.size (.error e) s')) E:=by
 intro σ' H' s' x C I F q
 obtain ⟨E',hE⟩:∃ E',E'=(notedBy (model X.prog X.w) X.A (compEnvC scope (clOf scope X.env) s3.heap.objs.size X.env) λ e s'=>compPost (model X.prog X.w) X.A X.xe none (EP X pins σ Q) (.ref D) s3.heap.objs.size (.error e) s'):=⟨_,rfl⟩
 rw [← hE] at I F
 have tp':(X.comp scope s3.heap.objs.size s3 H3 fp N' E').Top:=by
  obtain ⟨env,outer,L,a,b,c⟩:=tp.top
  exact ⟨env,outer,L,a,b,c⟩
 show (notedBy (model X.prog X.w) X.A (compEnvC scope (clOf scope X.env) s3.heap.objs.size X.env) λ e s'=>compPost (model X.prog X.w) X.A X.xe none (EP X pins σ Q) (.ref D) s3.heap.objs.size (.error e) s') (.ref x) s'
 refine zhi (X:=X.comp scope s3.heap.objs.size s3 H3 fp N' E') I tp' F λ h1 I1 F1 t1=>?_
 obtain ⟨m,hn,_⟩:=I1.loc
 refine ⟨m,hn,λ h2 hs cenv hc=>?_⟩
 have new:∀ b,(X.comp scope s3.heap.objs.size s3 H3 fp N' E').new b→X.new b:=λ b hb=>by
  refine ⟨λ o e=>?_,λ p hp z=>?_⟩
  ·by_cases hx:b∈X.ex
   ·exact hx
   ·obtain ⟨o',q'⟩:=I3.base.there b o e hx
    rcases (hf b (hb.1 o' q')).2.2.2.1 with z | z
    ·exact z
    ·exact absurd (Nat.lt_of_lt_of_le (Heap.lt_size e) z) (Nat.lt_irrefl _)
  ·have e:=(I3.pin p (List.mem_append_left _ hp)).1
   rw [z] at e
   exact (hf b (hb.1 _ e)).2.2.2.2.2 p (List.mem_append_left _ hp) z
 have J1:Inv X pins σ H' { s' with heap:=h1 }:=zyf I3 hf I1
 have xC:∀ (b:Addr) (o:Obj) (vs:Array Value),h1.get? b=some o→o.data = .fields vs→b≠s3.heap.objs.size:=λ b o vs e d=>(I1.fieldsNe (show ({ s' with heap:=h1 }:Shared).heap.get? b=some o from e) d).1
 have J2:Inv X [] σ H' { s' with heap:=h2 }:=by
  refine (J1.turnedL (ch:=[s3.heap.objs.size]) (t':=s'.toks) (λ b hb'=>?_) λ b u hb' e=>(hs.2 b λ z=>hb' (by simp [z])).trans e).nopins
  have eb:b=s3.heap.objs.size:=by simpa using hb'
  subst eb
  exact I3.fpOk (Nat.le_refl _) I1.free
 have F2:Fly X.new H' x C h2:=by
  obtain ⟨⟨oe,vs,a1,a2,a3,a4,a5,a6⟩,b,c⟩:=F1.imp new
  refine ⟨⟨oe,vs,(hs.2 x (xC x oe vs a1 a4)).trans a1,a2,a3,a4,a5,a6.imp id ?_⟩,b,c⟩
  rintro ⟨T,oT,ts,t1,t2,t3,t4,t5⟩
  exact ⟨T,oT,ts,t1,t2,(hs.2 T (xC T oT ts t3 t4)).trans t3,t4,t5⟩
 obtain ⟨oe,vs,T,e1,d1,v1⟩:=t1
 have e2:h2.get? x=some oe:=(hs.2 x (xC x oe vs e1 d1)).trans e1
 unfold PySem.passOn
 refine wpAny_bind (wpAny_field e2 d1 v1 ?_)
 rw [if_neg (by simp)]
 refine wpAny_bind (zkd (X:=X) (s:={ s' with heap:=h2 }) J2 F2 ⟨_,_,_,e2,d1,v1⟩ λ h3 J3 F3 _=>?_)
 exact wpAny_throw (W σ H' _ x C J3 F3 q)
theorem zfc {elt tg iter:Expr} {ifs:List Expr} {scope:Scope} {pos:Pos} {wi:TI} {g:TG} {ti:TT} {te:TE} (E:XK) (N':List Str) (nt:Nat) (cap:List Nat) (W:Wants X E) (tp:X.Top)
  (hc:X.calm=true) (hi:PI X tg iter wi) (hgk:zhf nt g)
  (hg:∀ C s₀ H₀ fp E',PG (X.comp scope C s₀ H₀ fp N' E') tg g)
  (hif:∀ C s₀ H₀ fp E',PIf (X.comp scope C s₀ H₀ fp N' E') ifs ti)
  (he:∀ C s₀ H₀ fp E',Wants (X.comp scope C s₀ H₀ fp N' E') E→PE (X.comp scope C s₀ H₀ fp N' E') elt te)
  (hk:scope.kind = .function:=by rfl) (hb:zzc scope X.env=true:=by rfl) (hcap:zgn X scope N' nt cap=true:=by rfl)
  (hs:∀ x,foldedSetIterable iter X.env x=pure x:=by intro _;rfl):PE X (.ListComp elt [⟨tg,iter,ifs,0⟩] scope pos) (zlr wi nt cap g ti te) :=
 zzi (λ C s₀ H₀ fp E'=>Wants (X.comp scope C s₀ H₀ fp N' E') E) (λ pins σ s3 H3 fp Q D I hf=>zpg I hf tp W) hc hi (λ C s₀ H₀ fp E' _=>hg C s₀ H₀ fp E') (λ C s₀ H₀ fp E' _=>hif C s₀ H₀ fp E') (λ C s₀ H₀ fp E' w=>he C s₀ H₀ fp E' w) hk hb hcap hgk hs
end
theorem zxq {l:W.OpenLaw} {n k:Nat} {q:Program} {loose:List Str} {XP:(Str→Option Value)→Heap→Prop} {YP:World→Heap→Prop} {d:DefRec} {K:Params→W.Frag} {sp:World→Sp} {x:Str}
  (hn:l.most=some n) (hn2:n≤sizeLine) (hdf:d.params.defaults=[]) (hr:Room k callerA) (hY:∀ (w:World) (h:Heap),YP w h→(K w.params).In h)
  (F:∀ (w:World) (mg:Str→Option Value) (fa:Addr) (h:Heap),(K w.params).In h→h.Ns mainGlobals mg→mg d.name=some (.ref fa) →
   ∃ fd:FuncData,(∀ (s:Shared) (u:Value),BindsTo s fd ⟨[u],[]⟩ [(x,u)])∧∀ base:Heap,(K w.params).In base→base.Ns mainGlobals mg→FnOk l.prog w (K w.params) mg base (CX1 l.prog w base) k fa fd [x] (sp w))
  (hsp:∀ (w:World) (H:Hp) (a:Addr) (ns:List Int),ns.length≤n→Only H→SqL (K w.params) H a (ns.map V.int)→sp w [.ref a] H (λ v _=>v = .bl true) λ _ _ _=>False) :
  W.WalkO q loose XP YP l.row.toRowW d [] (λ f vs=>PySem.call f vs):=by
 refine walk_of (x:=x) (K:=K) (CX:=λ _ _ _ _ _ _ _=>False) (sp:=λ w vs H Q E=>sp w vs H Q λ _ _ _=>False) hn hn2 hdf hr hY (λ w mg fa h a b c=>?_) (λ w H a ns h1 h2 h3=>hsp w H a ns h1 h2 h3) λ _ _ _ _ _ z=>z
 obtain ⟨fd,hb,hF⟩:=F w mg fa h a b c
 refine ⟨fd,hb,λ base h1 h2=>?_⟩
 have G:=hF base h1 h2
 refine ⟨λ vs H Q E h=>G.len vs H Q _ h,λ A outer s H args us vs Q E hr he hbi hv h=>codeAny_mono (G.run A outer s H args us vs Q _ hr he hbi hv h) λ r s' z=>?_⟩
 cases r with
 | error e=>obtain ⟨_,_,_,_,_,_,_,_,_,z⟩:=z;exact z
 | ok fl=>cases fl <;> exact z
end L2
namespace L2
open PySem PySem.Spec PyProof.Rows PySem.NumText
section
variable {P:Program} {w:World} {K:W.Frag} {mg:Str→Option Value} {base:Heap} {CX:CXT} {k:Nat} {f:Addr} {fd:FuncData} {ps:List Str}
end
theorem zmp (lo hi:Option Int) (n:Nat):Builtin.Str.strSliceIndices lo hi 1 n=sliceRange ((HT.sIx n 0 lo:Nat):Int) ((HT.sIx n n hi:Nat):Int) 1:=by
 unfold Builtin.Str.strSliceIndices
 simp only [show (1:Int) > 0 by decide,if_true]
 congr 1
 ·cases lo with
  | none=>rfl
  | some i=>simp only [HT.sIx];by_cases h:i<0 <;> simp only [h,if_true,if_false] <;> omega
 ·cases hi with
  | none=>rfl
  | some i=>simp only [HT.sIx];by_cases h:i<0 <;> simp only [h,if_true,if_false] <;> omega
theorem zcl (x:Str) (lo hi:Option Int):(Txt.slice x lo hi).cps.toList=(x.cps.toList.drop (HT.sIx x.length 0 lo)).take (HT.sIx x.length x.length hi - HT.sIx x.length 0 lo):=by
 have hl:x.cps.toList.length=x.length:=Array.length_toList
 unfold Txt.slice
 rw [zmp,sliceRange_one,pick_run]
 split
 ·rename_i h
  simp only [List.length_map,List.length_range,Bool.and_eq_true,beq_iff_eq] at h
  have h1:=HT.sIx_le x.length x.length (Nat.le_refl _) hi
  have h2:HT.sIx x.length x.length hi - HT.sIx x.length 0 lo=x.length:=h.2
  rw [h2]
  rcases Nat.eq_zero_or_pos x.length with e | e
  ·have:x.cps.toList=[]:=by rw [← List.length_eq_zero_iff,hl];exact e
   rw [this]
   simp
  ·have h3:HT.sIx x.length 0 lo=0:=by omega
   rw [h3,List.drop_zero,List.take_of_length_le (by omega)]
 ·rfl
theorem zic (a b:Str):V.str a=V.str b↔a.cps.toList=b.cps.toList:=⟨λ h=>by cases h;rfl,λ h=>by rw [ext_toList h]⟩
theorem znl (x:Str):(Txt.slice x (some 1) none).cps.toList=x.cps.toList.tail:=by
 rw [zcl]
 have hl:x.cps.toList.length=x.length:=Array.length_toList
 simp only [HT.sIx]
 cases e:x.cps.toList with
 | nil=>simp
 | cons c cs =>
  rw [e] at hl
  simp only [List.length_cons] at hl
  have:min (Int.toNat 1) x.length=1:=by simp;omega
  simp only [show ¬ ((1:Int)<0) by decide,if_false,this,List.drop_succ_cons,List.drop_zero,List.tail_cons]
  rw [List.take_of_length_le (by omega)]
theorem zek (x:Str):Txt.startswith x "-" = decide (x.cps.toList.head? = some 45):=by
 unfold Txt.startswith Builtin.Str.subAt
 have e1:("-" : Str).cps = #[45]:=rfl
 have e2:("-" : Str).length=1:=rfl
 rw [e1,e2]
 cases x with
 | mk a =>
  cases a with
  | mk l =>
   cases l with
   | nil=>rfl
   | cons c cs =>
    have h:((List.toArray (c::cs)).extract 0 (0+1) == #[45])=decide (c=45):=by
     have:(List.toArray (c::cs)).extract 0 (0+1) = #[c]:=by simp
     rw [this]
     by_cases hc:c=45
     ·subst hc;rfl
     ·rw [decide_eq_false hc]
      simp [hc]
    rw [h]
    simp [Str.length]
theorem zxo {x:Str} {c:Nat} {cs:List Nat} (h:x.cps.toList=c::cs):atI x.cps.toList 0=some c:=by
 have:=zfg (xs:=x.cps.toList) (j:=0) (v:=c) (by rw [h];rfl)
 simpa using this
noncomputable abbrev DIG:Str := "0123456789"
noncomputable def zvj (c:Nat):Bool:=decide (48≤c) && decide (c≤57)
theorem zbw (c:Nat):decide (c∈DIG.cps.toList)=zvj c:=by
 have e:DIG.cps.toList=[48,49,50,51,52,53,54,55,56,57]:=by decide +kernel
 rw [e]
 unfold zvj
 rw [← Bool.decide_and,decide_eq_decide]
 simp only [List.mem_cons,List.not_mem_nil,or_false]
 omega
theorem zju (c:Nat):(!(Builtin.Str.occurrences DIG ⟨#[c]⟩ 0 DIG.length 1).isEmpty)=zvj c:=by rw [PySem.StrLaws.found_one,zbw]
theorem zpk (cs:List Nat):cs.all zvj=true↔AllDigits cs:=by
 rw [List.all_eq_true]
 refine forall_congr' λ c=>imp_congr Iff.rfl ?_
 unfold zvj
 simp
noncomputable def zue (cs:List Nat):Option Int :=
 if cs.head? = some 45 then
  (if cs.tail.length<1 ∨ 30<cs.tail.length ∨ cs.tail.all zvj=false ∨ cs.tail.head? = some 48 then none else some (-((digitsVal cs.tail:Nat):Int)))
 else (if cs.length<1 ∨ 30<cs.length ∨ cs.all zvj=false ∨ (cs.head? = some 48∧1<cs.length) then none else some ((digitsVal cs:Nat):Int))
section
variable {X:Cx}
noncomputable def zsv:V→List V→Hp→VK→Prop:=λ x xs H Q=>∃ z y,x = .str z∧xs=[.str y]∧Q (.bl (Txt.startswith z y)) H
theorem zdh:MtR X "str.startswith" zsv:=by
 intro pins s σ H x xs v us Q I rx rv h
 obtain ⟨z,y,rfl,rfl,q⟩:=h
 obtain ⟨t,rfl⟩:=rx
 obtain ⟨u,rfl,ru⟩:=rv.one
 obtain ⟨t',rfl⟩:=ru
 exact SC.startswith ⟨.bl _,H,I,rfl,q⟩
theorem zyh:zwi X (.type "int") (λ xs H Q=>∃ z n,xs=[.str z]∧z.length≤640∧PySem.intText? z=some n∧Q (.int n) H):=by
 intro pins s σ H xs us Q I rv h
 obtain ⟨z,n,rfl,hl,hn,q⟩:=h
 obtain ⟨u,rfl,ru⟩:=rv.one
 obtain ⟨t,rfl⟩:=ru
 exact W.KIN.call_text hn hl ⟨.int _,H,I.tok _,⟨_,rfl⟩,q⟩
end
theorem log2_lt {i:Int} {k:Nat} (h:i.natAbs<2 ^ k) (hk:0<k):i.natAbs.log2<k:=by
 rcases Nat.eq_zero_or_pos i.natAbs with e | e
 ·rw [e];simpa using hk
 ·exact (Nat.log2_lt (by omega)).mpr h
theorem zpp {i:Int} {k:Nat} (hk:0<k) (h:i.natAbs<10 ^ k):(Str.ofString (toString i)).length≤k+1:=by
 have:=int_text_length_le10 hk h
 have e:(Str.ofString (toString i)).length=(toString i).length:=PySem.ofString_length _
 omega
theorem zz1 {i:Int} (h1 : -(10 ^ 40)<i) (h2:i<10 ^ 40):i.natAbs<10 ^ 40:=by omega
theorem zun {i:Int} (h1 : -(10 ^ 40)<i) (h2:i<10 ^ 40):i.natAbs.log2<1920:=log2_lt (Nat.lt_trans (zz1 h1 h2) (Nat.lt_of_lt_of_le (show (10:Nat) ^ 40<2 ^ 200 by decide) (Nat.pow_le_pow_right (by decide) (by decide)))) (by decide)
theorem zsk {i:Int} (h1 : -(10 ^ 40)<i) (h2:i<10 ^ 40):(Str.ofString (toString i)).length≤41:=zpp (by decide) (zz1 h1 h2)
theorem zhq {α:Type} {xs:List α} {i:Int} (h0:0≤i) (h1:i<xs.length):∃ v,atI xs i=some v∧v∈xs:=by
 obtain ⟨j,rfl⟩:∃ j:Nat,i=j:=⟨i.toNat,by omega⟩
 have hj:j<xs.length:=by omega
 exact ⟨xs[j],zfg (by simp [List.getElem?_eq_getElem hj]),List.getElem_mem hj⟩
end L2
namespace L2
open PySem PySem.Spec PyProof.Rows PySem.NumText
theorem zjj:∀ {l:List (Str×Tok)} {ys:List Str},l.map (·.1)=ys→Vals (ys.map V.str) (strValues l):=by
 intro l
 induction l with
 | nil=>intro ys e;cases e;exact .nil
 | cons p l ih=>intro ys e;cases e;exact .cons ⟨p.2,rfl⟩ (ih rfl)
open Builtin.Str in
theorem zio {prog:Program} {w:World} {A:Around} {E:Value→Shared→Prop} {s:Shared} {x y:Str} {t u:Tok} {Q:Value→Shared→Prop} (hy:(y.length == 0)=false)
  (hq:∀ l tk,l.map (·.1)=Txt.split x y→Q (.ref s.heap.objs.size) { s with heap:=s.heap.push { cls := .type "list",data := .seq (strValues l).toArray },toks:=tk })
  (hsz:x.length≤sizeLine) (hsz2:(partsBetween x (occurrences x y 0 x.length (x.length+1)) y.length).length≤sizeLine) :
  wpAny (model prog w) A (call (.builtin "str.split") [.str x t,.str y u]) Q E s:=by
 cases h1:(decide (x.length<y.length) || decide (strKind x<strKind y))
 ·cases hf:(occurrences x y 0 x.length (x.length+1)).isEmpty
  ·refine call_meets F.slot_str_split (typeIs_str _ _ _) F.entry_str_split (F.args_str_split_2 _ _) (meets_str_split_sep x y t u h1 hy hf hsz hsz2) ?_
   show wants Q E _ { s with toks:=_,heap:=s.heap.push { cls := .type "list",data := .seq (strsFrom s.toks (partsBetween x (occurrences x y 0 x.length (x.length+1)) y.length)).toArray } }
   rw [strsFrom_eq]
   exact hq (numbered s.toks _) _ ((numbered_texts _ _).trans ((if_neg (ne_true_of_eq_false h1)).trans (if_neg (ne_true_of_eq_false hf))).symm)
  ·exact call_meets F.slot_str_split (typeIs_str _ _ _) F.entry_str_split (F.args_str_split_2 _ _) (meets_str_split_not_found x y t u h1 hy hf)
    (hq [(x,t)] _ ((if_neg (ne_true_of_eq_false h1)).trans (if_pos hf)).symm)
 ·exact call_meets F.slot_str_split (typeIs_str _ _ _) F.entry_str_split (F.args_str_split_2 _ _) (meets_str_split_cannot_occur x y t u h1)
   (hq [(x,t)] _ (if_pos h1).symm)
section
variable {X:Cx}
noncomputable def zhy:V→List V→Hp→VK→Prop:=λ x xs H Q=>∃ z y,x = .str z∧xs=[.str y]∧(y.length == 0)=false∧z.length≤10000∧∀ l,H l=none→Q (.ref l) (upd H l (.lst ((Txt.split z y).map V.str)))
theorem zrm:MtR X "str.split" zhy:=by
 intro pins s σ H x xs v us Q I rx rv h
 obtain ⟨z,y,rfl,rfl,hy,hz,q⟩:=h
 obtain ⟨t,rfl⟩:=rx
 obtain ⟨u,rfl,ru⟩:=rv.one
 obtain ⟨t',rfl⟩:=ru
 have hl:(10000:Nat)+2≤sizeLine:=by rw [sizeLine_eq];decide
 refine zio hy (λ l tk e=>?_) (by omega) ?_
 ·refine ⟨.ref s.heap.objs.size,_,I.laid (t':=tk) (o := .lst ((Txt.split z y).map V.str)) (λ b ob q=>Heap.get?_push_of_some _ q) (Nat.le_refl _) ?_,rfl,q _ (I.hok.fresh (Nat.le_refl _))⟩
  refine ⟨?_,_,0,zjj e,Heap.get?_push_size _ rfl⟩
  have:=split_le z y
  rw [List.length_map]
  omega
 ·rw [len_partsBetween]
  have:=StrLaws.occ_length_le z y 0 z.length (z.length+1)
  omega
noncomputable def gLst (K:W.Frag) (n:Nat) (t:TGs):TG:=λ v σ H Q=>∃ a xs,v = .ref a∧SqL K H a xs∧xs.length=n∧t xs σ H Q
theorem zbv {pos:Pos} {es:List Expr} {k:Nat} {t:TGs} {n:Nat} (hc:X.calm=true) (h:PGs X es t)
  (hn:(assignEach es X.env).length=n:=by rfl) (hst:(assignEach es X.env).findIdx? (·.1)=none:=by rfl):PG X (.Tuple es k pos) (gLst X.K n t) := .mk <| by
 intro pins s σ H v u Q I r hw
 obtain ⟨a,xs,e1,hq,hl,hw⟩:=hw
 subst e1
 cases r
 obtain ⟨its,rv,ht,hz⟩:=I.list hq
 rw [assign_Tuple]
 refine wpAny_bind (wpAny_standAt ?_)
 unfold unpack
 have hn':(assignEach es X.env).length=its.toArray.size:=by simp [hn,← hl,rv.length]
 rw [hn',hst]
 refine wpAny_bind (wpAny_holding (W.kun_itemsOf (I.ok.hd hc) ht.isList λ h' hx=>?_))
 have I1:Inv X pins σ H { s with heap:=h' }:=I.kept (t':=s.toks) λ b o e=>hx b o (Nat.ne_of_lt (Heap.lt_size e)) e
 exact h pins _ σ H xs _ Q I1 (by simpa using rv) hw
end
theorem Same.seqT {K:W.Frag} {H H':Hp} {a:Addr} {xs:List V} (e:Same H H') (h:SqT K H a xs):SqT K H' a xs:=by
 rcases h with h | h
 ·rcases h with h | ⟨o,h⟩
  ·exact .inl (.inl (e _ _ h))
  ·exact .inl (.inr ⟨o,e _ _ h⟩)
 ·exact .inr h
theorem zdb {J:It} {n:Nat} {nt:Nat} {cap:List Nat} {g:TG} {te:TE} {σ:St} {H1:Hp} {Q:VK} {D:Addr} (val:Nat→V) (R:Nat→V→Hp→Prop) (hD:H1 D=none) (hP:Plain H1) (hx:n≤sizeLine)
  (hJ:∀ i H2,Same H1 H2→(i<n→J.go i H2)∧(J.stop n H2)∧∀ x H3,i<n→J.yld i H2 x H3→H3=H2∧x=val i)
  (mono:∀ i y H H',R i y H→(∀ b o,b≠D→H b=some o→H' b=some o)→(∃ zs,H D=some (.lst zs))→R i y H')
  (step:∀ (i:Nat) H2 (T:VK),i<n→Plain H2→Same H1 H2→(∀ y H6,R i y H6→Same H2 H6→Plain H6→T y H6)→g (val i) (List.replicate nt none++caps cap σ) H2 λ σ4 H4=>te σ4 H4 T)
  (fin:∀ ys H2,ys.length=n→(∀ (i:Nat) y,ys[i]? = some y→R i y H2)→H2 D=some (.lst ys)→Same H1 H2→Plain H2→Q (.ref D) H2) :
  zat J D nt cap g tYes te σ H1 Q:=by
 refine ⟨λ i m ys H2=>m=n - i∧i≤n∧ys.length=i∧H2 D=some (.lst ys)∧Same H1 H2∧Plain H2∧∀ (j:Nat) y,ys[j]? = some y→R j y H2,⟨_,rfl,Nat.zero_le _,rfl,upd_same,zba hD,hP.lst,λ j y e=>by simp at e⟩,?_⟩
 rintro i m ys H2 ⟨rfl,hi,hl,hd,hs,hp,hr⟩
 refine ⟨hd,?_⟩
 obtain ⟨j1,j2,j3⟩:=hJ i H2 hs
 by_cases hlt:i<n
 ·refine .inr ⟨j1 hlt,by omega,λ v H3 hy=>?_⟩
  obtain ⟨rfl,rfl⟩:=j3 v H3 hlt hy
  simp only [tYes,if_true]
  refine step i _ _ hlt hp hs λ y H6 hR hs6 hp6=>⟨hs6 _ _ hd,_,by omega,rfl,hlt,by simp [hl],upd_same,?_,hp6.lst,?_⟩
  ·exact (hs.trans hs6).upd hD
  ·intro j z e
   have up:∀ b o,b≠D→H6 b=some o→(upd H6 D (.lst (ys++[y]))) b=some o:=λ b o hb e=>by rw [zta hb];exact e
   rcases Nat.lt_or_ge j ys.length with hj | hj
   ·rw [List.getElem?_append_left hj] at e
    refine mono j z H6 _ (mono j z _ H6 (hr j z e) (λ b o _ e=>hs6 b o e) ⟨_,hd⟩) up ⟨_,hs6 _ _ hd⟩
   ·rw [List.getElem?_append_right hj] at e
    have hj0:j - ys.length=0:=by
     rcases Nat.eq_zero_or_pos (j - ys.length) with h0 | h0
     ·exact h0
     ·rw [List.getElem?_eq_none (by simp;omega)] at e;cases e
    rw [hj0] at e
    simp at e
    subst e
    have:j=i:=by omega
    subst this
    exact mono j y H6 _ hR up ⟨_,hs6 _ _ hd⟩
 ·have e:i=n:=by omega
  subst e
  exact .inl ⟨j2,fin ys H2 hl hr hd hs hp⟩
theorem zie {K:W.Frag} {a:Addr} {xs:List V} {H1:Hp} (h:SqL K H1 a xs):∀ i H2,Same H1 H2→(i<xs.length→(Itl K a).go i H2)∧((Itl K a).stop xs.length H2)∧∀ x H3,i<xs.length→(Itl K a).yld i H2 x H3→H3=H2∧x=xs.getD i .non:=λ i H2 e=>by
 refine ⟨λ hi=>⟨xs,xs[i],e.seq h,by simp [hi]⟩,⟨xs,e.seq h,Nat.le_refl _⟩,λ x H3 hi y=>⟨y.1,?_⟩⟩
 have:=y.2 xs (e.seq h)
 rw [List.getD_eq_getElem?_getD,this];rfl
theorem zdl {K:W.Frag} {a:Addr} {xs:List V} {H1:Hp} (h:SqT K H1 a xs):∀ i H2,Same H1 H2→(i<xs.length→(Itt K a).go i H2)∧((Itt K a).stop xs.length H2)∧∀ x H3,i<xs.length→(Itt K a).yld i H2 x H3→H3=H2∧x=xs.getD i .non:=λ i H2 e=>by
 refine ⟨λ hi=>⟨xs,xs[i],e.seqT h,by simp [hi]⟩,⟨xs,e.seqT h,Nat.le_refl _⟩,λ x H3 hi y=>⟨y.1,?_⟩⟩
 have:=y.2 xs (e.seqT h)
 rw [List.getD_eq_getElem?_getD,this];rfl
mutual
noncomputable def DV (K:W.Frag) (H:Hp):PyData→V→Prop
 | .none,v=>v = .non
 | .bool b,v=>v = .bl b
 | .int i,v=>v = .int i
 | .str x,v=>v = .str x
 | .list xs,v=>∃ a vs,v = .ref a∧SqL K H a vs∧DVs K H xs vs
 | .tuple xs,v=>∃ a vs,v = .ref a∧SqT K H a vs∧DVs K H xs vs
 | .dict _,_=>False
noncomputable def DVs (K:W.Frag) (H:Hp):List PyData→List V→Prop
 | [],vs=>vs=[]
 | d::ds,vs=>∃ v r,vs=v::r∧DV K H d v∧DVs K H ds r
end
mutual
theorem DV.same {K:W.Frag} {H H':Hp} (e:Same H H'):∀ (d:PyData) (v:V),DV K H d v→DV K H' d v
 | .none,v,h=>h
 | .bool b,v,h=>h
 | .int i,v,h=>h
 | .str x,v,h=>h
 | .list xs,v,⟨a,vs,h1,h2,h3⟩=>⟨a,vs,h1,e.seq h2,DVs.same e xs vs h3⟩
 | .tuple xs,v,⟨a,vs,h1,h2,h3⟩=>⟨a,vs,h1,e.seqT h2,DVs.same e xs vs h3⟩
 | .dict _,v,h=>h.elim
theorem DVs.same {K:W.Frag} {H H':Hp} (e:Same H H'):∀ (ds:List PyData) (vs:List V),DVs K H ds vs→DVs K H' ds vs
 | [],vs,h=>h
 | d::ds,vs,⟨v,r,h1,h2,h3⟩=>⟨v,r,h1,DV.same e d v h2,DVs.same e ds r h3⟩
end
section
variable {X:Cx} {pins:List (Addr×Obj)} {σ:St} {H:Hp} {s:Shared}
mutual
theorem DV.reads (I:Inv X pins σ H s):∀ (d:PyData) (v:V) (u:Value),DV X.K H d v→RelV v u→∃ as,Reads s.heap u d as
 | .none,v,u,h,r=>by cases (show v=V.non from h);cases r;exact ⟨_,.none⟩
 | .bool b,v,u,h,r=>by cases (show v=V.bl b from h);cases r;exact ⟨_,.bool b⟩
 | .int i,v,u,h,r=>by cases (show v=V.int i from h);obtain ⟨t,rfl⟩:=r;exact ⟨_,.int i t⟩
 | .str x,v,u,h,r=>by cases (show v=V.str x from h);obtain ⟨t,rfl⟩:=r;exact ⟨_,.str x t⟩
 | .list xs,v,u,h,r=>by
  obtain ⟨a,vs,rfl,h2,h3⟩:=h
  cases r
  obtain ⟨its,rv,pl,_⟩:=I.list h2
  obtain ⟨o,ho,hc,n,hd⟩:=pl.isList
  obtain ⟨as,ra⟩:=DVs.reads I xs vs its h3 rv
  exact ⟨_,.list ho hc hd (by simpa using ra)⟩
 | .tuple xs,v,u,h,r=>by
  obtain ⟨a,vs,rfl,h2,h3⟩:=h
  cases r
  obtain ⟨its,rv,pl,_⟩:=I.tuple h2
  obtain ⟨o,ho,hc,n,hd⟩:=pl
  obtain ⟨as,ra⟩:=DVs.reads I xs vs its h3 rv
  exact ⟨_,.tuple ho hc hd (by simpa using ra)⟩
 | .dict _,v,u,h,r=>h.elim
theorem DVs.reads (I:Inv X pins σ H s):∀ (ds:List PyData) (vs:List V) (us:List Value),DVs X.K H ds vs→Vals vs us→∃ as,ReadsAll s.heap us ds as
 | [],vs,us,h,r=>by cases (show vs=[] from h);cases r;exact ⟨_,.nil⟩
 | d::ds,vs,us,h,r=>by
  obtain ⟨v,rest,rfl,h2,h3⟩:=h
  cases r with
  | cons r rr =>
   obtain ⟨as,ra⟩:=DV.reads I d _ _ h2 r
   obtain ⟨bs,rb⟩:=DVs.reads I ds _ _ h3 rr
   exact ⟨_,.cons ra rb⟩
end
end
section
variable {X:Cx}
noncomputable def rEqD (K:W.Frag):R2:=λ x y H Q=>∃ d e,DV K H d x∧DV K H e y∧SeqAt.shaped d=true∧SeqAt.shaped e=true∧Q (.bl (PyData.eqv d e)) H
noncomputable def rNeD (K:W.Frag):R2:=λ x y H Q=>∃ d e,DV K H d x∧DV K H e y∧SeqAt.shaped d=true∧SeqAt.shaped e=true∧Q (.bl (!PyData.eqv d e)) H
theorem zkl (hu:X.A.units+64<cLine):OpR X (compareOp .Eq) (rEqD X.K):=by
 intro pins s σ H x y v u Q I rx ry h
 obtain ⟨d,e,hd,he,sd,se,q⟩:=h
 obtain ⟨as,ra⟩:=DV.reads I d x v hd rx
 obtain ⟨bs,rb⟩:=DV.reads I e y u he ry
 exact SeqAt.compareEq_shaped ra rb sd se hu ⟨.bl _,H,I,rfl,q⟩
theorem zqk (hu:X.A.units+64<cLine):OpR X (compareOp .NotEq) (rNeD X.K):=by
 intro pins s σ H x y v u Q I rx ry h
 obtain ⟨d,e,hd,he,sd,se,q⟩:=h
 obtain ⟨as,ra⟩:=DV.reads I d x v hd rx
 obtain ⟨bs,rb⟩:=DV.reads I e y u he ry
 exact SeqAt.compareNe_shaped ra rb sd se hu ⟨.bl _,H,I,rfl,q⟩
end
noncomputable def zqc {α:Type} (Pre:α→List V→Hp→Prop) (Post:α→V→Hp→Prop) (Exc:α→Addr→Prop):Sp:=λ vs H Q E=>Plain H∧∃ a,Pre a vs H∧(∀ v H',Post a v H'→Same H H'→Plain H'→Q v H')∧(∀ C H',Exc a C→Same H H'→Plain H'→E (.ref C) none H')
noncomputable def zxa {α β:Type} (f:α→Option β):List α→Option (List β)
 | []=>some []
 | x::xs=>match f x with
  | none=>none
  | some y=>match zxa f xs with
   | none=>none
   | some ys=>some (y::ys)
theorem zmc {α β:Type} {f:α→Option β}:∀ {xs:List α} {x:α},x∈xs→f x=none→zxa f xs=none:=by
 intro xs
 induction xs with
 | nil=>intro x h;cases h
 | cons a xs ih =>
  intro x h e
  unfold zxa
  rcases List.mem_cons.mp h with rfl | h
  ·rw [e]
  ·rw [ih h e]
   cases f a <;> rfl
theorem zze {α β:Type} {f:α→Option β}:∀ {xs:List α} {ys:List β},xs.length=ys.length→(∀ (i:Nat) x,xs[i]? = some x→∃ y,ys[i]? = some y∧f x=some y)→zxa f xs=some ys:=by
 intro xs
 induction xs with
 | nil =>
  intro ys hl h
  cases ys with
  | nil=>rfl
  | cons _ _=>simp at hl
 | cons a xs ih =>
  intro ys hl h
  cases ys with
  | nil=>simp at hl
  | cons b ys =>
   obtain ⟨y,e1,e2⟩:=h 0 a rfl
   have e1:b=y:=by simpa using e1
   subst e1
   have:=ih (ys:=ys) (by simpa using hl) λ i x e=>h (i+1) x (by simpa using e)
   unfold zxa
   rw [e2,this]
theorem zfe {α:Type} {xs:List α} {f:α→V} {ys:List V} (hl:ys.length=xs.length) (h:∀ (i:Nat) y,ys[i]? = some y→∃ x,xs[i]? = some x∧y=f x):ys=xs.map f:=by
 apply List.ext_getElem?
 intro i
 rw [List.getElem?_map]
 cases e:ys[i]? with
 | none =>
  have:xs[i]? = none:=by rw [List.getElem?_eq_none_iff] at e ⊢;omega
  rw [this];rfl
 | some y =>
  obtain ⟨x,e1,e2⟩:=h i y e
  rw [e1,e2];rfl
theorem zco {α:Type} {R:Nat→α→Prop} {f:α→V}:∀ {ys:List V} ,(∀ (i:Nat) y,ys[i]? = some y→∃ x,y=f x∧R i x)→∃ xs:List α,ys=xs.map f∧∀ (i:Nat) x,xs[i]? = some x→R i x:=by
 intro ys
 induction ys generalizing R with
 | nil=>intro _;exact ⟨[],rfl,λ i x e=>by simp at e⟩
 | cons y ys ih =>
  intro h
  obtain ⟨x,e,r⟩:=h 0 y rfl
  obtain ⟨xs,e2,r2⟩:=ih (R:=λ i x=>R (i+1) x) λ i z e=>h (i+1) z (by simpa using e)
  refine ⟨x::xs,by rw [e,e2];rfl,λ i z ez=>?_⟩
  cases i with
  | zero=>simp at ez;subst ez;exact r
  | succ i=>exact r2 i z (by simpa using ez)
end L2
namespace L2
open PySem PySem.Spec PyProof.Rows PySem.NumText
section
variable {X:Cx}
theorem zql {use:Option (Value→Sem Unit)} {QQ:Value→Shared→Prop} {p0:Pos} {pins:List (Addr×Obj)} {s:Shared} {σ:St} {H:Hp} {Q:VK} {elt tg iter:Expr} {ifs:List Expr} {scope:Scope} {pos:Pos} {N':List Str} {nt:Nat} {cap:List Nat} {wi:TI} {g:TG} {ti:TT} {te:TE}
  (EK:Addr→Shared→Hp→List Addr→(Value→Shared→Prop)→Prop)
  (hE:∀ (pins:List (Addr×Obj)) (σ:St) (s3:Shared) (H3:Hp) (fp:List Addr) (Q:VK) (D:Addr),Inv X pins σ H3 s3→(∀ b∈fp,FpOk X pins H3 b) →
   EK s3.heap.objs.size s3 H3 fp (notedBy (model X.prog X.w) X.A (compEnvC scope (clOf scope X.env) s3.heap.objs.size X.env) λ e s'=>compPost (model X.prog X.w) X.A X.xe none (EP X pins σ Q) (.ref D) s3.heap.objs.size (.error e) s'))
  (hc:X.calm=true) (hi:PI X tg iter wi)
  (hg:∀ C s₀ H₀ fp E',EK C s₀ H₀ fp E'→PG (X.comp scope C s₀ H₀ fp N' E') tg g)
  (hif:∀ C s₀ H₀ fp E',EK C s₀ H₀ fp E'→PIf (X.comp scope C s₀ H₀ fp N' E') ifs ti)
  (he:∀ C s₀ H₀ fp E',EK C s₀ H₀ fp E'→PE (X.comp scope C s₀ H₀ fp N' E') elt te)
  (hk:scope.kind = .function) (hb:zzc scope X.env=true) (hcap:zgn X scope N' nt cap=true)
  (hgk:zhf nt g) (hs:∀ x,foldedSetIterable iter X.env x=pure x) (I:Inv X pins σ H s) (h:zlr wi nt cap g ti te σ H Q)
  (fin:∀ (D C:Addr) (m:Str→Option Value) (H5:Hp) (s6:Shared),Inv X pins σ H5 s6→Q (.ref D) H5→s6.heap.Ns C m→C≠X.env.locals→(∀ x c,X.env.cells.lookup x=some c→c≠C)→(∀ H',H' C=none→FpOk X pins H' C)→H5 C=none →
   compPost (model X.prog X.w) X.A X.xe use QQ (.ref D) C (.ok .next) s6) :
  wpAny (model X.prog X.w) X.A (comprehension (.ListComp elt [⟨tg,iter,ifs,0⟩] scope pos) scope X.env p0 (newList []) false (eval iter X.env) use) QQ X.xe s:=by
 have hclos:closureFor scope X.env=pure (clOf scope X.env):=zdg λ p hp e=>I.ok.has p.1 (znc hb p hp e)
 refine wpAny_comprehension_free (use:=use) rfl hs hclos hk (zpe hb) (thn (hi pins s σ H _ I h) λ v s1 h1=>thn h1 λ itv s2 h2=>?_)
 obtain ⟨it,fp,tn,J,H2,e,I2,T,st2,f2,q2⟩:=h2
 subst e
 refine wpAny_newObj_type (wpAny_newFunctionEnv (zmd hb) (by intro y hy;simp at hy) (λ h₁ hns₁ hsb₁=>?_) hk)
 have I3:=I2.lnew (ys:=[]) (its:=[]) (t':=s2.toks) .nil (Nat.zero_le _)
 have hfl:∀ b∈fp,b<s2.heap.objs.size:=λ b hb'=>let ⟨o,e,_⟩:=T.obj 0 _ st2 b hb';Heap.lt_size e
 obtain ⟨W,⟨m0,w0⟩,turn⟩:=q2 s2.heap.objs.size (I2.hok.fresh (Nat.le_refl _))
 have nD:∀ b∈fp,b≠s2.heap.objs.size:=λ b hb'=>Nat.ne_of_lt (hfl b hb')
 have f3:∀ b∈fp,FpOk X pins (upd H2 s2.heap.objs.size (.lst [])) b:=λ b hb'=>⟨by rw [zta (nD b hb')];exact (f2 b hb').1,(f2 b hb').2⟩
 obtain ⟨s3,hs3⟩:∃ s3:Shared,s3={ s2 with heap:=s2.heap.push { cls := .type "list",data := .seq ([]:List Value).toArray },toks:=s2.toks }:=⟨_,rfl⟩
 have hs3':s3.heap=s2.heap.push { cls := .type "list",data := .seq ([]:List Value).toArray }:=by rw [hs3]
 rw [← hs3] at I3
 have hsz:s3.heap.objs.size=s2.heap.objs.size+1:=by rw [hs3',Heap.size_push]
 have hfl3:∀ b∈fp,b<s3.heap.objs.size:=λ b hb'=>by rw [hsz];exact Nat.lt_succ_of_lt (hfl b hb')
 have hC:(s2.heap.push { cls:=Value.type "list",dict:=none,data:=Data.seq ([]:List Value).toArray }).objs.size=s3.heap.objs.size:=by rw [hs3']
 dsimp only at hns₁ hsb₁ ⊢
 rw [hC] at hns₁ hsb₁ ⊢
 rw [← hs3'] at hsb₁
 have kp:∀ b o,s3.heap.get? b=some o→h₁.get? b=some o:=λ b o e=>hsb₁.extBut b o (Nat.ne_of_lt (Heap.lt_size e)) (Heap.get?_push_of_some _ e)
 have hEE:=hE pins σ s3 _ fp Q s2.heap.objs.size I3 f3
 generalize hE':(notedBy (model X.prog X.w) X.A (compEnvC scope (clOf scope X.env) s3.heap.objs.size X.env) λ e s'=>compPost (model X.prog X.w) X.A X.xe none (EP X pins σ Q) (.ref s2.heap.objs.size) s3.heap.objs.size (.error e) s')=E' at hEE
 have hE2:(notedBy (model X.prog X.w) X.A (compEnvC scope (clOf scope X.env) s3.heap.objs.size X.env) λ e s'=>compPost (model X.prog X.w) X.A X.xe use QQ (.ref s2.heap.objs.size) s3.heap.objs.size (.error e) s')=E':=hE'
 have I4:=zjg (t4:=s2.toks+([]:List (Str×Value)).length) (E':=E') I3 hk hb hcap f3 hfl3 hns₁ kp
 have st4:tn 0 h₁:=T.keep 0 _ _ st2 λ b hb' o e=>kp b o (by rw [hs3'];exact Heap.get?_push_of_some _ e)
 obtain ⟨s4,hs4⟩:∃ s4:Shared,s4={ s3 with heap:=h₁,toks:=s2.toks+([]:List (Str×Value)).length }:=⟨_,rfl⟩
 rw [← hs4] at I4
 have st4':tn 0 s4.heap:=by rw [hs4];exact st4
 have cin:∀ x c,(clOf scope X.env).lookup x=some c→X.env.cells.lookup x=some c:=λ x c e=>zvw scope.names [] (λ y d q=>by simp at q) e
 have stat:∀ {H':Hp},(∀ b∈fp,H' b=none)→∀ b∈fp,FpOk (X.comp scope s3.heap.objs.size s3 (upd H2 s2.heap.objs.size (.lst [])) fp N' E') [] H' b:=λ hn b hb'=>by
  refine ⟨hn b hb',Nat.ne_of_lt (hfl3 b hb'),λ z=>?_,.inl hb',λ x c e=>(f3 b hb').2.2.2.2.1 x c (cin x c e),λ p hp=>absurd hp (by simp [Cx.comp])⟩
  rcases List.mem_cons.mp (I3.stkSub b z) with z | z
  ·exact (f3 b hb').2.1 z
  ·exact (f3 b hb').2.2.1 z
 have loop:codeAny (model X.prog X.w) X.A (.compLoop (.ListComp elt [⟨tg,iter,ifs,0⟩] scope pos) 0 (.ref it) (.ref s2.heap.objs.size) (compEnvC scope (clOf scope X.env) s3.heap.objs.size X.env))
   (compPost (model X.prog X.w) X.A X.xe use QQ (.ref s2.heap.objs.size) s3.heap.objs.size) s4:=by
  refine zre (λ n s'=>∃ i ys H',Inv (X.comp scope s3.heap.objs.size s3 (upd H2 s2.heap.objs.size (.lst [])) fp N' E') [] (List.replicate nt none++caps cap σ) H' s'∧tn i s'.heap∧(∀ b∈fp,H' b=none)∧W i n ys H') ?_ m0
   ⟨0,[],_,I4,st4',λ b hb'=>(f3 b hb').1,w0⟩
  rintro n s5 ⟨i,ys,H5,I5,st5,fr5,w5⟩
  rw [hE2]
  obtain ⟨hD5,alt⟩:=turn i n ys H5 w5
  rcases alt with ⟨stop,qn⟩ | ⟨go,hyl,step⟩
  ·refine thn (T.done (X.comp scope s3.heap.objs.size s3 (upd H2 s2.heap.objs.size (.lst [])) fp N' E') rfl rfl rfl hc i [] s5 _ H5 E' I5 (stat fr5) st5 stop) λ r s6 ⟨hr,I6⟩=>?_
   subst hr
   obtain ⟨m6,hn6,_⟩:=I6.loc
   have I7:=zyf I3 f3 I6
   refine fin _ _ m6 H5 s6 I7 qn hn6 ?_ ?_ (λ H' hn=>I3.fpOk (Nat.le_refl _) hn) I6.free
   ·intro z
    exact absurd (Nat.lt_of_lt_of_le I3.lt (Nat.le_of_eq z)) (Nat.lt_irrefl _)
   ·intro x c e z
    obtain ⟨v,q⟩:=I3.cell x c e
    exact absurd (Nat.lt_of_lt_of_le q.lt (by rw [z];exact Nat.le_refl _)) (Nat.lt_irrefl _)
  ·refine thn (T.item (X.comp scope s3.heap.objs.size s3 (upd H2 s2.heap.objs.size (.lst [])) fp N' E') rfl rfl rfl hc i [] s5 _ H5 E' I5 (stat fr5) st5 go) λ r s6 ⟨u,hr,h6⟩=>?_
   subst hr
   refine thn h6 λ _ s7 ⟨x,H7,I7,r7,y7,st7,fr7⟩=>?_
   have I7':=I7.pinned (stat fr7) (T.obj _ _ st7)
   have again:∀ {σ8:St} {H8:Hp} {ys':List V} {s8:Shared},Inv (X.comp scope s3.heap.objs.size s3 (upd H2 s2.heap.objs.size (.lst [])) fp N' E') ([]++zuj fp s7.heap) σ8 H8 s8→(∃ m',m'<n∧W (i+1) m' ys' H8)→(∀ (j:Nat) v,(List.replicate nt none++caps cap σ)[j]? = some (some v)→σ8[j]? = some (some v)) →
     ∃ m,m<n∧∃ i ys H',Inv (X.comp scope s3.heap.objs.size s3 (upd H2 s2.heap.objs.size (.lst [])) fp N' E') [] (List.replicate nt none++caps cap σ) H' s8∧tn i s8.heap∧(∀ b∈fp,H' b=none)∧W i m ys H':=fun {σ8 H8 ys' s8} I8 ⟨m',hm,w8⟩ hσ=>by
    refine ⟨m',hm,i+1,ys',H8,I8.unpinned.weak (by rw [I8.len,I5.len]) hσ,T.keep _ _ _ st7 λ b hb o e=>(I8.pin (b,o) (List.mem_append_right _ (List.mem_append_right _ (zvb hb e)))).1,λ b hb=>?_,w8⟩
    obtain ⟨o,e,d⟩:=T.obj _ _ st7 b hb
    exact (I8.pin (b,o) (List.mem_append_right _ (List.mem_append_right _ (zvb hb e)))).2.1
   refine thn (hg _ _ _ _ _ hEE _ s7 _ H7 x u _ I7' r7 (hgk x _ H7 _ (step x H7 y7))) λ _ s8 ⟨σ8,H8,I8,q8,hσ⟩=>?_
   refine thn (hif _ _ _ _ _ hEE _ s8 σ8 H8 _ I8 q8) λ ok s9 ⟨H9,I9,q9⟩=>?_
   cases ok with
   | false =>
    rw [if_neg Bool.false_ne_true] at q9 ⊢
    exact again I9 q9 hσ
   | true =>
    rw [if_pos rfl] at q9 ⊢
    refine thn (he _ _ _ _ _ hEE _ s9 σ8 H9 _ I9 q9) λ y s10 ⟨vy,H10,I10,r10,hD10,hm10⟩=>?_
    exact thn (zzd (X:=X.comp scope s3.heap.objs.size s3 (upd H2 s2.heap.objs.size (.lst [])) fp N' E') _ s10 σ8 H10 (.ref s2.heap.objs.size) [vy] (.ref s2.heap.objs.size) [y] (λ _ H'=>H'=upd H10 s2.heap.objs.size (.lst (ys++[vy]))) I10 rfl (.cons r10 .nil) ⟨_,_,_,rfl,rfl,hD10,hyl,rfl⟩) λ _ s11 ⟨_,H11,I11,_,e11⟩=>by
     subst e11
     exact again I11 hm10 hσ
 have e4:({ s2 with heap:=h₁,toks:=s2.toks+([]:List (Str×Value)).length }:Shared)=s4:=by rw [hs4,hs3]
 show codeAny _ _ _ _ { s2 with heap:=h₁,toks:=s2.toks+([]:List (Str×Value)).length }
 rw [e4]
 exact codeAny_compStart_list loop (T.self X.A 0 s4 _ _ st4' loop)
theorem zom {elt tg iter:Expr} {ifs:List Expr} {scope:Scope} {cpos pos pos':Pos} {N':List Str} {nt:Nat} {cap:List Nat} {wi:TI} {g:TG} {ti:TT} {te:TE} {i:Nat} {x:Str}
  (EK:Addr→Shared→Hp→List Addr→(Value→Shared→Prop)→Prop)
  (hE:∀ (pins:List (Addr×Obj)) (σ:St) (s3:Shared) (H3:Hp) (fp:List Addr) (Q:VK) (D:Addr),Inv X pins σ H3 s3→(∀ b∈fp,FpOk X pins H3 b) →
   EK s3.heap.objs.size s3 H3 fp (notedBy (model X.prog X.w) X.A (compEnvC scope (clOf scope X.env) s3.heap.objs.size X.env) λ e s'=>compPost (model X.prog X.w) X.A X.xe none (EP X pins σ Q) (.ref D) s3.heap.objs.size (.error e) s'))
  (hc:X.calm=true) (hi:PI X tg iter wi)
  (hg:∀ C s₀ H₀ fp E',EK C s₀ H₀ fp E'→PG (X.comp scope C s₀ H₀ fp N' E') tg g)
  (hif:∀ C s₀ H₀ fp E',EK C s₀ H₀ fp E'→PIf (X.comp scope C s₀ H₀ fp N' E') ifs ti)
  (he:∀ C s₀ H₀ fp E',EK C s₀ H₀ fp E'→PE (X.comp scope C s₀ H₀ fp N' E') elt te)
  (hk:scope.kind = .function) (hb:zzc scope X.env=true) (hcap:zgn X scope N' nt cap=true)
  (hgk:zhf nt g) (hs:∀ x,foldedSetIterable iter X.env x=pure x)
  (hN:X.N.Nodup) (hix:X.N[i]? = some x) (hx:Loc X.env.scope x) (hf:X.fn x=true ∨ X.env.scope.names.lookup x=some .local)
  (hsw:swapsWith (.ListComp elt [⟨tg,iter,ifs,0⟩] scope cpos) (some (.Name x pos')) pos.line X.env=pure true) :
  PS X (.Assign [.Name x pos'] (.ListComp elt [⟨tg,iter,ifs,0⟩] scope cpos) pos) (tAsg (zlr wi nt cap g ti te) (zdq i)) := .mk <| by
 intro pins s σ H D I h
 rw [exec_Assign_Name_used _ _ _ _ hsw]
 refine wpAny_bind (wpAny_standAt (wpAny_bind ?_))
 show wpAny _ X.A (do let _ ← comprehension (.ListComp elt [⟨tg,iter,ifs,0⟩] scope cpos) scope X.env _ (newList []) false (eval iter X.env) (some (assign (.Name x pos') X.env))) _ _ s
 refine wpAny_bind (thn (zql (use:=some (assign (.Name x pos') X.env)) (QQ:=λ _ s'=>SP X pins D .next s') EK hE hc hi hg hif he hk hb hcap hgk hs I h ?_) λ _ s' hq=>wpAny_pure (wpAny_pure hq))
 intro Da C m H5 s6 I6 q6 hn hC hcell hfp h5
 show wpAny _ _ (assign (.Name x pos') X.env (.ref Da)) _ _ s6
 refine wpAny_assign_Name (znj I6 hN hix hx (v := .ref Da) rfl (λ s7 I7 ⟨a,hsb,ha⟩=>?_) hf)
 have hCa:C≠a:=by
  rcases ha with rfl | ha
  ·exact hC
  ·exact λ z=>hcell x a ha z.symm
 refine ⟨m,hn.sameBut hsb hCa,λ h' hsb'=>⟨_,H5,?_,q6⟩⟩
 refine I7.turnedL (ch:=[C]) (t':=s7.toks) (λ b hb'=>?_) λ b u hb' e=>(hsb'.2 b λ z=>hb' (by simp [z])).trans e
 have eb:b=C:=by simpa using hb'
 subst eb
 exact hfp _ h5
theorem zan {elt tg iter:Expr} {ifs:List Expr} {scope:Scope} {cpos pos pos':Pos} {wi:TI} {g:TG} {ti:TT} {te:TE} {i:Nat} {x:Str} (N':List Str) (nt:Nat) (cap:List Nat)
  (hN:X.N.Nodup) (hix:X.N[i]? = some x) (hx:Loc X.env.scope x)
  (hc:X.calm=true) (hi:PI X tg iter wi) (hgk:zhf nt g)
  (hg:∀ C s₀ H₀ fp E',PG (X.comp scope C s₀ H₀ fp N' E') tg g)
  (hif:∀ C s₀ H₀ fp E',PIf (X.comp scope C s₀ H₀ fp N' E') ifs ti)
  (he:∀ C s₀ H₀ fp E',PE (X.comp scope C s₀ H₀ fp N' E') elt te)
  (hk:scope.kind = .function:=by rfl) (hb:zzc scope X.env=true:=by rfl) (hcap:zgn X scope N' nt cap=true:=by rfl)
  (hs:∀ x,foldedSetIterable iter X.env x=pure x:=by intro _;rfl) (hf:X.fn x=true ∨ X.env.scope.names.lookup x=some .local:=by first | exact .inl rfl | exact .inr rfl | assumption)
  (hsw:swapsWith (.ListComp elt [⟨tg,iter,ifs,0⟩] scope cpos) (some (.Name x pos')) pos.line X.env=pure true:=by rfl) :
  PS X (.Assign [.Name x pos'] (.ListComp elt [⟨tg,iter,ifs,0⟩] scope cpos) pos) (tAsg (zlr wi nt cap g ti te) (zdq i)) :=
 zom (λ _ _ _ _ _=>True) (λ _ _ _ _ _ _ _ _ _=>trivial) hc hi (λ C s₀ H₀ fp E' _=>hg C s₀ H₀ fp E') (λ C s₀ H₀ fp E' _=>hif C s₀ H₀ fp E') (λ C s₀ H₀ fp E' _=>he C s₀ H₀ fp E') hk hb hcap hgk hs hN hix hx hf hsw
end
end L2
namespace HT
open PySem PySem.Spec PyProof.Rows
section
variable {prog:Program} {w:World} {A:Around} {E:Value→Shared→Prop} {s:Shared}
theorem getItem_tuple_whole {t sl:Addr} {items:Array Value} {vl vu:Value} {lo hi:Option Int} {Q:Value→Shared→Prop} (ht:IsTup s.heap t items) (hs:s.heap.IsSliceOf sl vl vu .none) (pl:IsPart vl lo) (pu:IsPart vu hi)
  (hw:sIx items.size 0 lo=0∧sIx items.size items.size hi=items.size) (h:Q (.ref t) s):wpAny (model prog w) A (getItem (.ref t) (.ref sl)) Q E s:=by
 obtain ⟨os,hos,hcs,hds⟩:=id hs
 have hTs:s.TypeIs (.ref sl) "slice" := ⟨os,hos,hcs⟩
 unfold getItem
 try with_reducible refine wpAny_holding ?_
 first | refine wpAny_bind (wpAny_pure ?_) | skip
 refine wpAny_bind (wpAny_sequenceKey ht.typeIs (by decide) ?_)
 refine wpAny_bind (wpAny_callSpecial?_slot (name:=Str.ofString "__getitem__") ht.typeIs PyProof.Rows.slot_tuple_getitem
  (wpAny_call_entry PyProof.Rows.slot_tuple_getitem ht.typeIs entry_tuple_getitem ?_ (args_tuple_getitem _ _)))
 show wpAny _ _ (Builtin.Tuple.tupleItemsOf (.ref t) >>= _) _ _ s
 refine wpAny_bind (tupleItemsOf_ ht ?_)
 refine wpAny_bind (wpAny_typeOf hTs ?_)
 rw [if_pos (by decide)]
 refine wpAny_bind (zgc hs pl pu ?_)
 have hyes:((((sIx items.size 0 lo:Nat):Int) == 0 && (1:Int) == 1 && (sIx items.size items.size hi - sIx items.size 0 lo) == items.size)=true):=by
  rw [hw.1,hw.2]
  simp
 show wpAny _ _ (if (((sIx items.size 0 lo:Nat):Int) == 0 && (1:Int) == 1 && (sIx items.size items.size hi - sIx items.size 0 lo) == items.size)=true then _ else _) _ _ s
 rw [if_pos hyes]
 refine wpAny_bind ?_
 unfold Builtin.Tuple.tupleIsExact
 refine wpAny_bind (wpAny_typeOf ht.typeIs (wpAny_pure ?_))
 rw [if_pos (by decide)]
 refine wpAny_bind (wpAny_rule ?_)
 refine wpAny_pure ⟨_,rfl,?_⟩
 exact wpAny_pure h
end
end HT
namespace L2
open PySem PySem.Spec PyProof.Rows PySem.NumText
section
variable {X:Cx}
noncomputable def rSlG (K:W.Frag):V→Option Int→Option Int→Hp→VK→Prop:=λ x lo hi H Q=>∃ a xs,x = .ref a∧SqT K H a xs∧∀ p H',SqT K H' p (cutV xs lo hi)→Same H H'→(Plain H→Plain H')→Q (.ref p) H'
theorem zqg:SlR X (rSlG X.K):=by
 intro pins s σ H x v vl vu lo hi sl Q I rx hs pl pu h
 obtain ⟨a,xs,rfl,hx,q⟩:=h
 by_cases hw:HT.sIx xs.length 0 lo=0∧HT.sIx xs.length xs.length hi=xs.length
 ·cases rx
  obtain ⟨its,r,ht,hz⟩:=I.tuple hx
  have hlen:its.toArray.size=xs.length:=by rw [List.size_toArray];exact r.length.symm
  refine ⟨"tuple",_,PyProof.Rows.slot_tuple_getitem.lookup,ht.typeIs,?_⟩
  refine HT.getItem_tuple_whole ht hs pl pu (by rw [hlen];exact hw) ⟨.ref a,H,I,rfl,q _ _ ?_ (Same.refl _) id⟩
  unfold cutV
  rw [hw.1,hw.2]
  simpa using hx
 ·exact zoz pins s σ H (.ref a) v vl vu lo hi sl Q I rx hs pl pu ⟨a,xs,rfl,hx,hw,λ p hp=>q _ _ (SqT.of upd_same) (zba hp) λ z=>z.tup⟩
noncomputable def zb4 (K:W.Frag):R2:=λ x y H Q=>∃ a b xs ys,x = .ref a∧y = .ref b∧SqT K H a xs∧SqT K H b ys∧xs.length+ys.length≤sizeLine∧∀ p H',SqT K H' p (xs++ys)→Same H H'→(Plain H→Plain H')→Q (.ref p) H'
theorem zng:OpR X (binaryOp .Add) (zb4 X.K):=by
 intro pins s σ H x y v u Q I rx ry h
 obtain ⟨a,b,xs,ys,rfl,rfl,ha,hb,hz,q⟩:=h
 by_cases hx:xs=[]
 ·cases rx
  cases ry
  obtain ⟨its,r1,p1,_⟩:=I.tuple ha
  obtain ⟨its2,r2,p2,_⟩:=I.tuple hb
  have e:its=[]:=by subst hx;cases r1;rfl
  subst e
  obtain ⟨⟨cls,dd,data,sl⟩,ho,hc,n,hd⟩:=id p1
  obtain ⟨⟨cls2,dd2,data2,sl2⟩,ho2,hc2,n2,hd2⟩:=id p2
  simp only at hc hd hc2 hd2
  subst hc hd hc2 hd2
  exact concat_meets ⟨_,ho,rfl⟩ ⟨_,ho2,rfl⟩ noFill_tuple_add seq_tuple_add PySem.F.slot_tuple_add PySem.F.entry_tuple_add (PySem.F.args_tuple_add_2 _ _)
   (tuple_addW0 a b #[] its2.toArray n n2 dd dd2 sl sl2 rfl) ⟨ho,ho2,⟨.ref b,H,I,rfl,q _ _ (by subst hx;exact hb) (Same.refl _) id⟩⟩
 ·refine zjt pins s σ H _ _ v u Q I rx ry ⟨a,b,xs,ys,rfl,rfl,ha,hb,hx,hz,λ e=>q _ _ (by subst e;rw [List.append_nil];exact ha) (Same.refl _) id,λ _ p hp=>q _ _ (SqT.of upd_same) (zba hp) λ z=>z.tup⟩
end
mutual
noncomputable def noL:PyData→Bool
 | .list _=>false
 | .tuple xs=>noLs xs
 | _=>true
noncomputable def noLs:List PyData→Bool
 | []=>true
 | d::ds=>noL d && noLs ds
end
theorem SqT.mono {K:W.Frag} {H H':Hp} {a D:Addr} {xs:List V} (k:∀ b o,b≠D→H b=some o→H' b=some o) (hd:∃ zs,H D=some (.lst zs)) (h:SqT K H a xs):SqT K H' a xs:=by
 obtain ⟨zs,hd⟩:=hd
 rcases h with h | h
 ·rcases h with h | ⟨o,h⟩
  ·exact .inl (.inl (k _ _ (zsw h hd (λ e=>nomatch e)) h))
  ·exact .inl (.inr ⟨o,k _ _ (zsw h hd (λ e=>nomatch e)) h⟩)
 ·exact .inr h
mutual
theorem DV.mono {K:W.Frag} {H H':Hp} {D:Addr} (k:∀ b o,b≠D→H b=some o→H' b=some o) (hd:∃ zs,H D=some (.lst zs)):∀ (d:PyData) (v:V),noL d=true→DV K H d v→DV K H' d v
 | .none,v,_,h=>h
 | .bool b,v,_,h=>h
 | .int i,v,_,h=>h
 | .str x,v,_,h=>h
 | .list xs,v,n,_=>by cases n
 | .tuple xs,v,n,⟨a,vs,h1,h2,h3⟩=>⟨a,vs,h1,h2.mono k hd,DVs.mono k hd xs vs n h3⟩
 | .dict _,v,_,h=>h.elim
theorem DVs.mono {K:W.Frag} {H H':Hp} {D:Addr} (k:∀ b o,b≠D→H b=some o→H' b=some o) (hd:∃ zs,H D=some (.lst zs)):∀ (ds:List PyData) (vs:List V),noLs ds=true→DVs K H ds vs→DVs K H' ds vs
 | [],vs,_,h=>h
 | d::ds,vs,n,⟨v,r,h1,h2,h3⟩=>by
  have n:noL d=true∧noLs ds=true:=by rw [noLs,Bool.and_eq_true] at n;exact n
  exact ⟨v,r,h1,DV.mono k hd d v n.1 h2,DVs.mono k hd ds r n.2 h3⟩
end
theorem DVs.length {K:W.Frag} {H:Hp}:∀ {ds:List PyData} {vs:List V},DVs K H ds vs→vs.length=ds.length
 | [],vs,h=>by cases (show vs=[] from h);rfl
 | d::ds,vs,⟨v,r,h1,h2,h3⟩=>by subst h1;simp [DVs.length h3]
theorem DVs.get {K:W.Frag} {H:Hp}:∀ {ds:List PyData} {vs:List V} {i:Nat} {d:PyData},DVs K H ds vs→ds[i]? = some d→∃ v,vs[i]? = some v∧DV K H d v
 | [],vs,i,d,h,e=>by simp at e
 | d::ds,vs,0,e',⟨v,r,h1,h2,h3⟩,e=>by subst h1;simp at e;subst e;exact ⟨v,rfl,h2⟩
 | d::ds,vs,i+1,e',⟨v,r,h1,h2,h3⟩,e=>by subst h1;simp at e;obtain ⟨u,hu,q⟩:=DVs.get h3 e;exact ⟨u,by simpa using hu,q⟩
theorem DVs.append {K:W.Frag} {H:Hp}:∀ {ds es:List PyData} {vs us:List V},DVs K H ds vs→DVs K H es us→DVs K H (ds++es) (vs++us)
 | [],es,vs,us,h,h'=>by cases (show vs=[] from h);exact h'
 | d::ds,es,vs,us,⟨v,r,h1,h2,h3⟩,h'=>by subst h1;exact ⟨v,r++us,rfl,h2,DVs.append h3 h'⟩
section
variable {X:Cx} {K:W.Frag}
theorem zel (h:X.K=K):IxR X (rIxT K):=h ▸ zhd
end
end L2
namespace L2
open PySem PySem.Spec PyProof.Rows PySem.NumText
noncomputable abbrev Stp:=Int×Int×Int
noncomputable def stp (s:Stp):PyData := .tuple [.int s.1,.int s.2.1,.int s.2.2]
noncomputable def plc (ss:List Stp):PyData := .tuple (ss.map stp)
noncomputable abbrev sV (s:Stp):List V:=[.int s.1,.int s.2.1,.int s.2.2]
theorem zxz {K:W.Frag} {H:Hp} {s:Stp} {v:V} (h:DV K H (stp s) v):∃ t,v = .ref t∧SqT K H t (sV s):=by
 obtain ⟨t,vs,rfl,hq,x,r,rfl,hx,y,r2,rfl,hy,z,r3,rfl,hz,h4⟩:=h
 cases (show x=V.int s.1 from hx)
 cases (show y=V.int s.2.1 from hy)
 cases (show z=V.int s.2.2 from hz)
 cases (show r3=[] from h4)
 exact ⟨t,rfl,hq⟩
theorem zq0 {K:W.Frag} {H:Hp} {s:Stp} {t:Addr} (h:SqT K H t (sV s)):DV K H (stp s) (.ref t):=⟨t,_,rfl,h,_,_,rfl,rfl,_,_,rfl,rfl,_,_,rfl,rfl,rfl⟩
theorem zgq (s:Stp):noL (stp s)=true:=rfl
theorem zyk:∀ ss:List Stp,noLs (ss.map stp)=true
 | []=>rfl
 | s::ss=>by rw [List.map_cons,noLs,zgq,zyk ss];rfl
theorem zaw (ss:List Stp):noL (plc ss)=true:=zyk ss
theorem zff:∀ ss:List Stp,PyData.canLayAll0 (ss.map stp)=true
 | []=>rfl
 | s::ss=>by
  rw [List.map_cons,PyData.canLayAll0,zff ss]
  rfl
theorem zbd:∀ ss:List Stp,PyData.depthAll (ss.map stp)≤1
 | []=>Nat.zero_le _
 | s::ss=>by
  rw [List.map_cons,PyData.depthAll]
  have h1:PyData.depth (stp s)=1:=rfl
  have h2:=zbd ss
  rw [h1]
  omega
theorem zvp (ss:List Stp):PyData.canLay0 (plc ss)=true:=zff ss
theorem zxc (ss:List Stp):SeqAt.shaped (plc ss)=true:=by
 unfold SeqAt.shaped
 rw [zvp,Bool.true_and]
 have h:PyData.depth (plc ss)=PyData.depthAll (ss.map stp)+1:=rfl
 have:=zbd ss
 exact decide_eq_true (by omega)
theorem znw (a b:Stp):PyData.eqv (stp a) (stp b)=decide (a=b):=by
 obtain ⟨a1,a2,a3⟩:=a
 obtain ⟨b1,b2,b3⟩:=b
 have e:PyData.eqv (stp (a1,a2,a3)) (stp (b1,b2,b3))=(a1 == b1 && (a2 == b2 && (a3 == b3 && true))):=rfl
 rw [e,Bool.eq_iff_iff]
 simp
theorem zvm:∀ a b:List Stp,PyData.eqvAll (a.map stp) (b.map stp)=decide (a=b)
 | [],[]=>rfl
 | [],_::_=>rfl
 | _::_,[]=>rfl
 | x::a,y::b=>by
  rw [List.map_cons,List.map_cons,PyData.eqvAll,znw,zvm a b,Bool.eq_iff_iff]
  simp
theorem zzp (a b:List Stp):PyData.eqv (plc a) (plc b)=decide (a=b):=zvm a b
theorem zmq {K:W.Frag} {H:Hp} {ss:List Stp} {vs:List V} {i:Nat} (h:DVs K H (ss.map stp) vs) (hi:i<ss.length):∃ t,vs[i]? = some (.ref t)∧SqT K H t (sV ss[i]):=by
 obtain ⟨v,hv,hd⟩:=h.get (i:=i) (d:=stp ss[i]) (by simp [hi])
 obtain ⟨t,rfl,hq⟩:=zxz hd
 exact ⟨t,hv,hq⟩
theorem zdp {α:Type} {K:W.Frag} {H:Hp} {f:α→PyData}:∀ {ys:List V} {R:Nat→α→Prop},(∀ (i:Nat) y,ys[i]? = some y→∃ x,DV K H (f x) y∧R i x)→∃ xs:List α,xs.length=ys.length∧DVs K H (xs.map f) ys∧∀ (i:Nat) x,xs[i]? = some x→R i x:=by
 intro ys
 induction ys with
 | nil=>intro R _;exact ⟨[],rfl,rfl,λ i x e=>by simp at e⟩
 | cons y ys ih =>
  intro R h
  obtain ⟨x,e,r⟩:=h 0 y rfl
  obtain ⟨xs,e1,e2,r2⟩:=ih (R:=λ i x=>R (i+1) x) λ i z e=>h (i+1) z (by simpa using e)
  refine ⟨x::xs,by simp [e1],⟨y,ys,rfl,e,e2⟩,λ i z ez=>?_⟩
  cases i with
  | zero=>simp at ez;subst ez;exact r
  | succ i=>exact r2 i z (by simpa using ez)
theorem zwr {xs:List V} {i:Int} (h0:0≤i):cutV xs none (some i)=xs.take i.toNat:=by
 obtain ⟨j,rfl⟩:∃ j:Nat,i=j:=⟨i.toNat,by omega⟩
 unfold cutV
 rw [HT.sIx_none,HT.sIx_nat,List.drop_zero,Nat.sub_zero,Int.toNat_natCast]
 rcases Nat.le_total j xs.length with h | h
 ·rw [Nat.min_eq_left h]
 ·rw [Nat.min_eq_right h,List.take_of_length_le (Nat.le_refl _),List.take_of_length_le h]
theorem zqf {xs:List V} {i:Int} (h0:0≤i):cutV xs (some i) none=xs.drop i.toNat:=by
 obtain ⟨j,rfl⟩:∃ j:Nat,i=j:=⟨i.toNat,by omega⟩
 unfold cutV
 rw [HT.sIx_none,HT.sIx_nat,Int.toNat_natCast]
 rcases Nat.le_total j xs.length with h | h
 ·rw [Nat.min_eq_left h,List.take_of_length_le (by rw [List.length_drop];exact Nat.le_refl _)]
 ·rw [Nat.min_eq_right h,List.drop_of_length_le h,List.drop_of_length_le (Nat.le_refl _),List.take_nil]
end L2
namespace L2
open PySem PySem.Spec PyProof.Rows PySem.NumText
noncomputable def lexD (e r:Nat→Bool) (d:Bool):List Nat→Bool
 | []=>d
 | j::js=>if e j=true then lexD e r d js else r j
noncomputable def zeq (op:CmpOp) (A:Around) (s:Shared) (y x:Value) (b:Bool):Prop :=
 ∀ (prog:Program) (w:World) (E:Value→Shared→Prop) (Q:Value→Shared→Prop),Q (.bool b) s→wpAny (model prog w) A (richCompare op y x) Q E s
section
open PySem.SeqAt
open PySem.AutoSeq1 (wpAny_loadPart')
open PySem.MeetsSeq PySem.MeetsSeq2 PySem.MeetsSeq3
end
theorem znk (e r:Nat→Bool) (d:Bool):∀ js:List Nat,lexD e r d (js.map Nat.succ)=lexD (λ j=>e (j+1)) (λ j=>r (j+1)) d js
 | []=>rfl
 | j::js=>by
  rw [List.map_cons,lexD,lexD,znk e r d js]
section
variable {X:Cx} {pins:List (Addr×Obj)} {σ:St} {H:Hp} {s:Shared} {A:Around}
end
section
variable {X:Cx} {K:W.Frag}
end
theorem Room.u100 {k:Nat} {A:Around} (r:Room k A):A.units+100<cLine:=by have:=r.un;omega
end L2
namespace L2
open PySem PySem.Spec PyProof.Rows PySem.NumText
section
open PySem.SeqAt
open PySem.AutoSeq1 (wpAny_loadPart')
open PySem.MeetsSeq PySem.MeetsSeq2 PySem.MeetsSeq3
theorem zck (l b:Addr) (items items2:Array Value) (n n2:Nat) (dd dd2:Option Addr) (sl sl2:Array (Option Value)) (e r:Nat→Bool) :
  Meets (Builtin.«tuple.__lt__» ⟨[.ref l,.ref b],[]⟩)
   (λ A R s=>s.heap.get? l=some { cls := .type "tuple",dict:=dd,data := .seq items n,slots:=sl }∧s.heap.get? b=some { cls := .type "tuple",dict:=dd2,data := .seq items2 n2,slots:=sl2 } ∧
    (∀ j (h1:j<items.size) (h2:j<items2.size),EqAt A.in1 s items[j] items2[j] (e j)) ∧
    (∀ j (h1:j<items.size) (h2:j<items2.size),(∀ i,i<j→e i=true)→e j=false→zeq .Lt A.in1 s items[j] items2[j] (r j)) ∧
    R (.ok (.ret (.bool (lexD e r (decide (items.size<items2.size)) (List.range (min items.size items2.size)))))) s) :=
 .of_wp λ prog w A R s h=>by
  obtain ⟨hp,g,d,tk,os⟩:=s;obtain ⟨hl,hb,he,hc,h⟩:=h
  have f2:=AutoSeq1.sub_tuple_tuple
  have hZ:(items.toList.zip items2.toList).length=min items.size items2.size:=by simp
  wp_walk using wpAny_loadPart' hl,wpAny_loadPart' hb,wpAny_forIn_list _ (λ rest b s'=>b.1=none∧s'=⟨hp,g,d,tk,os⟩∧∃ i,rest=(items.toList.zip items2.toList).drop i∧(∀ k,k<i→e k=true) ∧
   R (.ok (.ret (.bool (lexD e r (decide (items.size<items2.size)) ((List.range (min items.size items2.size)).drop i))))) ⟨hp,g,d,tk,os⟩) _
  case turn =>
   rintro ⟨y,x⟩ rest b s' ⟨hb',rfl,i,hz,hall,hR⟩
   have hlt:i<(items.toList.zip items2.toList).length:=by
    rcases Nat.lt_or_ge i (items.toList.zip items2.toList).length with h' | h'
    ·exact h'
    ·rw [List.drop_of_length_le h'] at hz;cases hz
   have hm:i<min items.size items2.size:=hZ ▸ hlt
   have h1:i<items.size:=Nat.lt_of_lt_of_le hm (Nat.min_le_left _ _)
   have h2:i<items2.size:=Nat.lt_of_lt_of_le hm (Nat.min_le_right _ _)
   rw [List.drop_eq_getElem_cons hlt] at hz
   injection hz with hyx hrest
   have hy:y=items[i]:=by have:=congrArg Prod.fst hyx;simpa using this
   have hx:x=items2[i]:=by have:=congrArg Prod.snd hyx;simpa using this
   subst hy hx
   have hd:(List.range (min items.size items2.size)).drop i=i::(List.range (min items.size items2.size)).drop (i+1):=by simp [List.drop_eq_getElem_cons,hm]
   rw [hd,lexD] at hR
   refine wpAny_bind (he i h1 h2 prog w _ _ ?_)
   cases hy:e i with
   | true =>
    rw [hy,if_pos rfl] at hR
    wp_walk
    exact ⟨rfl,rfl,i+1,hrest,λ k hk=>by
     rcases Nat.lt_or_ge k i with h' | h'
     ·exact hall k h'
     ·have:k=i:=by omega
      rw [this];exact hy,hR⟩
   | false =>
    rw [hy,if_neg Bool.false_ne_true] at hR
    have hri:=hc i h1 h2 hall hy prog w
    wp_walk using hri
    exact ⟨_,rfl,by simpa using hR⟩
  case fin =>
   rintro ⟨b1,b2⟩ s' ⟨hb',rfl,i,hz,hall,hR⟩
   simp only at hb'
   subst hb'
   have hge:min items.size items2.size≤i:=by
    rw [← hZ]
    rcases Nat.lt_or_ge i (items.toList.zip items2.toList).length with h' | h'
    ·rw [List.drop_eq_getElem_cons h'] at hz;cases hz
    ·exact h'
   rw [List.drop_of_length_le (by simpa using hge),lexD] at hR
   wp_walk
   exact ⟨_,rfl,by simpa [Builtin.Tuple.tupleCompareSizes] using hR⟩
  case h =>
   exact ⟨rfl,rfl,0,rfl,λ k hk=>absurd hk (Nat.not_lt_zero _),h⟩
theorem zlo {prog:Program} {w:World} {A:Around} {E:Value→Shared→Prop} {s:Shared} {l b:Addr} {items items2:Array Value} {e r:Nat→Bool} {Q:Value→Shared→Prop} (hl:IsTup s.heap l items) (hb:IsTup s.heap b items2)
  (he:∀ j (h1:j<items.size) (h2:j<items2.size),EqAt A.in1 s items[j] items2[j] (e j)) (hc:∀ j (h1:j<items.size) (h2:j<items2.size),(∀ i,i<j→e i=true)→e j=false→zeq .Lt A.in1 s items[j] items2[j] (r j))
  (hu:A.units<cLine) (h:Q (.bool (lexD e r (decide (items.size<items2.size)) (List.range (min items.size items2.size)))) s):wpAny (model prog w) A (compareOp .Lt (.ref l) (.ref b)) Q E s:=by
 obtain ⟨⟨cls,dd,data,sl⟩,ho,hc1,n,hd⟩:=id hl
 obtain ⟨⟨cls2,dd2,data2,sl2⟩,ho2,hc2,n2,hd2⟩:=id hb
 simp only at hc1 hd hc2 hd2
 subst hc1 hd hc2 hd2
 refine richCompare_meets_room (op := .Lt) ⟨_,ho,rfl⟩ ⟨_,ho2,rfl⟩ PySem.F.slot_tuple_lt PySem.F.entry_tuple_lt (PySem.F.args_tuple_lt_2 _ _) (zck l b items items2 n n2 dd dd2 sl sl2 e r) ⟨ho,ho2,he,hc,?_⟩ hu
 exact (show Value.bool _≠Value.notImplemented∧Q (.bool _) s from ⟨(λ x=>nomatch x),h⟩)
theorem zhk (l b:Addr) (items items2:Array Value) (n n2:Nat) (dd dd2:Option Addr) (sl sl2:Array (Option Value)) (e r:Nat→Bool) :
  Meets (Builtin.«tuple.__ge__» ⟨[.ref l,.ref b],[]⟩)
   (λ A R s=>s.heap.get? l=some { cls := .type "tuple",dict:=dd,data := .seq items n,slots:=sl }∧s.heap.get? b=some { cls := .type "tuple",dict:=dd2,data := .seq items2 n2,slots:=sl2 } ∧
    (∀ j (h1:j<items.size) (h2:j<items2.size),EqAt A.in1 s items[j] items2[j] (e j)) ∧
    (∀ j (h1:j<items.size) (h2:j<items2.size),(∀ i,i<j→e i=true)→e j=false→zeq .GtE A.in1 s items[j] items2[j] (r j)) ∧
    R (.ok (.ret (.bool (lexD e r (decide (items2.size≤items.size)) (List.range (min items.size items2.size)))))) s) :=
 .of_wp λ prog w A R s h=>by
  obtain ⟨hp,g,d,tk,os⟩:=s;obtain ⟨hl,hb,he,hc,h⟩:=h
  have f2:=AutoSeq1.sub_tuple_tuple
  have hZ:(items.toList.zip items2.toList).length=min items.size items2.size:=by simp
  wp_walk using wpAny_loadPart' hl,wpAny_loadPart' hb,wpAny_forIn_list _ (λ rest b s'=>b.1=none∧s'=⟨hp,g,d,tk,os⟩∧∃ i,rest=(items.toList.zip items2.toList).drop i∧(∀ k,k<i→e k=true) ∧
   R (.ok (.ret (.bool (lexD e r (decide (items2.size≤items.size)) ((List.range (min items.size items2.size)).drop i))))) ⟨hp,g,d,tk,os⟩) _
  case turn =>
   rintro ⟨y,x⟩ rest b s' ⟨hb',rfl,i,hz,hall,hR⟩
   have hlt:i<(items.toList.zip items2.toList).length:=by
    rcases Nat.lt_or_ge i (items.toList.zip items2.toList).length with h' | h'
    ·exact h'
    ·rw [List.drop_of_length_le h'] at hz;cases hz
   have hm:i<min items.size items2.size:=hZ ▸ hlt
   have h1:i<items.size:=Nat.lt_of_lt_of_le hm (Nat.min_le_left _ _)
   have h2:i<items2.size:=Nat.lt_of_lt_of_le hm (Nat.min_le_right _ _)
   rw [List.drop_eq_getElem_cons hlt] at hz
   injection hz with hyx hrest
   have hy:y=items[i]:=by have:=congrArg Prod.fst hyx;simpa using this
   have hx:x=items2[i]:=by have:=congrArg Prod.snd hyx;simpa using this
   subst hy hx
   have hd:(List.range (min items.size items2.size)).drop i=i::(List.range (min items.size items2.size)).drop (i+1):=by simp [List.drop_eq_getElem_cons,hm]
   rw [hd,lexD] at hR
   refine wpAny_bind (he i h1 h2 prog w _ _ ?_)
   cases hy:e i with
   | true =>
    rw [hy,if_pos rfl] at hR
    wp_walk
    exact ⟨rfl,rfl,i+1,hrest,λ k hk=>by
     rcases Nat.lt_or_ge k i with h' | h'
     ·exact hall k h'
     ·have:k=i:=by omega
      rw [this];exact hy,hR⟩
   | false =>
    rw [hy,if_neg Bool.false_ne_true] at hR
    have hri:=hc i h1 h2 hall hy prog w
    wp_walk using hri
    exact ⟨_,rfl,by simpa using hR⟩
  case fin =>
   rintro ⟨b1,b2⟩ s' ⟨hb',rfl,i,hz,hall,hR⟩
   simp only at hb'
   subst hb'
   have hge:min items.size items2.size≤i:=by
    rw [← hZ]
    rcases Nat.lt_or_ge i (items.toList.zip items2.toList).length with h' | h'
    ·rw [List.drop_eq_getElem_cons h'] at hz;cases hz
    ·exact h'
   rw [List.drop_of_length_le (by simpa using hge),lexD] at hR
   wp_walk
   exact ⟨_,rfl,by simpa [Builtin.Tuple.tupleCompareSizes] using hR⟩
  case h =>
   exact ⟨rfl,rfl,0,rfl,λ k hk=>absurd hk (Nat.not_lt_zero _),h⟩
theorem zvn {prog:Program} {w:World} {A:Around} {E:Value→Shared→Prop} {s:Shared} {l b:Addr} {items items2:Array Value} {e r:Nat→Bool} {Q:Value→Shared→Prop} (hl:IsTup s.heap l items) (hb:IsTup s.heap b items2)
  (he:∀ j (h1:j<items.size) (h2:j<items2.size),EqAt A.in1 s items[j] items2[j] (e j)) (hc:∀ j (h1:j<items.size) (h2:j<items2.size),(∀ i,i<j→e i=true)→e j=false→zeq .GtE A.in1 s items[j] items2[j] (r j))
  (hu:A.units<cLine) (h:Q (.bool (lexD e r (decide (items2.size≤items.size)) (List.range (min items.size items2.size)))) s):wpAny (model prog w) A (compareOp .GtE (.ref l) (.ref b)) Q E s:=by
 obtain ⟨⟨cls,dd,data,sl⟩,ho,hc1,n,hd⟩:=id hl
 obtain ⟨⟨cls2,dd2,data2,sl2⟩,ho2,hc2,n2,hd2⟩:=id hb
 simp only at hc1 hd hc2 hd2
 subst hc1 hd hc2 hd2
 refine richCompare_meets_room (op := .GtE) ⟨_,ho,rfl⟩ ⟨_,ho2,rfl⟩ PySem.F.slot_tuple_ge PySem.F.entry_tuple_ge (PySem.F.args_tuple_ge_2 _ _) (zhk l b items items2 n n2 dd dd2 sl sl2 e r) ⟨ho,ho2,he,hc,?_⟩ hu
 exact (show Value.bool _≠Value.notImplemented∧Q (.bool _) s from ⟨(λ x=>nomatch x),h⟩)
end
mutual
noncomputable def ltD:PyData→PyData→Option Bool
 | .int a,.int b=>some (decide (a<b))
 | .str a,.str b=>some (decide (a.cps.toList<b.cps.toList))
 | .tuple xs,.tuple ys=>ltDs xs ys
 | _,_=>none
noncomputable def ltDs:List PyData→List PyData→Option Bool
 | [],[]=>some false
 | [],_::_=>some true
 | _::_,[]=>some false
 | x::xs,y::ys=>if PyData.eqv x y=true then ltDs xs ys else ltD x y
end
theorem zto {e r:Nat→Bool}:∀ {xs ys:List PyData} {b:Bool},ltDs xs ys=some b→(∀ (j:Nat) x y,xs[j]? = some x→ys[j]? = some y→e j=PyData.eqv x y) →
  (∀ (j:Nat) x y c,xs[j]? = some x→ys[j]? = some y→(∀ i,i<j→e i=true)→e j=false→ltD x y=some c→r j=c) →
  lexD e r (decide (xs.length<ys.length)) (List.range (min xs.length ys.length))=b:=by
 intro xs
 induction xs generalizing e r with
 | nil =>
  intro ys b h _ _
  cases ys with
  | nil=>cases h;rfl
  | cons y ys=>cases h;rw [List.length_nil,Nat.zero_min];exact decide_eq_true (Nat.succ_pos _)
 | cons x xs ih =>
  intro ys b h he hr
  cases ys with
  | nil=>cases h;rw [List.length_nil,Nat.min_zero];exact decide_eq_false (Nat.not_lt_zero _)
  | cons y ys =>
   have h0:=he 0 x y rfl rfl
   rw [List.length_cons,List.length_cons,Nat.succ_min_succ,List.range_succ_eq_map,lexD]
   rw [ltDs] at h
   by_cases hxy:PyData.eqv x y=true
   ·rw [if_pos hxy] at h
    rw [if_pos (h0.trans hxy),znk]
    have:=ih (ys:=ys) (e:=λ j=>e (j+1)) (r:=λ j=>r (j+1)) h (λ j a b h1 h2=>he (j+1) a b (by simpa using h1) (by simpa using h2))
     (λ j a b c h1 h2 h3 h4 h5=>hr (j+1) a b c (by simpa using h1) (by simpa using h2) (λ i hi=>by
      cases i with
      | zero=>exact h0.trans hxy
      | succ i=>exact h3 i (by omega)) h4 h5)
    rw [← this]
    congr 1
    exact decide_eq_decide.mpr (by omega)
   ·rw [if_neg hxy] at h
    have hf:e 0=false:=by rw [h0];simpa using hxy
    rw [if_neg (by rw [hf];exact Bool.false_ne_true)]
    exact hr 0 x y b rfl rfl (λ i hi=>absurd hi (Nat.not_lt_zero _)) hf h
theorem zbm {e r:Nat→Bool} {d:Bool}:∀ js:List Nat,lexD e (λ j => !r j) (!d) js = !lexD e r d js
 | []=>rfl
 | j::js=>by
  rw [lexD,lexD,zbm js]
  split <;> rfl
theorem zod {h:Heap}:∀ {xs:List PyData} {vs:List Value} {as:List Addr} {j:Nat} {v:Value},ReadsAll h vs xs as→vs[j]? = some v→∃ d bs,xs[j]? = some d∧Reads h v d bs∧d∈xs
 | _,_,_,0,v,.cons (v:=u) (d:=d) r rr,e=>by
  have:u=v:=by simpa using e
  subst this
  exact ⟨_,_,rfl,r,List.mem_cons_self⟩
 | _,_,_,j+1,v,.cons r rr,e=>by
  obtain ⟨d,bs,h1,h2,h3⟩:=zod rr (j:=j) (by simpa using e)
  exact ⟨d,bs,by simpa using h1,h2,List.mem_cons_of_mem _ h3⟩
theorem zbc:∀ {xs:List PyData} {d:PyData},d∈xs→PyData.canLayAll0 xs=true→PyData.canLay0 d=true
 | x::xs,d,h,c=>by
  rw [PyData.canLayAll0,Bool.and_eq_true] at c
  rcases List.mem_cons.mp h with rfl | h
  ·exact c.1
  ·exact zbc h c.2
theorem ztf:∀ {xs:List PyData} {d:PyData},d∈xs→PyData.depth d≤PyData.depthAll xs
 | x::xs,d,h=>by
  rw [PyData.depthAll]
  rcases List.mem_cons.mp h with rfl | h
  ·omega
  ·have:=ztf h
   omega
theorem zlk:∀ (n:Nat) (da db:PyData) (c:Bool) (A:Around) (s:Shared) (a b:Value) (as bs:List Addr),PyData.depth da≤n→Reads s.heap a da as→Reads s.heap b db bs→da.canLay0=true→db.canLay0=true→ltD da db=some c →
  A.units+n+2<cLine→zeq .Lt A s a b c∧zeq .GtE A s a b (!c):=by
 intro n
 induction n with
 | zero =>
  intro da db c A s a b as bs hd ra rb _ _ hc hu
  cases ra with
  | int i t =>
   cases rb with
   | int j u =>
    have hc:decide (i<j)=c:=by simpa [ltD] using hc
    subst hc
    refine ⟨λ prog w E Q hq=>(PyProof.Rows.lt_int hq:wpAny (model prog w) A (compareOp .Lt (.int i t) (.int j u)) Q E s),λ prog w E Q hq=>?_⟩
    have e:(!decide (i<j))=decide (j≤i):=by rw [← decide_not];exact decide_eq_decide.mpr (by omega)
    rw [e] at hq
    exact (PyProof.Rows.ge_int hq:wpAny (model prog w) A (compareOp .GtE (.int i t) (.int j u)) Q E s)
   | _=>simp [ltD] at hc
  | str x t =>
   cases rb with
   | str y u =>
    have hc:decide (x.cps.toList<y.cps.toList)=c:=by simpa [ltD] using hc
    subst hc
    exact ⟨λ prog w E Q hq=>(PyProof.Rows.lt_str hq:wpAny (model prog w) A (compareOp .Lt (.str x t) (.str y u)) Q E s),λ prog w E Q hq=>(PySem.P.ge_str hq:wpAny (model prog w) A (compareOp .GtE (.str x t) (.str y u)) Q E s)⟩
   | _=>simp [ltD] at hc
  | tuple h1 h2 h3 h4=>simp [PyData.depth] at hd
  | _=>simp [ltD] at hc
 | succ n ih =>
  intro da db c A s a b as bs hd ra rb la lb hc hu
  cases ra with
  | int i t =>
   cases rb with
   | int j u =>
    have hc:decide (i<j)=c:=by simpa [ltD] using hc
    subst hc
    refine ⟨λ prog w E Q hq=>(PyProof.Rows.lt_int hq:wpAny (model prog w) A (compareOp .Lt (.int i t) (.int j u)) Q E s),λ prog w E Q hq=>?_⟩
    have e:(!decide (i<j))=decide (j≤i):=by rw [← decide_not];exact decide_eq_decide.mpr (by omega)
    rw [e] at hq
    exact (PyProof.Rows.ge_int hq:wpAny (model prog w) A (compareOp .GtE (.int i t) (.int j u)) Q E s)
   | _=>simp [ltD] at hc
  | str x t =>
   cases rb with
   | str y u =>
    have hc:decide (x.cps.toList<y.cps.toList)=c:=by simpa [ltD] using hc
    subst hc
    exact ⟨λ prog w E Q hq=>(PyProof.Rows.lt_str hq:wpAny (model prog w) A (compareOp .Lt (.str x t) (.str y u)) Q E s),λ prog w E Q hq=>(PySem.P.ge_str hq:wpAny (model prog w) A (compareOp .GtE (.str x t) (.str y u)) Q E s)⟩
   | _=>simp [ltD] at hc
  | @tuple l o vs m xs as h1 h2 h3 h4 =>
   cases rb with
   | @tuple l2 o2 vs2 m2 ys bs g1 g2 g3 g4 =>
    have hc:ltDs xs ys=some c:=by simpa [ltD] using hc
    have z1:vs.size=xs.length:=by have:=SeqAt.ReadsAll.length _ _ _ h4;simpa using this
    have z2:vs2.size=ys.length:=by have:=SeqAt.ReadsAll.length _ _ _ g4;simpa using this
    have la':PyData.canLayAll0 xs=true:=la
    have lb':PyData.canLayAll0 ys=true:=lb
    have hd':PyData.depthAll xs≤n:=by have:PyData.depth (.tuple xs)=PyData.depthAll xs+1:=rfl;omega
    have at1:∀ j (h:j<vs.size),∃ d bs,xs[j]? = some d∧Reads s.heap vs[j] d bs∧d∈xs:=λ j h=>zod h4 (by simp [h])
    have at2:∀ j (h:j<vs2.size),∃ d bs,ys[j]? = some d∧Reads s.heap vs2[j] d bs∧d∈ys:=λ j h=>zod g4 (by simp [h])
    have he:∀ j (k1:j<vs.size) (k2:j<vs2.size),SeqAt.EqAt A.in1 s vs[j] vs2[j] (PyData.eqv ((xs[j]?).getD .none) ((ys[j]?).getD .none)):=λ j k1 k2=>by
     obtain ⟨d,b1,e1,r1,m1⟩:=at1 j k1
     obtain ⟨d2,b2,e2,r2,m2⟩:=at2 j k2
     rw [e1,e2]
     refine SeqAt.eqAt_reads d d2 A.in1 s _ _ b1 b2 r1 r2 (zbc m1 la') (zbc m2 lb') ?_
     have:=ztf m1
     have:min d.depth d2.depth≤d.depth:=Nat.min_le_left _ _
     show A.units+1+min d.depth d2.depth<cLine
     omega
    have hl:IsTup s.heap l vs:=⟨o,h1,h2,m,h3⟩
    have hr:IsTup s.heap l2 vs2:=⟨o2,g1,g2,m2,g3⟩
    have e0:∀ (j:Nat) x y,xs[j]? = some x→ys[j]? = some y→PyData.eqv ((xs[j]?).getD .none) ((ys[j]?).getD .none)=PyData.eqv x y:=λ j x y e1 e2=>by rw [e1,e2];rfl
    have lexlt:=zto (e:=λ j=>PyData.eqv ((xs[j]?).getD .none) ((ys[j]?).getD .none)) (r:=λ j=>(ltD ((xs[j]?).getD .none) ((ys[j]?).getD .none)).getD false) hc e0 (λ j x y c' e1 e2 _ _ e3=>by rw [e1,e2];simp only [Option.getD_some];rw [e3];rfl)
    have ans:∀ (xs ys:List PyData) (c:Bool),ltDs xs ys=some c→∀ (j:Nat) x y,xs[j]? = some x→ys[j]? = some y→(∀ i x y,i<j→xs[i]? = some x→ys[i]? = some y→PyData.eqv x y=true)→PyData.eqv x y=false→∃ c',ltD x y=some c':=by
     intro xs
     induction xs with
     | nil=>intro ys c _ j x y e1;simp at e1
     | cons x0 xs ih2 =>
      intro ys c h j x y e1 e2 hall hne
      cases ys with
      | nil=>simp at e2
      | cons y0 ys =>
       rw [ltDs] at h
       cases j with
       | zero =>
        simp at e1 e2
        subst e1 e2
        rw [if_neg (by rw [hne];exact Bool.false_ne_true)] at h
        exact ⟨c,h⟩
       | succ j =>
        rw [if_pos (hall 0 x0 y0 (Nat.succ_pos _) rfl rfl)] at h
        exact ih2 ys c h j x y (by simpa using e1) (by simpa using e2) (λ i a b hi h1 h2=>hall (i+1) a b (by omega) (by simpa using h1) (by simpa using h2)) hne
    have hu1:A.in1.units+n+2<cLine:=by show A.units+1+n+2<cLine;omega
    have cmp:∀ j (k1:j<vs.size) (k2:j<vs2.size),(∀ i,i<j→PyData.eqv ((xs[i]?).getD .none) ((ys[i]?).getD .none)=true)→PyData.eqv ((xs[j]?).getD .none) ((ys[j]?).getD .none)=false →
      zeq .Lt A.in1 s vs[j] vs2[j] ((ltD ((xs[j]?).getD .none) ((ys[j]?).getD .none)).getD false)∧zeq .GtE A.in1 s vs[j] vs2[j] (!(ltD ((xs[j]?).getD .none) ((ys[j]?).getD .none)).getD false):=λ j k1 k2 hall hne=>by
     obtain ⟨d,b1,e1,r1,m1⟩:=at1 j k1
     obtain ⟨d2,b2,e2,r2,m2⟩:=at2 j k2
     rw [e1,e2] at hne ⊢
     obtain ⟨c',hc'⟩:=ans xs ys c hc j d d2 e1 e2 (λ i x y hi h1 h2=>by have:=hall i hi;rw [h1,h2] at this;exact this) hne
     simp only [Option.getD_some]
     rw [hc']
     exact ih d d2 c' A.in1 s _ _ b1 b2 (Nat.le_trans (ztf m1) hd') r1 r2 (zbc m1 la') (zbc m2 lb') hc' hu1
    refine ⟨λ prog w E Q hq=>?_,λ prog w E Q hq=>?_⟩
    ·refine (zlo hl hr he (λ j k1 k2 h3 h4=>(cmp j k1 k2 h3 h4).1) (by omega) ?_:wpAny (model prog w) A (compareOp .Lt (.ref l) (.ref l2)) Q E s)
     rw [z1,z2,lexlt]
     exact hq
    ·refine (zvn hl hr he (λ j k1 k2 h3 h4=>(cmp j k1 k2 h3 h4).2) (by omega) ?_:wpAny (model prog w) A (compareOp .GtE (.ref l) (.ref l2)) Q E s)
     have e:decide (vs2.size≤vs.size) = !decide (vs.size<vs2.size):=by rw [← decide_not];exact decide_eq_decide.mpr (by omega)
     rw [e,zbm,z1,z2,lexlt]
     exact hq
   | _=>simp [ltD] at hc
  | _=>simp [ltD] at hc
section
variable {X:Cx}
end
end L2
namespace L2
open PySem
noncomputable abbrev ST:=SetTable
end L2
namespace L2
open PySem
end L2
namespace L2
open PySem PySem.Spec PyProof.Rows PySem.NumText
section
variable {prog:Program} {w:World}
end
end L2
namespace L2
open PySem PySem.Spec PyProof.Rows PySem.NumText
section
variable {prog:Program} {w:World}
end
end L2
namespace L2
open PySem PySem.Spec PyProof.Rows PySem.NumText
section
variable {prog:Program} {w:World} {A:Around} {E:Value→Shared→Prop} {s:Shared}
end
end L2
namespace L2
open PySem PySem.Spec PyProof.Rows PySem.NumText
section
variable {prog:Program} {w:World} {A:Around} {E:Value→Shared→Prop} {s:Shared}
end
end L2
namespace L2
open PySem PySem.Spec PyProof.Rows PySem.NumText
section
variable {prog:Program} {w:World} {A:Around} {R:Result→Shared→Prop} {I:Addr} {fp wr:List Addr} {G:Array GenState→Array GenState→Prop} {n:Nat} {P:Nat→Value→Prop} {St:Nat→Shared→Prop}
end
section
variable {prog:Program} {w:World} {A:Around} {E:Value→Shared→Prop} {s:Shared}
end
end L2
namespace L2
open PySem PySem.Spec PyProof.Rows PySem.NumText
section
variable {X:Cx}
end
end L2
namespace L2
open PySem PySem.Spec PyProof.Rows PySem.NumText
section
variable {prog:Program} {w:World}
end
end L2
namespace L2
open PySem PySem.Spec PyProof.Rows PySem.NumText
section
variable {X:Cx}
end
noncomputable abbrev Ext (h h':Heap):Prop:=∀ b o,h.get? b=some o→h'.get? b=some o
section
variable {prog:Program} {w:World} {A:Around} {R:Result→Shared→Prop} {I:Addr} {fp wr:List Addr} {n:Nat} {P:Nat→Value→Prop} {St:Nat→Heap→Prop} {h0:Heap} {kw:List (Str×Value)}
end
section
variable {X:Cx}
mutual
theorem zwn {h h':Heap} (e:Ext h h'):∀ {v:Value} {d:PyData} {as:List Addr},Reads h v d as→Reads h' v d as
 | _,_,_,.none=>.none
 | _,_,_,.bool b=>.bool b
 | _,_,_,.int i t=>.int i t
 | _,_,_,.str x t=>.str x t
 | _,_,_,.list a b c d=>.list (e _ _ a) b c (zkb e d)
 | _,_,_,.tuple a b c d=>.tuple (e _ _ a) b c (zkb e d)
 | _,_,_,.dict a b c d f=>.dict (e _ _ a) b c (zkb e d) (zkb e f)
theorem zkb {h h':Heap} (e:Ext h h'):∀ {vs:List Value} {ds:List PyData} {as:List Addr},ReadsAll h vs ds as→ReadsAll h' vs ds as
 | _,_,_,.nil=>.nil
 | _,_,_,.cons a b=>.cons (zwn e a) (zkb e b)
end
end
end L2
namespace L2
open PySem PySem.Spec PyProof.Rows
section
variable {X:Cx} {CX:CXT} {k:Nat} {f C D:Addr} {fd:FuncData} {ps:List Str} {sp:Sp} {dvs:List V} {ds:List Value} {EX:XK} {x m:Str} {p pos apos:Pos} {e o:Expr} {es:List Expr} {ta:TE} {t:TA} {σ₀:St}
noncomputable def zq2 (K:W.Frag) (i:Nat) (D:Addr) (tb:St→XK→TS) (th:TS):TS:=λ Dn σ H=>∃ E1:XK,tb σ E1 Dn σ H ∧
 ∀ (C y:Addr) (H1:Hp),E1 (.ref C) none H1→H1 y=none→XCls K C∧W.mroIn K C (.ref D)=some true ∧
  th { nx:=λ σ2 H2=>Dn.nx (σ2.set i none) H2,rt:=λ v H2=>Dn.rt v H2,bk:=λ σ2 H2=>Dn.bk (σ2.set i none) H2,ct:=λ σ2 H2=>Dn.ct (σ2.set i none) H2 } (σ.set i (some (.ref y))) (upd H1 y (excO y C))
theorem zht {i:Nat} {n dn:Str} {body:List Stmt} {tb:St→XK→TS} {b₀:Stmt} {suite:List Stmt} {th:TS} {p3 p4 pos:Pos} (nd:X.N.Nodup) (xd:XCls X.K D) (hg:Gl X dn) (hm:X.mg dn=some (.ref D)) (tp:X.Top)
  (hb:∀ σ₀ E' pn' E1,zll (CX1 X.prog X.w X.base) (X.tryC E' pn') σ₀ E1→PSs (X.tryC E' pn') body (tb σ₀ E1))
  (hh:∀ x,PSs (X.hand x) (b₀::suite) th) (hi:X.N[i]? = some n:=by rfl) (hn:X.env.scope.names.lookup n=some .local:=by rfl) (hdb:(dn == ("__debug__" : Str))=false:=by decide) :
  PS X (.Try body [.ExceptHandler (some (.Name dn p3)) (some n) (b₀::suite) p4] [] [] pos) (zq2 X.K i D tb th) := .mk <| by
 intro pins s σ H Dn I h
 obtain ⟨E1,hte,hth⟩:=h
 show wpAny (model X.prog X.w) X.A (do standAt pos;tryStmt false (execs body X.env) [.ExceptHandler (some (.Name dn p3)) (some n) (b₀::suite) p4] (execs [] X.env) [] X.env) (SP X pins Dn) X.xe s
 refine wpAny_bind (wpAny_standAt (wpAny_tryStmt_except ?_))
 generalize hE:(λ (e:Value) (s₁:Shared)=>wpAny (model X.prog X.w) X.A (noteFrame e X.env) (λ _ s₂=>wpAny (model X.prog X.w) X.A (setFlight e none) (λ _ s₃ =>
  wpAny (model X.prog X.w) X.A (handleBy e X.env [.ExceptHandler (some (.Name dn p3)) (some n) (b₀::suite) p4]) (SP X pins Dn) X.xe s₃) X.xe s₂) X.xe s₁)=E'
 have hx:zll (CX1 X.prog X.w X.base) (X.tryC E' pins) σ E1:=by
  rintro pins' H1 s1 _ s' J1 ⟨x,C,H',rfl,os,bare,un,hok,F,q⟩
  have J:Inv (X.tryC E' pins) [] σ H' s':=(J1.call' (ch:=[]) os un hok bare λ b z=>absurd z (by simp)).nopins
  have F':Fly (X.tryC E' pins).new H' x C s'.heap:=F.imp λ b hb=>zw1 J1 hb
  have tp':(X.tryC E' pins).Top:=⟨tp.top⟩
  show E' (.ref x) s'
  rw [← hE]
  refine zhi (X:=X.tryC E' pins) J tp' F' λ h1 I1 F1 t1=>?_
  refine zkd (X:=X.tryC E' pins) (A:=X.A) I1 F1 t1 λ h2 I2 F2 t2=>?_
  obtain ⟨xc,hmro,hsuite⟩:=hth C x H' q F2.free
  obtain ⟨oe,vs,a1,a2,a3,a4,_,_⟩:=id F2.ob
  refine wpAny_handleBy_cons (codeAny_handlers_test ?_) (by intro q;cases q)
  refine zig (X:=X.hand x) (I2.ofTry.toHand x) hg hm ?_ hdb
  refine zjo (I2.kIn) xd xc hmro a1 a2 ?_
  refine codeAny_handlers_suite_as ?_
  refine zkd (X:=X.tryC E' pins) (A:=X.A.mark (some (.ref x))) I2 F2 t2 λ h3 I3 F3 _=>?_
  obtain ⟨oe3,vs3,c1,c2,c3,c4,_,_⟩:=id F3.ob
  have I4:Inv (X.hand x) pins σ (upd H' x (excO x C)) { s' with heap:=h3 }:=(I3.ofTry.toHand x).track (λ o e=>F3.new.1 o e) (λ p hp=>F3.new.2 p hp) F3.free ⟨_,_,c1,c2,c3,c4⟩
  refine zof (X:=X.hand x) (v := .ref x) I4 nd hi (.inl hn) rfl (λ s5 I5=>?_) (.inr hn)
  refine wpAny_mono (hh x pins s5 _ _ _ I5 hsuite) (λ fl s6 q6=>?_) λ _ _ z=>z.elim
  show wpAny (model X.prog X.w) X.A (do bindName X.env n .none;unbindBehindTheSuite X.env n p4) (λ _ s₃=>SP X pins Dn fl s₃) X.xe s6
  have hcls:(X.env.scope.kind == .class || (X.env.scope.kind == .module && X.env.locals != X.env.globals))=false:=by rw [I.ok.kind];rfl
  have go:∀ {σ6:St} {H6:Hp} {R:Unit→Shared→Prop},Inv (X.hand x) pins σ6 H6 s6→(∀ s7,Inv X pins (σ6.set i none) H6 s7→R () s7)→wpAny (model X.prog X.w) X.A (do bindName X.env n .none;unbindBehindTheSuite X.env n p4) R X.xe s6:=fun {σ6 H6 R} I6 k=>by
   have I6':Inv X pins σ6 H6 s6:=I6.ofHand I.ok.hd
   obtain ⟨m,hm6,hl6⟩:=I6'.loc
   exact wpAny_nameGoes_keeps hn hm6 hcls λ h' v a b=>k _ (I6'.goes nd hi hm6 hl6 a b)
  cases fl with
  | next=>obtain ⟨σ6,H6,I6,r6⟩:=q6;exact go I6 λ s7 I7=>⟨_,H6,I7,r6⟩
  | brk=>obtain ⟨σ6,H6,I6,r6⟩:=q6;exact go I6 λ s7 I7=>⟨_,H6,I7,r6⟩
  | cont=>obtain ⟨σ6,H6,I6,r6⟩:=q6;exact go I6 λ s7 I7=>⟨_,H6,I7,r6⟩
  | ret u=>obtain ⟨v,σ6,H6,I6,rv,r6⟩:=q6;exact go I6 λ s7 I7=>⟨v,_,H6,I7,rv,r6⟩
 refine thn (hb σ E' pins E1 hx [] s σ H Dn (I.toTry E') hte) λ fl s1 q1=>?_
 cases fl with
 | next=>obtain ⟨σ1,H1,I1,r1⟩:=q1;exact wpAny_execs_nil ⟨σ1,H1,I1.ofTry,r1⟩
 | brk=>obtain ⟨σ1,H1,I1,r1⟩:=q1;exact ⟨σ1,H1,I1.ofTry,r1⟩
 | cont=>obtain ⟨σ1,H1,I1,r1⟩:=q1;exact ⟨σ1,H1,I1.ofTry,r1⟩
 | ret u=>obtain ⟨v,σ1,H1,I1,rv,r1⟩:=q1;exact ⟨v,σ1,H1,I1.ofTry,rv,r1⟩
end
end L2
namespace L2
open PySem PySem.Spec PyProof.Rows PySem.NumText
theorem zij (x:Str) (c:Nat):(Txt.partition x ⟨#[c]⟩=(x,Str.empty,Str.empty)∧c∉x.cps.toList) ∨ ((Txt.partition x ⟨#[c]⟩).2.1=⟨#[c]⟩∧c∉(Txt.partition x ⟨#[c]⟩).1.cps.toList):=by
 unfold Txt.partition
 rcases StrLaws.occ_head x ⟨#[c]⟩ 1 (Nat.le_refl _) with ⟨e,hn⟩ | ⟨i,r,e,ha,hn⟩
 ·rw [e]
  refine .inl ⟨rfl,?_⟩
  have:=StrLaws.part_free x c 0 x.length (Nat.le_refl _) λ k _ _=>hn k
  rwa [StrLaws.sub_whole] at this
 ·rw [e]
  refine .inr ⟨rfl,?_⟩
  exact StrLaws.part_free x c 0 i (by have:=ha.1;omega) λ k _ hk=>hn k hk
theorem zyl {c:Nat}:∀ {a b r s:List Nat},c∉a→c∉b→a++c::r=b++c::s→a=b∧r=s
 | [],[],_,_,_,_,h=>⟨rfl,(List.cons.inj h).2⟩
 | [],y::b,_,_,_,hb,h=>absurd (List.mem_cons.mpr (.inl (List.cons.inj h).1)) hb
 | x::a,[],_,_,ha,_,h=>absurd (List.mem_cons.mpr (.inl (List.cons.inj h).1.symm)) ha
 | x::a,y::b,r,s,ha,hb,h=>by
  have h:=List.cons.inj h
  obtain ⟨e1,e2⟩:=zyl (λ z=>ha (List.mem_cons_of_mem _ z)) (λ z=>hb (List.mem_cons_of_mem _ z)) h.2
  exact ⟨by rw [h.1,e1],e2⟩
theorem zgd (c:Nat) (p q:Str) (r:List Str):(Str.join ⟨#[c]⟩ (p::q::r)).cps.toList=p.cps.toList++c::(Str.join ⟨#[c]⟩ (q::r)).cps.toList:=by
 show ((p++(⟨#[c]⟩:Str))++Str.join ⟨#[c]⟩ (q::r)).cps.toList=_
 show ((p.cps ++ #[c])++(Str.join ⟨#[c]⟩ (q::r)).cps).toList=_
 simp
theorem zlc {c:Nat}:∀ (ps qs:List Str),ps≠[]→qs≠[]→(∀ p∈ps,c∉p.cps.toList)→(∀ p∈qs,c∉p.cps.toList)→Str.join ⟨#[c]⟩ ps=Str.join ⟨#[c]⟩ qs→ps=qs
 | [],_,h,_,_,_,_=>absurd rfl h
 | _::_,[],_,h,_,_,_=>absurd rfl h
 | [p],[q],_,_,_,_,h=>by
  have h:p=q:=h
  rw [h]
 | [p],q::q2::r,_,_,hp,_,h=>by
  have h:p=Str.join ⟨#[c]⟩ (q::q2::r):=h
  refine absurd ?_ (hp p List.mem_cons_self)
  rw [h,zgd]
  simp
 | p::p2::r,[q],_,_,_,hq,h=>by
  have h:Str.join ⟨#[c]⟩ (p::p2::r)=q:=h
  refine absurd ?_ (hq q List.mem_cons_self)
  rw [← h,zgd]
  simp
 | p::p2::r,q::q2::t,_,_,hp,hq,h=>by
  have h:(Str.join ⟨#[c]⟩ (p::p2::r)).cps.toList=(Str.join ⟨#[c]⟩ (q::q2::t)).cps.toList:=by rw [h]
  rw [zgd,zgd] at h
  obtain ⟨e1,e2⟩:=zyl (hp p List.mem_cons_self) (hq q List.mem_cons_self) h
  have e3:=zlc (p2::r) (q2::t) (by simp) (by simp) (λ z hz=>hp z (List.mem_cons_of_mem _ hz)) (λ z hz=>hq z (List.mem_cons_of_mem _ hz)) (ext_toList e2)
  rw [ext_toList e1,e3]
theorem zdc (x:Str) (c:Nat):Txt.split x ⟨#[c]⟩≠[]:=by
 intro h
 unfold Txt.split at h
 split at h
 ·cases h
 ·split at h
  ·cases h
  ·rw [StrLaws.partsBetween_eq] at h
   obtain ⟨p,q,e⟩:=StrLaws.partsFrom_ne x (⟨#[c]⟩:Str).length 0 (Builtin.Str.occurrences x ⟨#[c]⟩ 0 x.length (x.length+1))
   rw [e] at h
   cases h
theorem zqm {x:Str} {c:Nat} (h:c∉x.cps.toList):Txt.split x ⟨#[c]⟩=[x] :=
 zlc _ _ (zdc x c) (by simp) (StrLaws.split_free x c) (λ p hp=>by rw [List.mem_singleton.mp hp];exact h) (by rw [StrLaws.join_split];rfl)
theorem zce {a r:Str} {c:Nat} (h:c∉a.cps.toList):Txt.split (a++(⟨#[c]⟩:Str)++r) ⟨#[c]⟩=a::Txt.split r ⟨#[c]⟩:=by
 have hne:=zdc r c
 refine zlc _ _ (zdc _ c) (by simp) (StrLaws.split_free _ c) (λ p hp=>?_) ?_
 ·rcases List.mem_cons.mp hp with rfl | hp
  ·exact h
  ·exact StrLaws.split_free r c p hp
 ·rw [StrLaws.join_split]
  have e:Str.join ⟨#[c]⟩ (Txt.split r ⟨#[c]⟩)=r:=StrLaws.join_split r _
  cases hs:Txt.split r ⟨#[c]⟩ with
  | nil=>exact absurd hs hne
  | cons q t =>
   rw [hs] at e
   show _=(a++(⟨#[c]⟩:Str))++Str.join ⟨#[c]⟩ (q::t)
   rw [e]
theorem zfh (x:Str) (c:Nat):(Txt.partition x ⟨#[c]⟩=(x,Str.empty,Str.empty)∧Txt.split x ⟨#[c]⟩=[x]) ∨
  ∃ a r,Txt.partition x ⟨#[c]⟩=(a,⟨#[c]⟩,r)∧Txt.split x ⟨#[c]⟩=a::Txt.split r ⟨#[c]⟩∧x=a++(⟨#[c]⟩:Str)++r∧c∉a.cps.toList:=by
 rcases zij x c with ⟨e,h⟩ | ⟨e,h⟩
 ·exact .inl ⟨e,zqm h⟩
 ·have hs:=StrLaws.partition_sum x ⟨#[c]⟩
  rw [e] at hs
  refine .inr ⟨(Txt.partition x ⟨#[c]⟩).1,(Txt.partition x ⟨#[c]⟩).2.2,Prod.ext rfl (Prod.ext e rfl),?_,hs.symm,h⟩
  have:=zce (r:=(Txt.partition x ⟨#[c]⟩).2.2) h
  rwa [hs] at this
theorem zxm (sep:Str):∀ (ps:List Str) (p:Str) (n:Nat),p∈ps→n∈p.cps.toList→n∈(Str.join sep ps).cps.toList
 | [],_,_,h,_=>by cases h
 | [q],p,n,h,hn=>by rw [List.mem_singleton.mp h] at hn;exact hn
 | q::q2::r,p,n,h,hn=>by
  show n∈((q++sep)++Str.join sep (q2::r)).cps.toList
  show n∈((q.cps++sep.cps)++(Str.join sep (q2::r)).cps).toList
  simp only [Array.toList_append,List.mem_append]
  rcases List.mem_cons.mp h with rfl | h
  ·exact .inl (.inl hn)
  ·exact .inr (zxm sep (q2::r) p n h hn)
theorem zfo {x p:Str} {c n:Nat} (h:p∈Txt.split x ⟨#[c]⟩) (hn:n∈p.cps.toList):n∈x.cps.toList:=by
 have:=zxm ⟨#[c]⟩ _ p n h hn
 rwa [StrLaws.join_split] at this
section
variable {X:Cx}
noncomputable def zym:V→List V→Hp→VK→Prop:=λ x xs H Q=>∃ z y,x = .str z∧xs=[.str y]∧(y.length == 0)=false∧z.length≤10000∧∀ l,H l=none→Q (.ref l) (upd H l (.tup [.str (Txt.partition z y).1,.str (Txt.partition z y).2.1,.str (Txt.partition z y).2.2]))
theorem zsc:MtR X "str.partition" zym:=by
 intro pins s σ H x xs v us Q I rx rv h
 obtain ⟨z,y,rfl,rfl,hy,hz,q⟩:=h
 obtain ⟨t,rfl⟩:=rx
 obtain ⟨u,rfl,ru⟩:=rv.one
 obtain ⟨t',rfl⟩:=ru
 have hl:(10000:Nat)+2≤sizeLine:=by rw [sizeLine_eq];decide
 have fin:∀ (ta tb tc:Tok) (k:Nat),EP X pins σ Q (.ref s.heap.objs.size) { s with heap:=s.heap.push { cls := .type "tuple",data := .seq [.str (Txt.partition z y).1 ta,.str (Txt.partition z y).2.1 tb,.str (Txt.partition z y).2.2 tc].toArray },toks:=k }:=λ ta tb tc k =>
  ⟨.ref s.heap.objs.size,_,I.laid (t':=k) (o := .tup [.str (Txt.partition z y).1,.str (Txt.partition z y).2.1,.str (Txt.partition z y).2.2]) (λ b ob q=>Heap.get?_push_of_some _ q) (Nat.le_refl _) ⟨by show 3≤sizeLine;omega,_,.cons ⟨ta,rfl⟩ (.cons ⟨tb,rfl⟩ (.cons ⟨tc,rfl⟩ .nil)),⟨_,Heap.get?_push_size _ rfl,rfl,0,rfl⟩⟩,rfl,q _ (I.hok.fresh (Nat.le_refl _))⟩
 refine call_meets F.slot_str_partition (typeIs_str _ _ _) F.entry_str_partition (F.args_str_partition_2 _ _) (meets_str_partition z y t t' hy (by omega)) ?_
 unfold Txt.partition at fin
 revert fin
 cases Builtin.Str.occurrences z y 0 z.length 1 with
 | nil=>intro fin;exact fin _ _ _ _
 | cons i r=>intro fin;exact fin _ _ _ _
noncomputable def PJ (X:Cx) (es:List Expr) (t:Str→TE):Prop :=
 ∀ (out:Str) (pins:List (Addr×Obj)) (s:Shared) (σ:St) (H:Hp) (Q:VK),Inv X pins σ H s→t out σ H Q→wpAny (model X.prog X.w) X.A (joinParts out (evalEach es X.env)) (EP X pins σ Q) X.xe s
theorem zpv:PJ X [] (λ out _ H Q=>out.length≤sizeLine∧Q (.str out) H):=λ out pins s σ H Q I h=>joinParts_nil ⟨.str out,H,I.tok _,⟨_,rfl⟩,h.2⟩ h.1
theorem zxk {e:Expr} {es:List Expr} {te:TE} {t:Str→TE} {pos:Pos} (he:PE X e te) (hr:PJ X es t) :
  PJ X (.FormattedValue e (-1) none pos::es) (λ out σ H Q=>te σ H λ x H1=>∃ y,x = .str y∧y.length≤sizeLine∧(out++y).length≤sizeLine∧t (out++y) σ H1 Q):=by
 intro out pins s σ H Q I h
 refine joinParts_cons (FormattedValue_plain (thn (he pins s σ H _ I h) λ v s1 ⟨x,H1,I1,r1,y,e1,l0,l1,q1⟩=>?_))
 subst e1
 obtain ⟨tk,rfl⟩:=r1
 exact formatField_str (λ t' tk=>⟨l1,hr (out++y) pins _ σ H1 Q (I1.tok tk) q1⟩) l0
theorem zes {y:Str} {k:Nat} {es:List Expr} {t:Str→TE} {pos:Pos} (hr:PJ X es t) :
  PJ X (.Constant (.str y) k pos::es) (λ out σ H Q=>(out++y).length≤sizeLine∧t (out++y) σ H Q):=by
 intro out pins s σ H Q I h
 exact joinParts_cons (Calls.Constant_str ⟨h.1,hr (out++y) pins _ σ H Q (I.tok _) h.2⟩)
theorem zfq {v1 v2:Expr} {rest:List Expr} {t:Str→TE} {pos:Pos} (h:PJ X (v1::v2::rest) t):PE X (.JoinedStr (v1::v2::rest) pos) (t Str.empty) := .mk <| λ pins s σ H Q I q=>JoinedStr_many (h Str.empty pins s σ H Q I q)
end
end L2
namespace L2
open PySem PySem.Spec PyProof.Rows PySem.NumText
theorem ok_iff {z:Str}:PyData.strOk z=true ↔ ∀ n∈z.cps.toList,n<0x110000:=by
 unfold PyData.strOk
 rw [← Array.all_toList,List.all_eq_true]
 constructor
 ·intro h n hn;exact of_decide_eq_true (h n hn)
 ·intro h n hn;exact decide_eq_true (h n hn)
theorem zwa (a b:Str):(a++b).cps.toList=a.cps.toList++b.cps.toList:=by
 show (a.cps++b.cps).toList=_
 simp
theorem zml {a b:Str} (h1:PyData.strOk a=true) (h2:PyData.strOk b=true):PyData.strOk (a++b)=true:=by
 rw [ok_iff] at *
 intro n hn
 rw [zwa,List.mem_append] at hn
 exact hn.elim (h1 n) (h2 n)
theorem zrv {z p:Str} {c:Nat} (h:PyData.strOk z=true) (hp:p∈Txt.split z ⟨#[c]⟩):PyData.strOk p=true:=by
 rw [ok_iff] at *
 intro n hn
 exact h n (zfo hp hn)
theorem zuc (sep:Str):∀ (ps:List Str) (n:Nat),n∈(Str.join sep ps).cps.toList→n∈sep.cps.toList ∨ ∃ p∈ps,n∈p.cps.toList
 | [],n,h=>by simp [Str.join,Str.empty] at h
 | [q],n,h=>.inr ⟨q,List.mem_cons_self,h⟩
 | q::q2::r,n,h=>by
  have h:n∈((q++sep)++Str.join sep (q2::r)).cps.toList:=h
  rw [zwa,zwa,List.mem_append,List.mem_append] at h
  rcases h with (h | h) | h
  ·exact .inr ⟨q,List.mem_cons_self,h⟩
  ·exact .inl h
  ·rcases zuc sep (q2::r) n h with z | ⟨p,hp,z⟩
   ·exact .inl z
   ·exact .inr ⟨p,List.mem_cons_of_mem _ hp,z⟩
theorem zol {sep:Str} {ps:List Str} (h1:PyData.strOk sep=true) (h2:∀ p∈ps,PyData.strOk p=true):PyData.strOk (Txt.join sep ps)=true:=by
 show PyData.strOk (Builtin.Str.glued sep ps)=true
 rw [StrLaws.glued_eq_join,ok_iff]
 intro n hn
 rcases zuc _ _ n hn with z | ⟨p,hp,z⟩
 ·exact ok_iff.mp h1 n z
 ·exact ok_iff.mp (h2 p hp) n z
theorem zec (s:String):PyData.strOk (Str.ofString s)=true:=by
 rw [ok_iff]
 intro n hn
 rw [signs_ofString] at hn
 obtain ⟨c,_,rfl⟩:=List.mem_map.mp hn
 have:=c.valid
 unfold UInt32.isValidChar Nat.isValidChar at this
 show c.val.toNat<1114112
 omega
theorem zki (x:Str):Str.empty++x=x:=ext_toList (by rw [zwa];rfl)
theorem zvl (a b c:Str):(a++b)++c=a++(b++c):=ext_toList (by rw [zwa,zwa,zwa,zwa,List.append_assoc])
theorem znv (c:Nat) (t:Str):(!(Builtin.Str.occurrences t ⟨#[c]⟩ 0 t.length 1).isEmpty)=decide (c∈t.cps.toList):=by
 have hs:=StrLaws.partition_sum t ⟨#[c]⟩
 have h:=zij t c
 unfold Txt.partition at h hs
 cases e:Builtin.Str.occurrences t ⟨#[c]⟩ 0 t.length 1 with
 | nil =>
  rw [e] at h
  rcases h with ⟨_,h⟩ | ⟨h,_⟩
  ·rw [decide_eq_false h];rfl
  ·have:(0:Nat)=1:=congrArg Str.length h
   cases this
 | cons i r =>
  rw [e] at h hs
  rcases h with ⟨h,_⟩ | ⟨_,_⟩
  ·have:(1:Nat)=0:=congrArg (λ q:Str×Str×Str=>q.2.1.length) h
   cases this
  ·dsimp only at hs
   have:c∈t.cps.toList:=by rw [← hs,zwa,zwa];simp
   rw [decide_eq_true this];rfl
theorem zjf:∀ a b:List Str,PyData.eqvAll (a.map PyData.str) (b.map PyData.str)=decide (a=b)
 | [],[]=>rfl
 | [],_::_=>rfl
 | _::_,[]=>rfl
 | x::a,y::b=>by
  rw [List.map_cons,List.map_cons,PyData.eqvAll,zjf a b]
  have:PyData.eqv (.str x) (.str y)=(x == y):=rfl
  rw [this,Bool.eq_iff_iff]
  simp
theorem zlb {K:W.Frag} {H:Hp}:∀ ss:List Str,DVs K H (ss.map PyData.str) (ss.map V.str)
 | []=>rfl
 | s::ss=>⟨_,_,rfl,rfl,zlb ss⟩
theorem zpm:∀ {ss:List Str},(∀ s∈ss,PyData.strOk s=true)→PyData.canLayAll0 (ss.map PyData.str)=true
 | [],_=>rfl
 | s::ss,h=>by
  rw [List.map_cons,PyData.canLayAll0,zpm λ x hx=>h x (List.mem_cons_of_mem _ hx),Bool.and_true]
  exact h s List.mem_cons_self
theorem zch:∀ ss:List Str,PyData.depthAll (ss.map PyData.str)=0
 | []=>rfl
 | s::ss=>by
  rw [List.map_cons,PyData.depthAll,zch ss]
  rfl
theorem zhb {ss:List Str} (h:∀ s∈ss,PyData.strOk s=true):SeqAt.shaped (.list (ss.map PyData.str))=true:=by
 unfold SeqAt.shaped
 have h1:PyData.canLay0 (.list (ss.map PyData.str))=true:=zpm h
 rw [h1,Bool.true_and]
 have h2:PyData.depth (.list (ss.map PyData.str))=PyData.depthAll (ss.map PyData.str)+1:=rfl
 rw [h2,zch]
 decide
end L2
namespace L2
open PySem PySem.Spec PyProof.Rows PySem.NumText
structure STO {α:Type} (lt:α→α→Bool):Prop where
 irr:∀ a,lt a a=false
 tr:∀ a b c,lt a b=true→lt b c=true→lt a c=true
 tri:∀ a b,a≠b→lt a b=false→lt b a=true
theorem STO.asym {α:Type} {lt:α→α→Bool} (h:STO lt) {a b:α} (x:lt a b=true):lt b a=false:=by
 cases e:lt b a with
 | false=>rfl
 | true=>have:=h.tr a b a x e;rw [h.irr] at this;cases this
noncomputable abbrev Ver:=Int×List Stp×Str
noncomputable def ver (v:Ver):PyData := .tuple [.int v.1,plc v.2.1,.str v.2.2]
noncomputable def vdat:Option Ver→PyData
 | none=>.none
 | some v=>ver v
noncomputable def okV (v:Ver):Prop:=PySem.PyData.strOk v.2.2=true
theorem zos {K:W.Frag} {H:Hp} {v:Ver} {x:V} (h:DV K H (ver v) x):∃ t pv,x = .ref t∧SqT K H t [.int v.1,pv,.str v.2.2]∧DV K H (plc v.2.1) pv:=by
 obtain ⟨t,vs,rfl,hq,a,r,rfl,ha,b,r2,rfl,hb,c,r3,rfl,hc,h4⟩:=h
 cases (show a=V.int v.1 from ha)
 cases (show c=V.str v.2.2 from hc)
 cases (show r3=[] from h4)
 exact ⟨t,b,rfl,hq,hb⟩
theorem zzn {K:W.Frag} {H:Hp} {v:Ver} {t:Addr} {pv:V} (h:SqT K H t [.int v.1,pv,.str v.2.2]) (hp:DV K H (plc v.2.1) pv):DV K H (ver v) (.ref t):=⟨t,_,rfl,h,_,_,rfl,rfl,_,_,rfl,hp,_,_,rfl,rfl,rfl⟩
theorem zus (o:Option Ver):noL (vdat o)=true:=by
 cases o with
 | none=>rfl
 | some v =>
  show (noL (.int v.1) && (noL (plc v.2.1) && (noL (.str v.2.2) && true)))=true
  rw [zaw]
  rfl
end L2
namespace L2
open PySem PySem.Spec PyProof.Rows PySem.NumText PySem.W
section
variable {n:Nat} {s:Shared} {cmp:Nat→Nat→(Bool→Shared→Prop)→Shared→Prop} {lt:Nat→Nat→Bool}
noncomputable def Asks (n:Nat) (s:Shared) (cmp:Nat→Nat→(Bool→Shared→Prop)→Shared→Prop) (lt:Nat→Nat→Bool):Prop:=∀ i j C,i<n→j<n→C (lt i j) s→cmp i j C s
structure Ord (n:Nat) (lt:Nat→Nat→Bool):Prop where
 tr:∀ a b c,a<n→b<n→c<n→lt a b=true→lt b c=true→lt a c=true
 tri:∀ a b,a<n→b<n→a≠b→lt a b=false→lt b a=true
 asy:∀ a b,a<n→b<n→lt a b=true→lt b a=false
structure Pm (n:Nat) (p:Array Nat):Prop where
 pm:p.toList.Perm (List.range n)
noncomputable abbrev at_ (p:Array Nat) (k:Nat):Nat:=p.getD k 0
theorem Pm.size {p:Array Nat} (h:Pm n p):p.size=n:=by have:=h.pm.length_eq;simpa using this
theorem zow {p:Array Nat} {k:Nat} (h:k<p.size):at_ p k=p[k]:=by simp [at_,Array.getD,h]
theorem Pm.inb {p:Array Nat} (h:Pm n p) {k:Nat} (hk:k<n):at_ p k<n:=by
 have hs:=h.size
 rw [zow (by omega)]
 have:p[k]'(by omega)∈p.toList:=by simp
 have:=h.pm.mem_iff.mp this
 simpa using this
theorem Pm.inj {p:Array Nat} (h:Pm n p) {i j:Nat} (hi:i<n) (hj:j<n) (e:at_ p i=at_ p j):i=j:=by
 have hs:=h.size
 rw [zow (by omega),zow (by omega)] at e
 have nd:p.toList.Nodup:=h.pm.nodup_iff.mpr List.nodup_range
 have pw:=List.pairwise_iff_getElem.mp nd
 rcases Nat.lt_trichotomy i j with z | z | z
 ·exact absurd e (pw i j (by simp;omega) (by simp;omega) z)
 ·exact z
 ·exact absurd e.symm (pw j i (by simp;omega) (by simp;omega) z)
noncomputable def Up (lt:Nat→Nat→Bool) (p:Array Nat) (m:Nat):Prop:=∀ i j,i<j→j<m→lt (at_ p i) (at_ p j)=true
theorem zdn {p:Array Nat} {m:Nat} (O:Ord n lt) (h:Pm n p) (hm:m≤n) (c:∀ k,1≤k→k<m→lt (at_ p (k - 1)) (at_ p k)=true):Up lt p m:=by
 intro i j hij hj
 induction j with
 | zero=>omega
 | succ j ih =>
  have h1:=c (j+1) (by omega) hj
  rw [Nat.add_sub_cancel] at h1
  by_cases e:i=j
  ·rw [e];exact h1
  ·exact O.tr _ _ _ (h.inb (by omega)) (h.inb (by omega)) (h.inb (by omega)) (ih (by omega) (by omega)) h1
theorem zzr (hc:Asks n s cmp lt) {p:Array Nat} (h:Pm n p):∀ (f m:Nat) {Q:Nat→Shared→Prop},1≤m→m+f≤n →
  (∀ r,m≤r→r≤m+f→(∀ k,m≤k→k<r→lt (at_ p k) (at_ p (k - 1))=false)→(r<m+f→lt (at_ p r) (at_ p (r - 1))=true)→Q r s)→(kas_asc p f m).kasWp cmp Q s
 | 0,m,Q,h1,hm,q=>q m (Nat.le_refl _) (Nat.le_refl _) (λ k a b=>by omega) (λ a=>by omega)
 | f+1,m,Q,h1,hm,q=>by
  refine hc _ _ _ (h.inb (by omega)) (h.inb (by omega)) ?_
  cases e:lt (at_ p m) (at_ p (m - 1)) with
  | true=>exact q m (Nat.le_refl _) (by omega) (λ k a b=>by omega) (λ _=>e)
  | false =>
   refine zzr hc h f (m+1) (by omega) (by omega) λ r a b c d=>q r (by omega) (by omega) (λ k k1 k2=>?_) (λ z=>d (by omega))
   by_cases ek:k=m
   ·rw [ek];exact e
   ·exact c k (by omega) k2
theorem zqq (O:Ord n lt) (hc:Asks n s cmp lt) {p:Array Nat} (h:Pm n p):∀ (f m:Nat) {Q:Array Nat×Nat×Nat→Shared→Prop},1≤m→m+f≤n →
  (∀ r,m≤r→r≤m+f→(∀ k,m≤k→k<r→lt (at_ p k) (at_ p (k - 1))=true)→Q (p,r,0) s)→(kas_desc f p m 0).kasWp cmp Q s
 | 0,m,Q,h1,hm,q=>q m (Nat.le_refl _) (Nat.le_refl _) (λ k a b=>by omega)
 | f+1,m,Q,h1,hm,q=>by
  refine hc _ _ _ (h.inb (by omega)) (h.inb (by omega)) ?_
  cases e:lt (at_ p m) (at_ p (m - 1)) with
  | true =>
   show (kas_desc f p (m+1) 0).kasWp cmp Q s
   refine zqq O hc h f (m+1) (by omega) (by omega) λ r a b c=>q r (by omega) (by omega) (λ k k1 k2=>?_)
   by_cases ek:k=m
   ·rw [ek];exact e
   ·exact c k (by omega) k2
  | false =>
   refine hc _ _ _ (h.inb (by omega)) (h.inb (by omega)) ?_
   have:=O.tri _ _ (h.inb (k:=m) (by omega)) (h.inb (k:=m - 1) (by omega)) (λ z=>by have:=h.inj (by omega) (by omega) z;omega) e
   rw [show lt (p.getD (m - 1) 0) (p.getD m 0)=true from this]
   exact q m (Nat.le_refl _) (by omega) (λ k a b=>by omega)
theorem zxg {p q:Array Nat} (h:Pm n p) (e:q.Perm p):Pm n q:=⟨(Array.perm_iff_toList_perm.mp e).trans h.pm⟩
theorem zyu {p:Array Nat} (h:Pm n p) {m:Nat} (hm:m≤n) {k:Nat} (hk:k<n):at_ (kas_rev p 0 m) k=if k<m then at_ p (m - 1 - k) else at_ p k:=by
 have hs:=h.size
 have:=getElem?_mirror_all (xs:=p) (i:=0) (j:=m) (by omega) k
 unfold at_
 rw [Array.getD_eq_getD_getElem?,kas_rev,this]
 by_cases hkm:k<m
 ·rw [if_pos hkm,if_pos ⟨by omega,hkm⟩,Array.getD_eq_getD_getElem?,show 0+m - 1 - k=m - 1 - k by omega]
 ·rw [if_neg hkm,if_neg (by omega),Array.getD_eq_getD_getElem?]
theorem zkr (O:Ord n lt) (hc:Asks n s cmp lt) {p:Array Nat} (h:Pm n p) {m:Nat} {Q:Nat×Array Nat→Shared→Prop} (h1:1≤m) (hm:m≤n) (hd:∀ k,1≤k→k<m→lt (at_ p k) (at_ p (k - 1))=true)
  (q:∀ r p',1≤r→r≤n→Pm n p'→Up lt p' r→Q (r,p') s):(kas_tail3 m n p).kasWp cmp Q s:=by
 have hp':Pm n (kas_rev p 0 m):=zxg h (mirror_perm _ _ _ _)
 unfold kas_tail3
 rw [KasT.kasWp_bind]
 refine zzr hc hp' (n - m) m h1 (by omega) λ r a b c _=>q r _ (by omega) (by omega) hp' (zdn O hp' (by omega) λ k k1 k2=>?_)
 by_cases hk:k<m
 ·rw [zyu h hm (by omega),zyu h hm (by omega),if_pos (by omega),if_pos hk]
  have:=hd (m - 1 - (k - 1)) (by omega) (by omega)
  rw [show m - 1 - (k - 1) - 1=m - 1 - k by omega] at this
  exact this
 ·exact O.tri _ _ (hp'.inb (by omega)) (hp'.inb (by omega)) (λ z=>by have:=hp'.inj (by omega) (by omega) z;omega) (c k (by omega) k2)
theorem zak (O:Ord n lt) (hc:Asks n s cmp lt) {p:Array Nat} (h:Pm n p) {Q:Nat×Array Nat→Shared→Prop} (h2:2≤n) (hd:lt (at_ p 1) (at_ p 0)=true)
  (q:∀ r p',1≤r→r≤n→Pm n p'→Up lt p' r→Q (r,p') s):(kas_descPart 1 n p).kasWp cmp Q s:=by
 unfold kas_descPart
 rw [KasT.kasWp_bind]
 refine zqq O hc h (n - 2) 2 (by omega) (by omega) λ r a b c=>?_
 show (kas_tail3 r n p).kasWp cmp Q s
 refine zkr O hc h (by omega) (by omega) (λ k k1 k2=>?_) q
 by_cases e:k=1
 ·rw [e];exact hd
 ·exact c k (by omega) k2
theorem zcs (O:Ord n lt) (hc:Asks n s cmp lt) {p:Array Nat} (h:Pm n p) {Q:Nat×Array Nat→Shared→Prop} (h2:2≤n)
  (q:∀ r p',1≤r→r≤n→Pm n p'→Up lt p' r→Q (r,p') s):(kas_count n p).kasWp cmp Q s:=by
 unfold kas_count
 rw [KasT.kasWp_bind]
 refine zzr hc h (n - 1) 1 (by omega) (by omega) λ r a b c d=>?_
 have up:Up lt p r:=zdn O h (by omega) λ k k1 k2=>O.tri _ _ (h.inb (by omega)) (h.inb (by omega)) (λ z=>by have:=h.inj (by omega) (by omega) z;omega) (c k k1 k2)
 by_cases e:r=n
 ·rw [if_pos (by simp [e])]
  exact q r p (by omega) (by omega) h up
 ·rw [if_neg (by simp [e])]
  by_cases e1:r > 1
  ·rw [if_pos e1]
   refine hc _ _ _ (h.inb (by omega)) (h.inb (by omega)) ?_
   have:=up 0 (r - 1) (by omega) (by omega)
   rw [show lt (p.getD 0 0) (p.getD (r - 1) 0)=true from this]
   exact q r p (by omega) (by omega) h up
  ·rw [if_neg e1]
   obtain rfl:r=1:=by omega
   exact zak O hc h h2 (d (by omega)) q
theorem zei (O:Ord n lt) (hc:Asks n s cmp lt) {p:Array Nat} (h:Pm n p) {k:Nat} (hk:k<n) (up:Up lt p k):∀ (f l r:Nat) {Q:Nat→Shared→Prop},l≤r→r≤k→r - l≤f →
  (∀ i,i<l→lt (at_ p k) (at_ p i)=false)→(∀ i,r≤i→i<k→lt (at_ p k) (at_ p i)=true) →
  (∀ l',l'≤k→(∀ i,i<l'→lt (at_ p k) (at_ p i)=false)→(∀ i,l'≤i→i<k→lt (at_ p k) (at_ p i)=true)→Q l' s)→(kas_place p k f l r).kasWp cmp Q s
 | 0,l,r,Q,h1,h2,h3,a,b,q=>q l (by omega) a λ i i1 i2=>b i (by omega) i2
 | f+1,l,r,Q,h1,h2,h3,a,b,q=>by
  unfold kas_place
  by_cases e:l ≥ r
  ·rw [if_pos e]
   exact q l (by omega) a λ i i1 i2=>b i (by omega) i2
  ·rw [if_neg e]
   refine hc _ _ _ (h.inb hk) (h.inb (by omega)) ?_
   cases e2:lt (p.getD k 0) (p.getD ((l+r) / 2) 0) with
   | true =>
    refine zei O hc h hk up f l ((l+r) / 2) (by omega) (by omega) (by omega) a (λ i i1 i2=>?_) q
    by_cases ei:i=(l+r) / 2
    ·rw [ei];exact e2
    ·exact O.tr _ _ _ (h.inb hk) (h.inb (by omega)) (h.inb (by omega)) e2 (up _ _ (by omega) i2)
   | false =>
    refine zei O hc h hk up f ((l+r) / 2+1) r (by omega) h2 (by omega) (λ i i1=>?_) b q
    have hm:=O.tri _ _ (h.inb hk) (h.inb (k:=(l+r) / 2) (by omega)) (λ z=>by have:=h.inj hk (by omega) z;omega) e2
    by_cases ei:i=(l+r) / 2
    ·rw [ei];exact e2
    ·exact O.asy _ _ (h.inb (by omega)) (h.inb hk) (O.tr _ _ _ (h.inb (by omega)) (h.inb (k:=(l+r) / 2) (by omega)) (h.inb hk) (up i _ (by omega) (by omega)) hm)
theorem zfw {p:Array Nat} (h:Pm n p) {k l:Nat} (hk:k<n) (hl:l≤k) {i:Nat} (hi:i<n):at_ (bubble p k (k - l)) i=if i<l then at_ p i else if i=l then at_ p k else if i≤k then at_ p (i - 1) else at_ p i:=by
 have hs:=h.size
 have:=getElem?_bubble (xs:=p) (src:=k) (by omega) (k - l) (by omega) i
 unfold at_
 simp only [Array.getD_eq_getD_getElem?]
 rw [this]
 rw [show k - (k - l)=l by omega]
 by_cases e1:i<l
 ·rw [if_pos e1,if_neg (by omega),if_neg (by omega)]
 ·rw [if_neg e1]
  by_cases e2:i=l
  ·rw [if_pos e2,if_pos e2]
  ·rw [if_neg e2,if_neg e2]
   by_cases e3:i≤k
   ·rw [if_pos e3,if_pos ⟨by omega,e3⟩]
   ·rw [if_neg e3,if_neg (by omega)]
theorem zzu (O:Ord n lt) (hc:Asks n s cmp lt):∀ (f:Nat) (p:Array Nat) (k:Nat) {Q:Array Nat→Shared→Prop},Pm n p→k+f=n→Up lt p k→(∀ p',Pm n p'→Up lt p' n→Q p' s)→(kas_bin f p k).kasWp cmp Q s
 | 0,p,k,Q,h,hk,up,q=>by
  obtain rfl:k=n:=by omega
  exact q p h up
 | f+1,p,k,Q,h,hk,up,q=>by
  unfold kas_bin
  rw [KasT.kasWp_bind]
  have hkn:k<n:=by omega
  refine zei O hc h hkn up k 0 k (by omega) (Nat.le_refl _) (by omega) (λ i z=>by omega) (λ i z z2=>by omega) λ l hl a b=>?_
  have hp':Pm n (bubble p k (k - l)):=zxg h (bubble_perm _ _ _)
  refine zzu O hc f _ (k+1) hp' (by omega) (λ i j hij hj=>?_) q
  rw [zfw h hkn hl (by omega),zfw h hkn hl (by omega)]
  have lo:∀ i,i<l→lt (at_ p i) (at_ p k)=true:=λ i hi=>O.tri _ _ (h.inb hkn) (h.inb (by omega)) (λ z=>by have:=h.inj hkn (by omega) z;omega) (a i hi)
  by_cases i1:i<l
  ·rw [if_pos i1]
   by_cases j1:j<l
   ·rw [if_pos j1];exact up i j hij (by omega)
   ·rw [if_neg j1]
    by_cases j2:j=l
    ·rw [if_pos j2];exact lo i i1
    ·rw [if_neg j2,if_pos (by omega)];exact up i (j - 1) (by omega) (by omega)
  ·rw [if_neg i1,if_neg (show ¬ j<l by omega),if_neg (show ¬ j=l by omega),if_pos (show j≤k by omega)]
   by_cases i2:i=l
   ·rw [if_pos i2];exact b (j - 1) (by omega) (by omega)
   ·rw [if_neg i2,if_pos (by omega)];exact up (i - 1) (j - 1) (by omega) (by omega)
theorem zwk:Pm n (List.range n).toArray:=⟨by simp⟩
theorem ztu (O:Ord n lt) (hc:Asks n s cmp lt) (h2:2≤n) {Q:Array Nat→Shared→Prop} (q:∀ p',Pm n p'→Up lt p' n→Q p' s):(kas_sort n).kasWp cmp Q s:=by
 unfold kas_sort
 rw [KasT.kasWp_bind]
 refine zcs O hc zwk h2 λ r p' a b hp up=>?_
 by_cases e:r<n
 ·show (if r<n then kas_bin (n - max r 1) p' (max r 1) else .ret p':KasT _).kasWp cmp Q s
  rw [if_pos e,show max r 1=r by omega]
  exact zzu O hc _ p' r hp (by omega) up q
 ·show (if r<n then kas_bin (n - max r 1) p' (max r 1) else .ret p':KasT _).kasWp cmp Q s
  rw [if_neg e]
  obtain rfl:r=n:=by omega
  exact q p' hp up
end
end L2
namespace L2
open PySem PySem.Spec PyProof.Rows PySem.NumText PySem.W
section
variable {prog:Program} {w:World} {A:Around} {E:Value→Shared→Prop} {s:Shared} {a:Addr} {vs:List Value} {lt:Nat→Nat→Bool}
noncomputable abbrev zzj (vs:List Value) (p:Array Nat):List Value:=p.toList.map λ i=>vs.getD i .none
theorem zon (vs:List Value):zzj vs (List.range vs.length).toArray=vs:=by
 unfold zzj
 refine List.ext_getElem (by simp) λ i h1 h2=>?_
 simp only [List.getElem_map,List.getElem_range]
 simp [h2]
theorem zlm {c:Nat} {P:PySem.Fin→Shared→Prop} (ho:s.heap.get? a=some (seqObj "list" vs.toArray c)) (few:vs.length<64) (O:Ord vs.length lt)
  (hk:2≤vs.length→∀ h',(∀ b o,b≠a→s.heap.get? b=some o→h'.get? b=some o)→∃ κ,(∀ (R:SortKind→Shared→Prop) (E':Value→Shared→Prop),R κ { s with heap:=h' }→wpAny (model prog w) A (keyKind' vs.toArray) R E' { s with heap:=h' })∧Asks vs.length { s with heap:=h' } (kas_ask prog w A κ vs) lt)
  (h:∀ (p:Array Nat) (h':Heap) (c':Nat),Pm vs.length p→Up lt p vs.length→h'.get? a=some (seqObj "list" (zzj vs p).toArray c')→(∀ b o,b≠a→s.heap.get? b=some o→h'.get? b=some o)→P (.done (.ret .none)) { s with heap:=h' }) :
  wpAny (model prog w) A (Builtin.«list.sort» ⟨[.ref a],[]⟩) P E s:=by
 have la:a<s.heap.objs.size:=Heap.lt_size ho
 have line:vs.length≤sizeLine:=by rw [sizeLine_eq];omega
 obtain ⟨e1,ho1⟩:∃ e1,(s.heap.update a (Obj.mapSeq λ _=>(#[]:Array Value))).get? a=some (seqObj "list" #[] e1):=⟨_,get?_update_seq ho λ _ => #[]⟩
 generalize hh:((s.heap.update a (Obj.mapSeq λ _=>(#[]:Array Value))).push (seqObj "tuple" vs.toArray 0)).push (seqObj "list" #[] 0)=h3
 have keep3:∀ b o,b≠a→s.heap.get? b=some o→h3.get? b=some o:=λ b o nb q=>by
  rw [← hh]
  refine Heap.get?_push_of_some _ (Heap.get?_push_of_some _ ?_)
  rw [Heap.get?_update_other _ _ (Ne.symm nb)]
  exact q
 have at3:h3.get? a=some (seqObj "list" #[] e1):=by rw [← hh];exact Heap.get?_push_of_some _ (Heap.get?_push_of_some _ ho1)
 have fin:∀ (p:Array Nat),Pm vs.length p→Up lt p vs.length→P (.done (.ret .none)) { s with heap:=h3.update a (Obj.mapSeq λ _=>(zzj vs p).toArray) }:=λ p hp up=>by
  obtain ⟨c2,hc2⟩:∃ c2,(h3.update a (Obj.mapSeq λ _=>(zzj vs p).toArray)).get? a=some (seqObj "list" (zzj vs p).toArray c2):=⟨_,get?_update_seq at3 λ _=>(zzj vs p).toArray⟩
  refine h p _ c2 hp up hc2 λ b o nb q=>?_
  rw [Heap.get?_update_other _ _ (Ne.symm nb)]
  exact keep3 b o nb q
 rw [list_sort_plain]
 refine wpAny_bind (listItems_at ho rfl (wpAny_bind (listUpdate_at ho rfl ?_ (by rw [List.size_toArray];exact line) (Nat.zero_le _))))
 refine wpAny_bind (seqEpoch_at ho1 rfl (wpAny_bind (wpAny_newTuple (wpAny_bind (wpAny_newList (wpAny_holding ?_) (Nat.zero_le _))) line)))
 show wpAny (model prog w) A _ P E { s with heap:=((s.heap.update a (Obj.mapSeq λ _=>(#[]:Array Value))).push (seqObj "tuple" vs.toArray 0)).push (seqObj "list" #[] 0) }
 rw [hh]
 dsimp only
 by_cases few2:vs.toArray.size<2
 ·rw [if_pos few2,if_pos few2]
  refine wpAny_bind (wpAny_pure ?_)
  rw [StateT.run_pure]
  refine wpAny_bind (wpAny_pure ?_)
  dsimp only
  have hsz:vs.length<2:=by simpa using few2
  have e:(arrOf (SortSt.mk' general' (vs.toArray.zip vs.toArray) #[] 7 none)).map (·.2)=(zzj vs (List.range vs.length).toArray).toArray:=by
   rw [zon]
   show (vs.toArray.zip vs.toArray).map (·.2)=vs.toArray
   refine Array.ext (by simp) λ i h1 h2=>?_
   simp
  refine wpAny_bind (seqEpoch_at at3 rfl (wpAny_bind (listUpdate_at at3 rfl ?_ (Nat.zero_le _) ?_)))
  ·simp only [bne_self_eq_false,Bool.false_eq_true,if_false]
   refine wpAny_pure ?_
   rw [e]
   exact fin _ zwk λ i j hij hj=>by omega
  ·rw [e]
   simp only [zzj,List.size_toArray,List.length_map,List.length_range]
   omega
 ·rw [if_neg few2,if_neg few2]
  have two:2≤vs.length:=by
   have:¬ vs.length<2:=by simpa using few2
   omega
  obtain ⟨κ,kind,asks⟩:=hk two h3 keep3
  refine wpAny_bind (kind _ _ ?_)
  refine wpAny_bind (wpAny_mono (kat_run (Q:=λ st' s'=>s'={ s with heap:=h3 }∧∃ p:Array Nat,Pm vs.length p∧Up lt p vs.length∧arrOf st'=p.map (kas_item (vs.toArray.zip vs.toArray))∧failedOf st'=none)
   (G:=λ p s'=>s'={ s with heap:=h3 }∧Pm vs.length p∧Up lt p vs.length) rfl two few (λ p' st' s' _ a2 a3 a4=>⟨a4.1,p',a4.2.1,a4.2.2,a2,a3⟩) (ztu O asks two λ p' hp up=>⟨rfl,hp,up⟩)) ?_ λ _ _ e=>e)
  rintro ⟨⟨⟩,st'⟩ s' ⟨rfl,p,hp,up,har,hf⟩
  have e:=kat_snds rfl har
  dsimp only
  rw [e]
  refine wpAny_bind (seqEpoch_at at3 rfl (wpAny_bind (listUpdate_at at3 rfl ?_ (Nat.zero_le _) ?_)))
  ·rw [hf]
   simp only [bne_self_eq_false,Bool.false_eq_true,if_false]
   exact wpAny_pure (fin p hp up)
  ·rw [List.size_toArray,List.length_map,Array.length_toList,hp.size]
   omega
noncomputable def zcr (prog:Program) (w:World) (A:Around) (vs:List Value) (s:Shared) (Q:Value→Shared→Prop):Prop:=∃ lt,vs.length<64∧Ord vs.length lt ∧
 (2≤vs.length→∀ h',(∀ b o,s.heap.get? b=some o→h'.get? b=some o)→∃ κ,(∀ (R:SortKind→Shared→Prop) (E':Value→Shared→Prop),R κ { s with heap:=h' }→wpAny (model prog w) A.in1.in1 (keyKind' vs.toArray) R E' { s with heap:=h' })∧Asks vs.length { s with heap:=h' } (kas_ask prog w A.in1.in1 κ vs) lt) ∧
 ∀ (p:Array Nat) (h':Heap) (l c:Nat),Pm vs.length p→Up lt p vs.length→s.heap.objs.size≤l→h'.get? l=some (seqObj "list" (zzj vs p).toArray c)→(∀ b o,s.heap.get? b=some o→h'.get? b=some o)→Q (.ref l) { s with heap:=h' }
theorem zxh {x:Value} {Q:Value→Shared→Prop} (hc:wpAny (model prog w) A.in1 (collect x) (λ us s1=>zcr prog w A us s1 Q) E s) :
  wpAny (model prog w) A (call (.builtin "sorted") [x]) Q E s:=by
 refine Calls.call_function_entry kind_sorted plain_sorted entry_sorted (args_sorted1 _) ?_
 unfold Builtin.«sorted»
 refine wpAny_bind (m:=checkCount "sorted" 1 1 _) (wpAny_pure (wpAny_bind (wpAny_mono hc (λ us s1 hg=>?_) λ _ _ e=>e)))
 obtain ⟨lt,few,O,hk,h⟩:=hg
 have line:us.length≤sizeLine:=by rw [sizeLine_eq];omega
 refine wpAny_bind (wpAny_newList ?_ line)
 have at2:(s1.heap.push (seqObj "list" us.toArray 0)).get? s1.heap.objs.size=some (seqObj "list" us.toArray 0):=Heap.get?_push_size _ rfl
 have old:∀ b o,s1.heap.get? b=some o→b≠s1.heap.objs.size:=λ b o q=>Nat.ne_of_lt (Heap.lt_size q)
 refine wpAny_bind (wpAny_holding (wpAny_call_entry slot_list_sort ⟨_,at2,rfl⟩ entry_list_sort (zlm at2 few O (λ two h' kp=>hk two h' λ b o q=>kp b o (old b o q) (Heap.get?_push_of_some _ q)) λ p h' c hp up hl kp=>⟨_,rfl,?_⟩) (args_list_sort _)))
 exact wpAny_pure ⟨_,rfl,h p h' _ c hp up (Nat.le_refl _) hl λ b o q=>kp b o (old b o q) (Heap.get?_push_of_some _ q)⟩
end
end L2
namespace L2
open PySem PySem.Spec PyProof.Rows PySem.NumText PySem.W
section
variable {prog:Program} {w:World} {A:Around} {E:Value→Shared→Prop} {s:Shared}
theorem zye (hu:A.units+70<cLine) {b fin:Bool} {Q:Bool→Shared→Prop}:∀ (ds es:List PyData) (us ws:List Value) (as bs:List Addr) (i:Nat) (c:Bool),ReadsAll s.heap us ds as→ReadsAll s.heap ws es bs →
  PyData.canLayAll0 ds=true→PyData.canLayAll0 es=true→PyData.depthAll ds≤64→(b=true→i=0→∀ d e r t,ds=d::r→es=e::t→∃ m n,d = .int m∧e = .int n) →
  fin=decide (us.length<ws.length)→ltDs ds es=some c→Q c s→KatLex prog w A b fin Q (us.zip ws) i s
 | [],[],_,_,_,_,i,c,.nil,.nil,_,_,_,_,hf,hc,hq=>by
  cases hc
  subst hf
  exact kat_nil hq
 | [],e::es,_,_,_,_,i,c,.nil,.cons r rr,_,_,_,_,hf,hc,hq=>by
  cases hc
  subst hf
  refine kat_nil ?_
  simpa using hq
 | d::ds,[],_,_,_,_,i,c,.cons r rr,.nil,_,_,_,_,hf,hc,hq=>by
  cases hc
  subst hf
  rw [List.zip_nil_right]
  refine kat_nil ?_
  simpa using hq
 | d::ds,e::es,_,_,_,_,i,c,.cons (v:=u) (vs:=us) r rr,.cons (v:=x) (vs:=ws) q qq,la,lb,hd,hi,hf,hc,hq=>by
  rw [PyData.canLayAll0,Bool.and_eq_true] at la lb
  rw [PyData.depthAll] at hd
  rw [ltDs] at hc
  have d1:PyData.depth d≤64:=by omega
  have d2:PyData.depthAll ds≤64:=by omega
  have hmin:min d.depth e.depth≤d.depth:=Nat.min_le_left _ _
  refine kat_cons (SeqAt.eqAt_reads d e A s _ _ _ _ r q la.1 lb.1 (by omega) prog w _ _ ?_)
  cases he:PyData.eqv d e with
  | true =>
   rw [he,if_pos rfl] at hc
   refine kat_yes (zye hu ds es us ws _ _ (i+1) c rr qq la.2 lb.2 d2 (λ _ z=>by omega) ?_ hc hq)
   rw [hf]
   exact decide_eq_decide.mpr (by simp)
  | false =>
   rw [he,if_neg Bool.false_ne_true] at hc
   refine kat_no ?_
   cases hb:(b && i == 0) with
   | false=>exact kat_one _ _ ((zlk 64 d e c A s _ _ _ _ d1 r q la.1 lb.1 hc (by omega)).1 prog w _ _ (show W.BoolBack Q (.bool c) s from hq))
   | true =>
    rw [Bool.and_eq_true] at hb
    obtain ⟨m,n,rfl,rfl⟩:=hi hb.1 (by simpa using hb.2) d e ds es rfl rfl
    cases r
    cases q
    have hc:decide (m<n)=c:=by simpa [ltD] using hc
    subst hc
    exact oneLt_int hq
inductive FirstTy | int | tup
noncomputable def FirstTy.ty:FirstTy→Value
 | .int=>.type "int"
 | .tup=>.type "tuple"
noncomputable def FirstTy.of:FirstTy→PyData→Prop
 | .int,d=>∃ n,d = .int n
 | .tup,d=>∃ l,d = .tuple l
theorem zih {h:Heap} {v:Value} {d:PyData} {as:List Addr} (r:Reads h v d as) {f:FirstTy} (hf:f.of d):Looks (model prog w) h (typeOf v) f.ty:=by
 cases f with
 | int =>
  obtain ⟨n,rfl⟩:=hf
  cases r
  exact λ A Q E s _ q=>wpAny_pure q
 | tup =>
  obtain ⟨l,rfl⟩:=hf
  cases r with
  | tuple h1 h2 h3 h4 =>
   have:=(show Looks (model prog w) h (typeOf (.ref _)) _ from (Looks.ld h1).andThen .now)
   rw [h2] at this
   exact this
theorem ztp {prog:Program} {w:World} {h:Heap} {f:FirstTy}:∀ {vs:List Value} {ds:List PyData} {as:List Addr},ReadsAll h vs ds as→(∀ d∈ds,∃ x r,d = .tuple (x::r)∧f.of x)→∃ fs,KatTups h vs fs∧fs.length=vs.length∧∀ v∈fs,Looks (model prog w) h (typeOf v) f.ty
 | _,_,_,.nil,_=>⟨[],trivial,rfl,λ _ z=>nomatch z⟩
 | _,_,_,.cons r rr,hd=>by
  obtain ⟨fs,k,l,t⟩:=ztp (prog:=prog) (w:=w) rr λ d hm=>hd d (List.mem_cons_of_mem _ hm)
  obtain ⟨x,rest,rfl,hx⟩:=hd _ List.mem_cons_self
  cases r with
  | @tuple a o vs n xs as h1 h2 h3 h4 =>
   have h4':=h4
   generalize hvs:vs.toList=vl at h4
   cases h4 with
   | @cons y ys _ _ _ _ ry rys =>
    refine ⟨y::fs,⟨⟨_,_,_,_,rfl,h1,h2,h3,?_⟩,k⟩,by simp [l],λ v hv=>?_⟩
    ·rw [← Array.getElem?_toList,hvs];rfl
    ·rcases List.mem_cons.mp hv with rfl | hv
     ·exact zih ry hx
     ·exact t v hv
end
theorem zsd {h:Heap}:∀ {vs:List Value} {ds:List PyData} {as:List Addr},ReadsAll h vs ds as→∀ {i:Nat} {d:PyData},ds[i]? = some d→∃ v bs,vs[i]? = some v∧Reads h v d bs
 | _,_,_,.nil,i,d,e=>by simp at e
 | _,_,_,.cons r rr,0,d,e=>by
  have e:=Option.some.inj e
  subst e
  exact ⟨_,_,rfl,r⟩
 | _,_,_,.cons r rr,i+1,d,e=>by
  obtain ⟨v,bs,h1,h2⟩:=zsd rr (i:=i) (d:=d) (by simpa using e)
  exact ⟨v,bs,by simpa using h1,h2⟩
theorem zme {h:Heap}:∀ {vs:List Value} {ds:List PyData} {as:List Addr},ReadsAll h vs ds as→vs.length=ds.length
 | _,_,_,.nil=>rfl
 | _,_,_,.cons r rr=>by rw [List.length_cons,List.length_cons,zme rr]
structure Srt {α:Type} (as:List α) (enc:α→List PyData) (lt:α→α→Bool) (f:FirstTy):Prop where
 sto:STO lt
 few:as.length<64
 nd:as.Nodup
 lts:∀ a∈as,∀ b∈as,ltDs (enc a) (enc b)=some (lt a b)
 fst:∀ a∈as,∃ x r,enc a=x::r∧f.of x
 shp:∀ a∈as,SeqAt.shaped (.tuple (enc a))=true
section
variable {α:Type} {as:List α} {enc:α→List PyData} {lt:α→α→Bool} {f:FirstTy}
theorem Srt.ord (S:Srt as enc lt f) (d:α):Ord as.length (λ i j=>lt (as.getD i d) (as.getD j d)) where
 tr:=λ a b c _ _ _ h1 h2=>S.sto.tr _ _ _ h1 h2
 tri:=λ a b ha hb hn h=>S.sto.tri _ _ (λ e=>hn (by
  rw [List.getD_eq_getElem?_getD,List.getD_eq_getElem?_getD,List.getElem?_eq_getElem ha,List.getElem?_eq_getElem hb] at e
  have e:as[a]=as[b]:=e
  have pw:=List.pairwise_iff_getElem.mp S.nd
  rcases Nat.lt_trichotomy a b with z | z | z
  ·exact absurd e (pw a b ha hb z)
  ·exact z
  ·exact absurd e.symm (pw b a hb ha z))) h
 asy:=λ a b _ _ h=>S.sto.asym h
theorem Srt.go (S:Srt as enc lt f) (d:α) {prog:Program} {w:World} {A:Around} {s:Shared} {us:List Value} {bs:List Addr} {Q:Value→Shared→Prop} (hu:A.units+80<cLine) (r:ReadsAll s.heap us (as.map λ a=>.tuple (enc a)) bs)
  (q:∀ (p:Array Nat) (h':Heap) (l c:Nat),Pm as.length p→(p.toList.map λ i=>as.getD i d).Pairwise (λ a b=>lt a b=true)→(p.toList.map λ i=>as.getD i d).Perm as→s.heap.objs.size≤l→h'.get? l=some (seqObj "list" (zzj us p).toArray c)→(∀ b o,s.heap.get? b=some o→h'.get? b=some o)→Q (.ref l) { s with heap:=h' }) :
  zcr prog w A us s Q:=by
 have hl:us.length=as.length:=by rw [zme r,List.length_map]
 refine ⟨λ i j=>lt (as.getD i d) (as.getD j d),by rw [hl];exact S.few,by rw [hl];exact S.ord d,λ two h' kp=>?_,λ p h' l c hp up hlt hat kp=>?_⟩
 ·have r':=zkb kp r
  obtain ⟨fs,k,lf,tf⟩:=ztp (prog:=prog) (w:=w) (f:=f) r' (λ x hx=>by
   obtain ⟨a,ha,rfl⟩:=List.mem_map.mp hx
   obtain ⟨y,t,e,hy⟩:=S.fst a ha
   exact ⟨y,t,by rw [e],hy⟩)
  refine ⟨tuples' (f.ty != .type "tuple"),λ R E' hR=>kat_kind (s:={ s with heap:=h' }) k (by omega) tf (by cases f <;> decide) hR,λ i j C hi hj hC=>?_⟩
  rw [hl] at hi hj
  have gi:as[i]? = some as[i]:=List.getElem?_eq_getElem hi
  have gj:as[j]? = some as[j]:=List.getElem?_eq_getElem hj
  have mi:=List.getElem_mem hi
  have mj:=List.getElem_mem hj
  have ei:as.getD i d=as[i]:=by rw [List.getD_eq_getElem?_getD,gi];rfl
  have ej:as.getD j d=as[j]:=by rw [List.getD_eq_getElem?_getD,gj];rfl
  dsimp only at hC
  rw [ei,ej] at hC
  obtain ⟨v,b1,hv,rv⟩:=zsd r' (i:=i) (d := .tuple (enc as[i])) (by rw [List.getElem?_map,gi];rfl)
  obtain ⟨x,b2,hx,rx⟩:=zsd r' (i:=j) (d := .tuple (enc as[j])) (by rw [List.getElem?_map,gj];rfl)
  have evi:us.getD i .none=v:=by rw [List.getD_eq_getElem?_getD,hv];rfl
  have evj:us.getD j .none=x:=by rw [List.getD_eq_getElem?_getD,hx];rfl
  unfold kas_ask
  rw [evi,evj]
  generalize as[i]=a at *
  generalize as[j]=b at *
  have sa:=S.shp a mi
  have sb:=S.shp b mj
  have la:PyData.canLayAll0 (enc a)=true:=SeqAt.canLay_of_shaped sa
  have lb:PyData.canLayAll0 (enc b)=true:=SeqAt.canLay_of_shaped sb
  have da:PyData.depth (.tuple (enc a))≤64:=SeqAt.depth_of_shaped sa
  have da:PyData.depthAll (enc a)+1≤64:=da
  have first:∀ d e r t,enc a=d::r→enc b=e::t→f = .int→∃ m n,d = .int m∧e = .int n:=λ d e r t e1 e2 hf=>by
   subst hf
   obtain ⟨y,t1,e3,m,hm⟩:=S.fst a mi
   obtain ⟨z,t2,e4,n,hn⟩:=S.fst b mj
   rw [e1] at e3
   rw [e2] at e4
   cases e3
   cases e4
   exact ⟨m,n,hm,hn⟩
  cases rv with
  | @tuple l1 o1 x1 n1 _ _ h1 h2 h3 h4 =>
   cases rx with
   | @tuple l2 o2 x2 n2 _ _ g1 g2 g3 g4 =>
    refine kat_lt h1 h3 g1 g3 (zye (by show A.units+1+1+70<cLine;omega) _ _ _ _ _ _ 0 (lt a b) h4 g4 la lb (by omega) (λ hb _ d e r t e1 e2=>first d e r t e1 e2 ?_) (by simp) (S.lts a mi b mj) hC)
    cases f with
    | int=>rfl
    | tup=>exact absurd hb (by decide)
 ·rw [hl] at hp up
  refine q p h' l c hp ?_ ?_ hlt hat kp
  ·rw [List.pairwise_iff_getElem]
   intro i j hi hj hij
   simp only [List.length_map,Array.length_toList] at hi hj
   have hs:=hp.size
   have:=up i j hij (by omega)
   rw [List.getElem_map,List.getElem_map]
   rw [zow (by omega),zow (by omega)] at this
   simpa using this
  ·have h1:=hp.pm.map (λ i=>as.getD i d)
   refine h1.trans ?_
   have:(List.range as.length).map (λ i=>as.getD i d)=as:=by
    refine List.ext_getElem (by simp) λ i h1 h2=>?_
    simp [h2]
   rw [this]
end
end L2
namespace L2
open PySem PySem.Spec PyProof.Rows PySem.NumText PySem.W
section
variable {X:Cx}
theorem zzk {K:W.Frag} {H:Hp} {α:Type} {as:List α} {en:α→PyData} {vs:List V} (h:DVs K H (as.map en) vs) (d:α):∀ (is:List Nat),(∀ i∈is,i<as.length)→DVs K H ((is.map λ i=>as.getD i d).map en) (is.map λ i=>vs.getD i .non)
 | [],_=>rfl
 | i::is,hi=>by
  have h1:=hi i List.mem_cons_self
  obtain ⟨v,hv,hd⟩:=h.get (i:=i) (d:=en as[i]) (by rw [List.getElem?_map,List.getElem?_eq_getElem h1];rfl)
  have e1:as.getD i d=as[i]:=by rw [List.getD_eq_getElem?_getD,List.getElem?_eq_getElem h1];rfl
  have e2:vs.getD i .non=v:=by rw [List.getD_eq_getElem?_getD,hv];rfl
  refine ⟨v,_,?_,?_,zzk h d is λ j hj=>hi j (List.mem_cons_of_mem _ hj)⟩
  ·rw [List.map_cons,e2]
  ·show DV K H (en (as.getD i d)) v
   rw [e1]
   exact hd
theorem zti {vs:List V} {us:List Value} (r:Vals vs us):∀ (is:List Nat),(∀ i∈is,i<vs.length)→Vals (is.map λ i=>vs.getD i .non) (is.map λ i=>us.getD i .none)
 | [],_=>.nil
 | i::is,hi=>by
  have h1:=hi i List.mem_cons_self
  obtain ⟨u,hu,ru⟩:=r.get (i:=i) (x:=vs[i]) (List.getElem?_eq_getElem h1)
  have e1:vs.getD i .non=vs[i]:=by rw [List.getD_eq_getElem?_getD,List.getElem?_eq_getElem h1];rfl
  have e2:us.getD i .none=u:=by rw [List.getD_eq_getElem?_getD,hu];rfl
  rw [List.map_cons,List.map_cons,e1,e2]
  exact .cons ru (zti r is λ j hj=>hi j (List.mem_cons_of_mem _ hj))
noncomputable def zm2 (K:W.Frag) (H:Hp) {α:Type} (as:List α) (enc:α→List PyData) (lt:α→α→Bool) (Q:VK):Prop :=
 ∀ (l:Addr) (bs:List α) (ws:List V),H l=none→bs.Perm as→bs.Pairwise (λ a b=>lt a b=true)→DVs K H (bs.map λ a=>.tuple (enc a)) ws→Q (.ref l) (upd H l (.lst ws))
theorem zqw {pins:List (Addr×Obj)} {s s1:Shared} {σ:St} {H:Hp} {Q:VK} {α:Type} {as:List α} {enc:α→List PyData} {lt:α→α→Bool} {f:FirstTy} {vs:List V} {us:List Value} (hu:X.A.units+100<cLine) (S:Srt as enc lt f)
  (I:Inv X pins σ H s1) (r:Vals vs us) (hd:DVs X.K H (as.map λ a=>.tuple (enc a)) vs) (q:zm2 X.K H as enc lt Q):zcr X.prog X.w X.A us s1 (EP X pins σ Q):=by
 obtain ⟨bs,ra⟩:=DVs.reads I _ _ _ hd r
 have hl:vs.length=as.length:=by rw [hd.length,List.length_map]
 have lay:∀ (p:Array Nat) (d:α) (h':Heap) (l c:Nat),Pm as.length p→(p.toList.map λ i=>as.getD i d).Pairwise (λ a b=>lt a b=true)→(p.toList.map λ i=>as.getD i d).Perm as→s1.heap.objs.size≤l →
   h'.get? l=some (seqObj "list" (zzj us p).toArray c)→(∀ b o,s1.heap.get? b=some o→h'.get? b=some o)→EP X pins σ Q (.ref l) { s1 with heap:=h' }:=λ p d h' l c hp pw pm hle hat kp=>by
  have hin:∀ i∈p.toList,i<as.length:=λ i hi=>by simpa using hp.pm.mem_iff.mp hi
  have hn:=I.hok.fresh hle
  refine ⟨.ref l,_,I.laid (t':=s1.toks) (o := .lst (p.toList.map λ i=>vs.getD i .non)) kp hle ⟨?_,_,c,zti r p.toList (λ i hi=>by rw [hl];exact hin i hi),hat⟩,rfl,q l _ _ hn pm pw (zzk hd d p.toList hin)⟩
  rw [List.length_map,Array.length_toList,hp.size,sizeLine_eq]
  have:=S.few
  omega
 cases has:as with
 | nil =>
  have hus:us.length=0:=by rw [← r.length,hl,has];rfl
  refine ⟨λ _ _=>false,by omega,⟨λ a b c ha=>by omega,λ a b ha=>by omega,λ a b ha=>by omega⟩,λ two=>by omega,λ p h' l c hp up hle hat kp=>?_⟩
  have hp0:p.toList=[]:=by
   have:=hp.pm
   rw [hus] at this
   exact List.perm_nil.mp this
  have hn:=I.hok.fresh hle
  refine ⟨.ref l,_,I.laid (t':=s1.toks) (o := .lst []) kp hle ⟨Nat.zero_le _,_,c,.nil,?_⟩,rfl,q l [] [] hn (by rw [has]) .nil rfl⟩
  rw [hat,zzj,hp0]
  rfl
 | cons d rest =>
  exact S.go d (by omega) ra λ p h' l c hp pw pm hle hat kp=>lay p d h' l c hp pw pm hle hat kp
end
end L2
namespace L2
open PySem PySem.Spec PyProof.Rows PySem.NumText
noncomputable abbrev Mark:=Int×Int
noncomputable abbrev Ent:=Mark×Addr×V
noncomputable def mkK (m:Mark):List Key:=[.inl m.1,.inl m.2]
noncomputable def mkV (m:Mark):List V:=[.int m.1,.int m.2]
theorem zvq {a b:Mark} (h:mkK a=mkK b):a=b:=by
 unfold mkK at h
 have h1:=(List.cons.inj h).1
 have h2:=(List.cons.inj (List.cons.inj h).2).1
 exact Prod.ext (Sum.inl.inj h1) (Sum.inl.inj h2)
noncomputable def EntR (e:Ent) (x:List Key×Addr×Value):Prop:=x.1=mkK e.1∧x.2.1=e.2.1∧RelV e.2.2 x.2.2
noncomputable abbrev dK (P:Program) (w:World):=tupleKind (zhg P w)
noncomputable def dOk (P:Program) (w:World) (a:Addr) (es:List Ent) (o:Obj) (h:Heap):Prop:=es.length≤sizeLine∧(a == sysModules)=false∧h.get? a=some o∧∃ xs,Paired EntR es xs ∧
 ∃ ds ep,o.ExactDict∧o.data = .dict ds ep∧ds.toList=xs.map (entryOfKey (dK P w))∧(xs.map (·.1)).Nodup
noncomputable def dO (P:Program) (w:World) (a:Addr) (es:List Ent) (o:Obj):HO := .ext (dOk P w a es o)
structure DM (P:Program) (w:World) (K:W.Frag) (H:Hp) (a:Addr) (es:List Ent):Prop where
 ob:∃ o,H a=some (dO P w a es o)
 ky:∀ e∈es,SqT K H e.2.1 (mkV e.1)
theorem ztm {P:Program} {w:World} {h:Heap}:∀ {es:List Ent} {xs:List (List Key×Addr×Value)},Paired EntR es xs→(∀ e∈es,(dK P w).is h (mkK e.1) e.2.1)→∀ x∈xs,(dK P w).is h x.1 x.2.1
 | _,_,.nil,_,x,hx=>nomatch hx
 | _,_,.cons r rr,hk,x,hx=>by
  rcases List.mem_cons.mp hx with rfl | hx
  ·rw [r.1,r.2.1];exact hk _ List.mem_cons_self
  ·exact ztm rr (λ e he=>hk e (List.mem_cons_of_mem _ he)) x hx
noncomputable def zfn:List Ent→Mark→Option V
 | [],_=>none
 | e::es,m=>if e.1=m then some e.2.2 else zfn es m
theorem zai:∀ {es:List Ent} {xs:List (List Key×Addr×Value)},Paired EntR es xs→∀ m,RelO (zfn es m) ((atKey xs (mkK m)).map (·.2))
 | _,_,.nil,m=>trivial
 | e::es,x::xs,.cons r rr,m=>by
  unfold zfn atKey
  rw [List.find?_cons]
  by_cases h:e.1=m
  ·rw [if_pos h,show decide (x.1=mkK m)=true from decide_eq_true (by rw [r.1,h])]
   exact r.2.2
  ·rw [if_neg h,show decide (x.1=mkK m)=false from decide_eq_false (by rw [r.1];exact λ z=>h (zvq z))]
   exact zai rr m
theorem zrn {v:V} {o:Option Value} (h:RelO (some v) o):∃ u,o=some u∧RelV v u:=by
 cases o with
 | none=>exact h.elim
 | some u=>exact ⟨u,rfl,h⟩
theorem zgt {a:Option V} {b:Option Value} (h:RelO a b):a.isSome=b.isSome:=by
 cases a <;> cases b <;> first | rfl | exact h.elim
noncomputable def putM (es:List Ent) (m:Mark) (q:Addr) (v:V):List Ent:=if (zfn es m).isSome then es.map (λ e=>if e.1=m then (e.1,e.2.1,v) else e) else es++[(m,q,v)]
theorem ziu {es:List Ent} {xs:List (List Key×Addr×Value)} (r:Paired EntR es xs) (m:Mark) {q:Addr} {v:V} {u:Value} (rv:RelV v u):Paired EntR (putM es m q v) (storedH xs (mkK m) q u):=by
 have hi:(zfn es m).isSome=(atKey xs (mkK m)).isSome:=by rw [zgt (zai r m),Option.isSome_map]
 unfold putM storedH
 rw [hi]
 by_cases h:(atKey xs (mkK m)).isSome=true
 ·rw [if_pos h,if_pos h]
  clear hi h
  induction r with
  | nil=>exact .nil
  | @cons e x es xs a b ih =>
   rw [List.map_cons,List.map_cons]
   refine .cons ?_ ih
   unfold putAt
   by_cases he:e.1=m
   ·rw [if_pos he,if_pos (by rw [a.1,he])]
    exact ⟨a.1,a.2.1,rv⟩
   ·rw [if_neg he,if_neg (by rw [a.1];exact λ z=>he (zvq z))]
    exact a
 ·rw [if_neg h,if_neg h]
  exact Paired.snoc r ⟨rfl,rfl,rv⟩
theorem zsl (es:List Ent) (m:Mark) (q:Addr) (v:V):(putM es m q v).length≤es.length+1:=by
 unfold putM
 split
 ·rw [List.length_map];omega
 ·rw [List.length_append];exact Nat.le_refl _
theorem zuu {K:W.Frag} {H:Hp} {es:List Ent} {m:Mark} {q:Addr} {v:V} (h:∀ e∈es,SqT K H e.2.1 (mkV e.1)) (hq:SqT K H q (mkV m)):∀ e∈putM es m q v,SqT K H e.2.1 (mkV e.1):=by
 intro e he
 unfold putM at he
 split at he
 ·obtain ⟨e0,h0,rfl⟩:=List.mem_map.mp he
  by_cases z:e0.1=m
  ·rw [if_pos z];exact h e0 h0
  ·rw [if_neg z];exact h e0 h0
 ·rcases List.mem_append.mp he with z | z
  ·exact h e z
  ·rw [List.mem_singleton.mp z];exact hq
section
variable {X:Cx} {pins:List (Addr×Obj)} {σ:St} {H:Hp} {s:Shared} {a:Addr} {es:List Ent}
theorem zhr {P:Program} {w:World} {m:Mark} {us:List Value} (r:Vals (mkV m) us):ItemsAre (zhg P w) (mkK m) us:=by
 unfold mkV at r
 cases r with
 | cons r1 r2 =>
  cases r2 with
  | cons r3 r4 =>
   cases r4
   obtain ⟨t,rfl⟩:=r1
   obtain ⟨u,rfl⟩:=r3
   exact .cons (zdf P w m.1 t) (.cons (zdf P w m.2 u) .nil)
theorem Inv.mark (I:Inv X pins σ H s) {q:Addr} {m:Mark} (h:SqT X.K H q (mkV m)):(dK X.prog X.w).is s.heap (mkK m) q:=by
 obtain ⟨its,r,⟨o,h1,h2,n,h3⟩,hz⟩:=I.tuple h
 exact ⟨o,its.toArray,n,h1,h2,h3,by simpa using zhr r⟩
theorem Inv.dict (I:Inv X pins σ H s) (D:DM X.prog X.w X.K H a es):es.length≤sizeLine∧(a == sysModules)=false∧∃ xs,Paired EntR es xs∧s.heap.DictOfH (dK X.prog X.w) a xs:=by
 obtain ⟨o,ob⟩:=D.ob
 obtain ⟨⟨z,y,h1,xs,r,ds,ep,h2,h3,h4,h5⟩,_,_⟩:=(show ObjOk X.prog X.w H s.heap a (dO X.prog X.w a es o) from I.hok a _ ob)
 exact ⟨z,y,xs,r,o,ds,ep,h1,h2,h3,h4,ztm r λ e he=>I.mark (D.ky e he),h5⟩
theorem zg2 {P:Program} {w:World} {H:Hp} {h:Heap} {a:Addr} {es:List Ent} {xs:List (List Key×Addr×Value)} (z:es.length≤sizeLine) (y:(a == sysModules)=false) (r:Paired EntR es xs) (d:h.DictOfH (dK P w) a xs):∃ o,ObjOk P w (upd H a (dO P w a es o)) h a (dO P w a es o):=by
 obtain ⟨o,ds,ep,h1,h2,h3,h4,_,h5⟩:=d
 exact ⟨o,⟨z,y,h1,xs,r,ds,ep,h2,h3,h4,h5⟩,⟨o,h1⟩,λ h1' h2' ⟨z,y,g1,g2⟩ k=>⟨z,y,k o g1,g2⟩⟩
theorem Inv.bigM (I:Inv X pins σ H s):sysModules<s.heap.objs.size:=Nat.lt_trans (by decide) (I.mod.glob.keeps I.bk).lt
variable {o i e value:Expr} {pos pos':Pos} {td ty tv:TE}
noncomputable def zn2 (P:Program) (w:World):TE:=λ _ H Q=>∀ p o,H p=none→Q (.ref p) (upd H p (dO P w p [] o))
theorem zuv:PE X (.Dict [] [] pos) (zn2 X.prog X.w) := .mk <| λ pins s σ H Q I h=>by
 obtain ⟨ob,hob⟩:=zg2 (P:=X.prog) (w:=X.w) (H:=H) (es:=[]) (Nat.zero_le _) (beq_eq_false_iff_ne.mpr (Ne.symm (Nat.ne_of_lt I.bigM))) .nil (Heap.DictOfH.new s.heap)
 exact wpAny_Dict_empty ⟨.ref s.heap.objs.size,_,I.laid (t':=s.toks) (λ _ _ q=>Heap.get?_push_of_some _ q) (Nat.le_refl _) hob,rfl,h _ ob (I.hok.fresh (Nat.le_refl _))⟩
noncomputable def rIxM (P:Program) (w:World) (K:W.Frag):R2:=λ x y H Q=>∃ a es q m v,x = .ref a∧DM P w K H a es∧y = .ref q∧SqT K H q (mkV m)∧zfn es m=some v∧Q v H
theorem ix_M (hu:X.A.units+1<cLine):IxR X (rIxM X.prog X.w X.K):=by
 intro value slice pins s σ H x y v u Q I rx ry h hs
 obtain ⟨a,es,q,m,z,rfl,D,rfl,hm,hf,k⟩:=h
 cases rx
 cases ry
 obtain ⟨_,hd,xs,r,dd⟩:=I.dict D
 have fr:=zai r m
 rw [hf] at fr
 obtain ⟨uz,e1,r1⟩:=zrn fr
 obtain ⟨p,hp,hp2⟩:=Option.map_eq_some_iff.mp e1
 have hT:s.TypeIs (.ref a) "dict" := dd.typeIs
 have fin:wpAny (model X.prog X.w) X.A (subscripted slice false (.ref a) (.ref q)) (λ r s3=>wpAny (model X.prog X.w) X.A (letTemporaryGo value (.ref a) r >>= λ _=>pure r) (EP X pins σ Q) X.xe s3) X.xe s:=by
  rw [hs]
  refine wpAny_operating (wpAny_getItem_heap (tupleKind_room_in1 hu) (I.mark hm) dd hp ?_)
  rw [hp2]
  exact wpAny_bind (wpAny_letTemporaryGo (wpAny_pure ⟨z,H,I.tok _,r1,k⟩))
 unfold subscriptTail
 refine wpAny_bind ?_
 rw [getitemInPython_of_ne hT.not_modules]
 refine wpAny_bind (wpAny_specialOf hT PySem.F.slot_dict_getitem.lookup ?_)
 first
  | exact wpAny_pure (wpAny_bind fin)
  | exact wpAny_bind (wpAny_pure (wpAny_bind fin))
  | exact wpAny_bind fin
noncomputable def za2 (P:Program) (w:World) (K:W.Frag) (td ty tv:TE):TS:=λ D σ H=>tv σ H λ v H1=>td σ H1 λ x H2=>ty σ H2 λ y H3=>∃ a es q m,x = .ref a∧DM P w K H3 a es∧y = .ref q∧SqT K H3 q (mkV m)∧es.length<sizeLine∧∀ o,D.nx σ (upd H3 a (dO P w a (putM es m q v) o))
theorem zeu (hu:X.A.units+1<cLine) (ho:PE X o td) (hi:PE X i ty) (hv:PE X value tv) (hs:swapsWith value (some (.Subscript o i pos')) pos.line X.env=pure false) :
  PS X (.Assign [.Subscript o i pos'] value pos) (za2 X.prog X.w X.K td ty tv) := .mk <| by
 intro pins s σ H D I h
 refine wpAny_Assign_Subscript (thn (hv pins s σ H _ I h) λ r s1 ⟨v,H1,I1,rv,q1⟩=>thn (ho pins s1 σ H1 _ I1 q1) λ u s2 ⟨x,H2,I2,rx,q2⟩=>thn (hi pins s2 σ H2 _ I2 q2) λ iv s3 ⟨y,H3,I3,ry,a,es,q,m,ex,DD,ey,hm,hl,k⟩=>?_) hs
 subst ex ey
 cases rx
 cases ry
 obtain ⟨z,hd,xs,rr,dd⟩:=I3.dict DD
 refine wpAny_setItem_heap (hsz:=by rw [← Paired.length rr];exact z) (tupleKind_room_in1 hu) (I3.mark hm) dd λ h' dd' sb=>?_
 have he:∃ ob,h'.get? a=some ob:=let ⟨ob,_,_,hq,_⟩:=dd'; ⟨ob,hq⟩
 obtain ⟨o1,o2⟩:=DD.ob
 obtain ⟨ob,hob⟩:=zg2 (P:=X.prog) (w:=X.w) (H:=H3) (es:=putM es m q v) (by have:=zsl es m q v;omega) hd (ziu rr m rv) dd'
 exact ⟨σ,_,I3.write (t':=_) (x:=a) (e:=a) (by rw [o2];exact True.intro) (.inl rfl) (λ b ob hb z=>(sb.2 b hb).trans z) he hob,k ob⟩
end
end L2
namespace L2
open PySem PySem.Spec PyProof.Rows PySem.NumText
noncomputable def RawD (h:Heap) (d:Addr) (ds:Array DictEntry) (ep:Nat):Prop:=∃ o,h.get? d=some o∧o.cls = .type "dict" ∧ o.data = .dict ds ep
section
variable {prog:Program} {w:World} {A:Around} {E:Value→Shared→Prop} {s:Shared} {d it v:Addr} {ds:Array DictEntry} {ep i:Nat} {ok ov:Value}
end
end L2
namespace L2
open PySem PySem.Spec PyProof.Rows PySem.NumText
section
variable {prog:Program} {w:World} {A:Around} {E:Value→Shared→Prop} {s:Shared} {d it S r:Addr} {ds:Array DictEntry} {ep:Nat}
end
section
variable {X:Cx} {pins:List (Addr×Obj)} {σ:St} {H:Hp} {s:Shared} {h':Heap}
end
end L2
namespace L2
open PySem PySem.Spec PyProof.Rows PySem.NumText
section
variable {prog:Program} {w:World} {A:Around} {E:Value→Shared→Prop} {s:Shared} {l:Addr} {xs:Array Value} {c:Nat} {sl:Array (Option Value)}
end
noncomputable abbrev Row:=List Key×Addr×Value
section
variable {prog:Program} {w:World} {A:Around} {E:Value→Shared→Prop} {s:Shared} {l d it:Addr}
end
section
variable {X:Cx}
end
end L2
namespace L2
open PySem PySem.Spec PyProof.Rows PySem.NumText
structure Raw (P:Program) (w:World) (es:List Ent) (o:Obj) (ds:Array DictEntry) (ep:Nat) (rs:List Row):Prop where
 rel:Paired EntR es rs
 cl:o.cls = .type "dict"
 dat:o.data = .dict ds ep
 lst:ds.toList=rs.map (entryOfKey (dK P w))
theorem Raw.size {P:Program} {w:World} {es:List Ent} {o:Obj} {ds:Array DictEntry} {ep:Nat} {rs:List Row} (R:Raw P w es o ds ep rs):ds.size=es.length:=by
 rw [← Array.length_toList,R.lst,List.length_map,← Paired.length R.rel]
section
variable {X:Cx} {pins:List (Addr×Obj)} {σ:St} {H:Hp} {s:Shared} {a:Addr} {es:List Ent} {o:Obj}
theorem Inv.raw (I:Inv X pins σ H s) (ob:H a=some (dO X.prog X.w a es o)):s.heap.get? a=some o∧(a == sysModules)=false∧es.length≤sizeLine∧∃ ds ep rs,Raw X.prog X.w es o ds ep rs:=by
 obtain ⟨⟨z,y,h1,xs,r,ds,ep,h2,h3,h4,h5⟩,_,_⟩:=(show ObjOk X.prog X.w H s.heap a (dO X.prog X.w a es o) from I.hok a _ ob)
 exact ⟨h1,y,z,ds,ep,xs,r,h2.1,h3,h4⟩
end
section
variable {X:Cx} {o:Expr} {td:TE} {apos cpos:Pos}
theorem Inv.isDict {pins:List (Addr×Obj)} {σ:St} {H:Hp} {s:Shared} {a:Addr} {es:List Ent} {ob:Obj} (I:Inv X pins σ H s) (h:H a=some (dO X.prog X.w a es ob)):s.TypeIs (.ref a) "dict" ∧ ob.dict=none:=by
 obtain ⟨⟨z,y,h1,xs,r,ds,ep,h2,h3,h4,h5⟩,_,_⟩:=(show ObjOk X.prog X.w H s.heap a (dO X.prog X.w a es ob) from I.hok a _ h)
 exact ⟨⟨_,h1,h2.1⟩,h2.2.1⟩
end
end L2
namespace L2
open PySem PySem.Spec PyProof.Rows PySem.NumText
noncomputable def mLt (a b:Mark):Bool:=decide (a.1<b.1 ∨ (a.1=b.1∧a.2<b.2))
theorem zgw:STO mLt where
 irr:=λ a=>decide_eq_false (by omega)
 tr:=λ a b c h1 h2=>by
  have h1:=of_decide_eq_true h1
  have h2:=of_decide_eq_true h2
  exact decide_eq_true (by omega)
 tri:=λ a b hn h=>by
  have h:=of_decide_eq_false h
  refine decide_eq_true ?_
  by_cases e1:a.1=b.1
  ·have e2:a.2≠b.2:=λ e2=>hn (Prod.ext e1 e2)
   omega
  ·omega
noncomputable def markD (m:Mark):PyData := .tuple [.int m.1,.int m.2]
theorem zrr (a b:Mark):ltD (markD a) (markD b)=some (mLt a b):=by
 show ltDs [.int a.1,.int a.2] [.int b.1,.int b.2]=_
 have i1:∀ x y:Int,PyData.eqv (.int x) (.int y)=(x == y):=λ _ _=>rfl
 have i2:∀ x y:Int,ltD (.int x) (.int y)=some (decide (x<y)):=λ _ _=>rfl
 unfold ltDs
 rw [i1]
 by_cases e1:a.1=b.1
 ·rw [if_pos (by simp [e1])]
  unfold ltDs
  rw [i1]
  by_cases e2:a.2=b.2
  ·rw [if_pos (by simp [e2])]
   unfold ltDs mLt
   simp [e1,e2]
  ·rw [if_neg (by simp [e2]),i2]
   unfold mLt
   simp [e1]
 ·rw [if_neg (by simp [e1]),i2]
  unfold mLt
  simp [e1]
theorem zls {K:W.Frag} {H:Hp} {q:Addr} {m:Mark} (h:SqT K H q (mkV m)):DV K H (markD m) (.ref q):=⟨q,_,rfl,h,_,_,rfl,rfl,_,_,rfl,rfl,rfl⟩
theorem zqj {K:W.Frag} {H:Hp} {m:Mark} {v:V} (h:DV K H (markD m) v):∃ q,v = .ref q∧SqT K H q (mkV m):=by
 obtain ⟨q,vs,rfl,h1,v1,r1,rfl,e1,v2,r2,rfl,e2,e3⟩:=h
 cases (show v1 = .int m.1 from e1)
 cases (show v2 = .int m.2 from e2)
 cases (show r2=[] from e3)
 exact ⟨q,rfl,h1⟩
section
variable {X:Cx}
end
end L2
namespace L2
open PySem PySem.Spec PyProof.Rows PySem.NumText
noncomputable def prD (m:Mark×Ver):PyData := .tuple [markD m.1,ver m.2]
theorem zli (v:Ver):noL (ver v)=true:=zus (some v)
theorem zrk (es:List Ent) (m:Mark) (q:Addr) (v:V):(putM es m q v).map (·.1)=if (zfn es m).isSome then es.map (·.1) else es.map (·.1)++[m]:=by
 unfold putM
 by_cases h:(zfn es m).isSome=true
 ·rw [if_pos h,if_pos h,List.map_map]
  refine List.map_congr_left λ e _=>?_
  show (if e.1=m then (e.1,e.2.1,v) else e).1=e.1
  split <;> rfl
 ·rw [if_neg h,if_neg h,List.map_append]
  rfl
theorem zjm {m:Mark×Ver} (h:okV m.2):SeqAt.shaped (prD m)=true:=by
 unfold SeqAt.shaped
 have h1:PyData.canLay0 (prD m)=true:=by
  show ((true && (true && true)) && ((true && (PyData.canLay0 (plc m.2.2.1) && (PyData.strOk m.2.2.2 && true))) && true))=true
  rw [zvp,show PyData.strOk m.2.2.2=true from h]
  rfl
 rw [h1,Bool.true_and]
 refine decide_eq_true ?_
 have h2:PyData.depth (prD m)=max 1 (max (max 0 (max (PyData.depthAll (m.2.2.1.map stp)+1) (max 0 0))+1) 0)+1:=rfl
 have:=zbd m.2.2.1
 rw [h2]
 omega
end L2
namespace L2
open PySem PySem.Spec PyProof.Rows PySem.NumText
end L2
namespace L2
open PySem PySem.Spec PyProof.Rows PySem.NumText
section
variable {X:Cx}
end
noncomputable def zys (o:HO):Prop:=(∀ xs,o ≠ .tup xs)∧∀ ob u,o ≠ .frz ob u
theorem zed {K:W.Frag} {H:Hp} {p:Addr} {o o':HO} {a:Addr} {xs:List V} (hp:H p=some o) (n:zys o) (h:SqT K H a xs):SqT K (upd H p o') a xs:=by
 rcases h with (h | ⟨ob,h⟩) | h
 ·exact .inl (.inl (by rw [zta (zsw h hp λ z=>n.1 _ z.symm)];exact h))
 ·exact .inl (.inr ⟨ob,by rw [zta (zsw h hp λ z=>n.2 _ _ z.symm)];exact h⟩)
 ·exact .inr h
mutual
theorem zdi {K:W.Frag} {H:Hp} {p:Addr} {o o':HO} (hp:H p=some o) (n:zys o):∀ (d:PyData) (v:V),noL d=true→DV K H d v→DV K (upd H p o') d v
 | .none,v,_,h=>h
 | .bool b,v,_,h=>h
 | .int i,v,_,h=>h
 | .str x,v,_,h=>h
 | .list xs,v,n',_=>by cases n'
 | .tuple xs,v,n',⟨a,vs,h1,h2,h3⟩=>⟨a,vs,h1,zed hp n h2,zag hp n xs vs n' h3⟩
 | .dict _,v,_,h=>h.elim
theorem zag {K:W.Frag} {H:Hp} {p:Addr} {o o':HO} (hp:H p=some o) (n:zys o):∀ (ds:List PyData) (vs:List V),noLs ds=true→DVs K H ds vs→DVs K (upd H p o') ds vs
 | [],vs,_,h=>h
 | d::ds,vs,n',⟨v,r,h1,h2,h3⟩=>by
  have n':noL d=true∧noLs ds=true:=by rw [noLs,Bool.and_eq_true] at n';exact n'
  exact ⟨v,r,h1,zdi hp n d v n'.1 h2,zag hp n ds r n'.2 h3⟩
end
theorem zbj (xs:List V):zys (.lst xs):=⟨λ _ z=>(by cases z),λ _ _ z=>(by cases z)⟩
theorem ziw (φ:Heap→Prop):zys (.ext φ):=⟨λ _ z=>(by cases z),λ _ _ z=>(by cases z)⟩
end L2
namespace L2
open PySem PySem.Spec PyProof.Rows PySem.NumText
section
variable {prog:Program} {w:World} {A:Around} {E:Value→Shared→Prop} {s:Shared}
end
end L2
namespace L2
open PySem PySem.Spec PyProof.Rows PySem.NumText
section
variable {prog:Program} {w:World} {A:Around} {E:Value→Shared→Prop} {s:Shared}
end
end L2
namespace L2
open PySem PySem.Spec PyProof.Rows PySem.NumText
section
variable {prog:Program} {w:World} {A:Around} {E:Value→Shared→Prop} {s:Shared}
end
end L2
namespace L2
open PySem PySem.Spec PyProof.Rows PySem.NumText
section
variable {prog:Program} {w:World} {A:Around} {E:Value→Shared→Prop} {s:Shared}
end
section
variable {prog:Program} {w:World} {A:Around} {R:Result→Shared→Prop} {I:Addr} {fp wr:List Addr} {G:Array GenState→Array GenState→Prop} {n:Nat} {P:Nat→Value→Prop} {St:Nat→Shared→Prop}
end
section
variable {prog:Program} {w:World} {A:Around} {E:Value→Shared→Prop} {s:Shared}
end
end L2
namespace L2
open PySem PySem.Spec PyProof.Rows PySem.NumText
section
variable {X:Cx} {pins:List (Addr×Obj)} {σ:St} {H:Hp} {s:Shared}
end
section
variable {X:Cx}
end
end L2
namespace L2
open PySem PySem.Spec PyProof.Rows PySem.NumText
section
variable {prog:Program} {w:World} {A:Around} {E:Value→Shared→Prop} {s:Shared}
end
section
variable {X:Cx} {e:Expr} {ta:TA} {x:Str} {id:String} {r:List V→Hp→VK→Prop} {p pos kp kp1:Pos} {j:Nat}
end
end L2
namespace L2
open PySem PySem.Spec PyProof.Rows PySem.NumText
section
variable {X:Cx}
end
end L2
namespace L2
open PySem PySem.Spec PyProof.Rows PySem.NumText
noncomputable def zhn (d:Addr) (i n ep:Nat):Obj:={ cls := .type "dict_keyiterator",data := .fields #[.ref d,.int i 0,.int n 0,.int ep 0] }
section
variable {prog:Program} {w:World} {A:Around} {E:Value→Shared→Prop} {s:Shared} {d it:Addr} {ds:Array DictEntry} {ep i:Nat}
theorem zlj:Builtin.Dict_items.ownsTuple "dict_keyiterator" = false:=by decide
theorem zkn {Q:Value→Shared→Prop} (hT:s.TypeIs (.ref d) "dict") (hd:RawD s.heap d ds ep) (hs:(d == sysModules)=false)
  (k:Q (.ref s.heap.objs.size) { s with heap:=s.heap.push (zhn d 0 ds.size ep) }):wpAny (model prog w) A (pyIter (.ref d)) Q E s:=by
 obtain ⟨o,d1,d2,d3⟩:=hd
 refine wpAny_pyIter_slot hT F.slot_dict_iter (wpAny_call_entry F.slot_dict_iter hT F.entry_dict_iter ?_ (F.args_dict_iter_1 _))
 unfold Builtin.«dict.__iter__» Builtin.Dict.dictSlotNone
 refine wpAny_bind (wpAny_bind (wpAny_notOrdered_dict hT (wpAny_bind (wpAny_of_eq (a:=(Value.ref d,[])) rfl (wpAny_pure ?_)))))
 refine wpAny_bind (wpAny_pure ?_)
 unfold Builtin.Dict.showsAll
 rw [hs]
 refine wpAny_bind (wpAny_of_eq (a:=()) (if_neg Bool.false_ne_true) ?_)
 refine wpAny_bind (wpAny_dictEntries d1 d3 (wpAny_bind (wpAny_dictEpoch d1 d3 ?_)))
 refine wpAny_bind (wpAny_newObj_type (wpAny_pure ⟨_,rfl, "dict_keyiterator",_,⟨_,Heap.get?_push_size _ rfl,rfl⟩,F.slot_dict_keyiterator_next.lookup,?_⟩) ?_)
 ·simpa [rawInt,zhn] using k
 ·simp only [sizeOk,List.size_toArray,List.length_cons,List.length_nil,sizeLine_eq]
  omega
theorem zss {Q:Option Value→Shared→Prop} {e:DictEntry} (hi:s.heap.get? it=some (zhn d i ds.size ep)) (hd:RawD s.heap d ds ep) (he:ds[i]? = some e)
  (k:∀ h',h'.get? it=some (zhn d (i+1) ds.size ep)→h'.objs.size=s.heap.objs.size→(∀ b o,b≠it→s.heap.get? b=some o→h'.get? b=some o)→Q (some e.key) { s with heap:=h' }):wpAny (model prog w) A (pyNext (.ref it)) Q E s:=by
 obtain ⟨o,d1,d2,d3⟩:=hd
 have ty:s.TypeIs (.ref it) "dict_keyiterator" := ⟨_,hi,rfl⟩
 unfold pyNext
 refine wpAny_bind (wpAny_attempt (wpAny_callSpecial?_slot ty F.slot_dict_keyiterator_next (wpAny_call_entry F.slot_dict_keyiterator_next ty F.entry_dict_keyiterator_next ?_ (F.args_dict_keyiterator_next_1 _))))
 unfold Builtin.«dict_keyiterator.__next__»
 refine wpAny_bind (wpAny_pure (wpAny_bind (wpAny_bind (wpAny_bind (wpAny_typeNameOfWhole_keyiter ty (wpAny_pure (wpAny_bind (wpAny_fieldsOf hi rfl ?_))))))))
 simp only [zlj,Bool.false_eq_true,if_false]
 have e1:(Value.ref d == Value.none)=false:=rfl
 dsimp only [List.drop,List.take]
 rw [if_neg (by rw [e1];exact Bool.false_ne_true)]
 refine wpAny_bind (wpAny_pure (wpAny_bind (wpAny_dictEntries d1 d3 ?_)))
 rw [if_neg (by simp)]
 refine wpAny_bind (wpAny_pure (wpAny_bind (wpAny_dictEpoch d1 d3 ?_)))
 rw [if_neg (by simp)]
 refine wpAny_pure ?_
 dsimp only
 rw [if_neg (by omega),Int.toNat_natCast,he]
 dsimp only
 refine wpAny_bind (wpAny_bind (wpAny_typeNameOfWhole_keyiter ty (wpAny_pure ?_)))
 refine wpAny_bind (wpAny_isOneOf_keyiter ty ?_)
 simp only [zlj,Bool.false_eq_true,if_false]
 rw [if_neg (by decide)]
 refine wpAny_bind (wpAny_setField_rec (k:=1) hi (by show 1<4;decide) λ h1 g1 sb1=>?_)
 have g1:h1.get? it=some (zhn d (i+1) ds.size ep):=g1
 have ty1:({ s with heap:=h1 }:Shared).TypeIs (.ref it) "dict_keyiterator" := ⟨_,g1,rfl⟩
 refine wpAny_bind (wpAny_holding (wpAny_bind (wpAny_isOneOf_keyiter ty1 ?_)))
 first | rw [if_neg (by decide)] | rw [if_pos (by decide)]
 exact wpAny_pure (wpAny_pure ⟨_,rfl,wpAny_pure (k h1 g1 sb1.1 λ b o hb q=>(sb1.2 b hb).trans q)⟩)
theorem zkh {Q:Option Value→Shared→Prop} (hh:A.handled=none) (hi:s.heap.get? it=some (zhn d i ds.size ep)) (hd:RawD s.heap d ds ep) (he:ds[i]? = none)
  (k:∀ h',(∀ b o,b≠it→s.heap.get? b=some o→h'.get? b=some o)→Q none { s with heap:=h' }):wpAny (model prog w) A (pyNext (.ref it)) Q E s:=by
 obtain ⟨o,d1,d2,d3⟩:=hd
 have ty:s.TypeIs (.ref it) "dict_keyiterator" := ⟨_,hi,rfl⟩
 unfold pyNext
 refine wpAny_bind (wpAny_attempt (wpAny_callSpecial?_slot ty F.slot_dict_keyiterator_next (wpAny_call_entry F.slot_dict_keyiterator_next ty F.entry_dict_keyiterator_next ?_ (F.args_dict_keyiterator_next_1 _))))
 unfold Builtin.«dict_keyiterator.__next__»
 refine wpAny_bind (wpAny_pure (wpAny_bind (wpAny_bind (wpAny_bind (wpAny_typeNameOfWhole_keyiter ty (wpAny_pure (wpAny_bind (wpAny_fieldsOf hi rfl ?_))))))))
 simp only [zlj,Bool.false_eq_true,if_false]
 have e1:(Value.ref d == Value.none)=false:=rfl
 dsimp only [List.drop,List.take]
 rw [if_neg (by rw [e1];exact Bool.false_ne_true)]
 refine wpAny_bind (wpAny_pure (wpAny_bind (wpAny_dictEntries d1 d3 ?_)))
 rw [if_neg (by simp)]
 refine wpAny_bind (wpAny_pure (wpAny_bind (wpAny_dictEpoch d1 d3 ?_)))
 rw [if_neg (by simp)]
 refine wpAny_pure ?_
 dsimp only
 rw [if_neg (by omega),Int.toNat_natCast,he]
 dsimp only
 refine wpAny_bind (wpAny_bind (wpAny_typeNameOfWhole_keyiter ty (wpAny_pure ?_)))
 simp only [zlj,Bool.false_eq_true,if_false]
 refine wpAny_bind (wpAny_setField_rec (k:=0) hi (by show 0<4;decide) λ h1 g1 sb=>?_)
 unfold newExc raiseNew
 refine wpAny_bind (wpAny_bind (wpAny_newObj_type ?_))
 have fa:firstArgMember (.type "StopIteration") []=pure Value.none:=by
  rw [firstArgMember.eq_1]
  generalize (Manifest.find? "StopIteration").elim false (λ t=>t.mro.contains "StopIteration" || t.mro.contains "SystemExit")=b
  cases b <;> rfl
 refine wpAny_bind (wpAny_of_eq fa (wpAny_newObj_type ?_ (sizeOk_excFields _ _ _ _ _ _ _ _)))
 refine wpAny_bind (wpAny_handled ?_)
 rw [show A.in1.handled=none from hh]
 refine wpAny_throw ?_
 refine wpAny_bind (wpAny_isInstance ⟨_,Heap.get?_push_size _ rfl,rfl⟩ isSubtype_stop ?_)
 rw [if_pos rfl]
 refine wpAny_pure (k _ λ b o hb e=>?_)
 exact Heap.get?_push_of_some _ (Heap.get?_push_of_some _ ((sb.2 b hb).trans e))
end
end L2
namespace L2
open PySem PySem.Spec PyProof.Rows PySem.NumText
section
variable {X:Cx} {o:Expr} {td:TE}
end
section
variable {prog:Program} {w:World} {A:Around} {E:Value→Shared→Prop} {s:Shared} {d it S:Addr} {ds:Array DictEntry} {ep:Nat}
theorem zqo {R:Result→Shared→Prop} (hh:A.handled=none) (hn:ds.size≤sizeLine) (nSI:S≠it) (ndS:d≠S) (ndI:d≠it) (res:Value) {h1:Heap}
  (k:∀ h' tk acc c,(∀ b o,b≠S→b≠it→h1.get? b=some o→h'.get? b=some o)→h'.get? S=some { cls := .type "list",data := .seq acc c }→acc.toList=ds.toList.map (·.key)→R (.ok (.ret res)) { s with heap:=h',toks:=tk }) :
  ∀ (n i:Nat) (h:Heap) (tk c:Nat) (acc:Array Value),ds.size - i=n→i≤ds.size→h.get? it=some (zhn d i ds.size ep)→RawD h d ds ep →
   (∀ b o,b≠S→b≠it→h1.get? b=some o→h.get? b=some o)→h.get? S=some { cls := .type "list",data := .seq acc c }→acc.toList=(ds.toList.take i).map (·.key) →
   codeAny (model prog w) A (.builtin "list.extend.loop" ⟨[.ref S,.ref it,res],[]⟩) R { s with heap:=h,toks:=tk }:=by
 intro n
 induction n with
 | zero =>
  intro i h tk c acc hni hi hit hd kp hS hacc
  refine codeAny_builtin F.entry_extend_loop ?_
  rw [Around.under_plainId F.plain_extend_loop]
  refine wpAny_bind (zkh (s:={ s with heap:=h,toks:=tk }) hh hit hd (by rw [Array.getElem?_eq_none];omega) λ h' kp'=>?_)
  refine wpAny_pure (k h' tk acc c (λ b o h1' h2' e=>kp' b o h2' (kp b o h1' h2' e)) (kp' _ _ nSI hS) ?_)
  rw [hacc,List.take_of_length_le (by rw [Array.length_toList];omega)]
 | succ n ih =>
  intro i h tk c acc hni hi hit hd kp hS hacc
  obtain ⟨e,he⟩:∃ e,ds[i]? = some e:=⟨_,Array.getElem?_eq_getElem (by omega)⟩
  refine codeAny_builtin F.entry_extend_loop ?_
  rw [Around.under_plainId F.plain_extend_loop]
  refine wpAny_bind (zss (s:={ s with heap:=h,toks:=tk }) hit hd he λ h' hit' hz kp'=>?_)
  have hS':=kp' _ _ nSI hS
  have haz:acc.size=i:=by rw [← Array.length_toList,hacc,List.length_map,List.length_take,Array.length_toList];omega
  refine wpAny_bind (wpAny_updateSeq (a:=S) (s:={ s with heap:=h',toks:=tk }) hS' rfl ?_ (by omega) (by rw [Array.size_push];omega))
  refine wpAny_pure ⟨plainId_quiet F.plain_extend_loop _,?_⟩
  have oth:∀ b,b≠S→(h'.update S (Obj.mapSeq λ x=>x.push e.key)).get? b=h'.get? b:=λ b hb=>Heap.get?_update_other _ _ (Ne.symm hb)
  have self:(h'.update S (Obj.mapSeq λ x=>x.push e.key)).get? S=some { cls := .type "list",data := .seq (acc.push e.key) (if (acc.push e.key).size == acc.size then c else c+1) }:=Heap.get?_update_self _ hS' rfl
  refine ih (i+1) _ tk _ _ (by omega) (by omega) (by rw [oth _ nSI.symm];exact hit') ?_ ?_ self ?_
  ·obtain ⟨o,o1,o2⟩:=hd
   exact ⟨o,by rw [oth _ ndS];exact kp' _ _ ndI o1,o2⟩
  ·intro b o hb1 hb2 q
   rw [oth _ hb1]
   exact kp' _ _ hb2 (kp b o hb1 hb2 q)
  ·have hil:i<ds.toList.length:=by rw [Array.length_toList];omega
   rw [Array.toList_push,hacc,List.take_succ_eq_append_getElem hil,List.map_append]
   have:ds.toList[i]=e:=by
    have:=(Array.getElem?_eq_some_iff.mp he).2
    rw [Array.getElem_toList];exact this
   rw [this]
   rfl
theorem zci {R:List Value→Shared→Prop} (hh:A.handled=none) (hT:s.TypeIs (.ref d) "dict") (hb:(d == sysModules)=false) (hd:RawD s.heap d ds ep) (hn:ds.size≤sizeLine)
  (k:∀ h' tk,(∀ b o,s.heap.get? b=some o→h'.get? b=some o)→R (ds.toList.map (·.key)) { s with heap:=h',toks:=tk }):wpAny (model prog w) A (collect (.ref d)) R E s:=by
 unfold collect
 refine wpAny_bind (wpAny_runValue (codeAny_builtin entry_proto_collect' ?_))
 rw [Around.under_plainId F.plain_proto_collect]
 refine wpAny_bind (wpAny_newObj_type (wpAny_pure ⟨plainId_quiet F.plain_list_iadd _,codeAny_builtin entry_list_iadd' ?_⟩))
 rw [Around.under_plainId F.plain_list_iadd]
 obtain ⟨o,d1,d2,d3⟩:=id hd
 obtain ⟨h1,hh1⟩:∃ h1,h1=s.heap.push { cls := .type "list",data := .seq (#[]:Array Value) }:=⟨_,rfl⟩
 have hS1:h1.get? s.heap.objs.size=some { cls := .type "list",data := .seq #[] }:=by rw [hh1];exact Heap.get?_push_size _ rfl
 have kp1:∀ b ob,s.heap.get? b=some ob→h1.get? b=some ob:=λ b ob e=>by rw [hh1];exact Heap.get?_push_of_some _ e
 have z1:h1.objs.size=s.heap.objs.size+1:=by rw [hh1,Heap.size_push]
 have hd1:RawD h1 d ds ep:=⟨o,kp1 _ _ d1,d2,d3⟩
 have hT1:({ s with heap:=h1 }:Shared).TypeIs (.ref d) "dict" := ⟨o,kp1 _ _ d1,d2⟩
 show wpAny _ _ (Builtin.«list.__iadd__» _) _ _ { s with heap:=s.heap.push { cls := .type "list",data := .seq (#[]:Array Value) } }
 rw [← hh1]
 unfold Builtin.«list.__iadd__»
 refine wpAny_bind (wpAny_pure ?_)
 show wpAny _ _ (Builtin.List.listExtendWith (.ref s.heap.objs.size) (.ref d) (.ref s.heap.objs.size)) _ _ _
 unfold Builtin.List.listExtendWith
 refine wpAny_bind (wpAny_typeOf hT1 ?_)
 have ndS:d≠s.heap.objs.size:=Nat.ne_of_lt (Heap.lt_size d1)
 rw [if_neg (by simp [Builtin.List.listSameRef,ndS.symm])]
 refine wpAny_bind (zkn (s:={ s with heap:=h1 }) hT1 hd1 hb ?_)
 obtain ⟨h2,hh2⟩:∃ h2,h2=h1.push (zhn d 0 ds.size ep):=⟨_,rfl⟩
 have z2:h2.objs.size=h1.objs.size+1:=by rw [hh2,Heap.size_push]
 have kp2:∀ b ob,h1.get? b=some ob→h2.get? b=some ob:=λ b ob e=>by rw [hh2];exact Heap.get?_push_of_some _ e
 have i2:h2.get? h1.objs.size=some (zhn d 0 ds.size ep):=by rw [hh2];exact Heap.get?_push_size _ rfl
 show wpAny _ _ _ _ _ { s with heap:=h1.push (zhn d 0 ds.size ep) }
 rw [← hh2]
 have hT2:({ s with heap:=h2 }:Shared).TypeIs (.ref d) "dict" := ⟨o,kp2 _ _ (kp1 _ _ d1),d2⟩
 refine wpAny_bind (wpAny_holding (W.kdl_hint_dict hT2 ?_))
 have nSI:s.heap.objs.size≠h1.objs.size:=by rw [z1];exact Nat.ne_of_lt (Nat.lt_succ_self _)
 have ndI:d≠h1.objs.size:=Nat.ne_of_lt (Heap.lt_size (kp1 _ _ d1))
 have fin:∀ h3 c,h3.objs.size=h2.objs.size→(∀ b,b≠s.heap.objs.size→h3.get? b=h2.get? b)→h3.get? s.heap.objs.size=some { cls := .type "list",data := .seq #[] c } →
   codeAny (model prog w) A (.builtin "list.extend.loop" ⟨[.ref s.heap.objs.size,.ref h1.objs.size,.ref s.heap.objs.size],[]⟩) (λ r s'=>∃ h' tk acc c',r = .ok (.ret (.ref s.heap.objs.size))∧s'={ s with heap:=h',toks:=tk }∧(∀ b ob,s.heap.get? b=some ob→h'.get? b=some ob)∧h'.get? s.heap.objs.size=some { cls := .type "list",data := .seq acc c' }∧acc.toList=ds.toList.map (·.key)) { s with heap:=h3,toks:=s.toks }:=by
  intro h3 c z3 oth3 hS3
  refine zqo (ep:=ep) (d:=d) (h1:=h2) hh hn nSI ndS ndI (.ref s.heap.objs.size) ?_ (ds.size - 0) 0 h3 s.toks c #[] rfl (Nat.zero_le _) (by rw [oth3 _ nSI.symm];exact i2) ⟨o,by rw [oth3 _ ndS];exact kp2 _ _ (kp1 _ _ d1),d2,d3⟩ (λ b ob hb1 hb2 e=>by rw [oth3 _ hb1];exact e) hS3 rfl
  intro h' tk acc c' kp' hS' hacc
  exact ⟨h',tk,acc,c',rfl,rfl,λ b ob e=>kp' b ob (Nat.ne_of_lt (Heap.lt_size e)) (Nat.ne_of_lt (Heap.lt_size (kp1 _ _ e))) (kp2 _ _ (kp1 _ _ e)),hS',hacc⟩
 refine wpAny_ite_split (λ _=>?_) (λ _=>?_)
 ·refine wpAny_bind (wpAny_rule (wpAny_bind (wpAny_bind (wpAny_updateSeq (a:=s.heap.objs.size) (s:={ s with heap:=h2 }) (kp2 _ _ hS1) rfl ?_ (Nat.zero_le _) (by show 1≤_;rw [sizeLine_eq];omega)))))
  have self:(h2.update s.heap.objs.size (Obj.mapSeq λ x=>x.push .none)).get? s.heap.objs.size=some { cls := .type "list",data := .seq #[.none] 1 }:=Heap.get?_update_self _ (kp2 _ _ hS1) rfl
  refine wpAny_updateSeq (a:=s.heap.objs.size) self rfl ?_ (by show 1≤_;rw [sizeLine_eq];omega) (Nat.zero_le _)
  refine wpAny_pure ⟨plainId_quiet F.plain_extend_loop _,codeAny_mono (fin _ 2 ?_ ?_ ?_) λ r s' ⟨h',tk,acc,c',e1,e2,kp',hS',hacc⟩=>?_⟩
  ·rw [Heap.size_update,Heap.size_update]
  ·intro b hb
   rw [Heap.get?_update_other _ _ (Ne.symm hb),Heap.get?_update_other _ _ (Ne.symm hb)]
  ·exact Heap.get?_update_self _ self rfl
  ·subst e1 e2
   refine wpAny_bind (wpAny_load hS' ?_)
   dsimp only
   rw [hacc]
   exact wpAny_pure (k h' tk kp')
 ·refine wpAny_pure ⟨plainId_quiet F.plain_extend_loop _,codeAny_mono (fin h2 0 rfl (λ _ _=>rfl) (kp2 _ _ hS1)) λ r s' ⟨h',tk,acc,c',e1,e2,kp',hS',hacc⟩=>?_⟩
  subst e1 e2
  refine wpAny_bind (wpAny_load hS' ?_)
  dsimp only
  rw [hacc]
  exact wpAny_pure (k h' tk kp')
end
theorem zso {ks:List Mark} (nd:ks.Nodup) (few:ks.length<64):Srt ks (λ m=>[.int m.1,.int m.2]) mLt .int where
 sto:=zgw
 few:=few
 nd:=nd
 lts:=by
  intro a _ b _
  have h:=zrr a b
  exact h
 fst:=λ a _=>⟨_,_,rfl,_,rfl⟩
 shp:=λ a _=>rfl
section
variable {X:Cx}
noncomputable def zo1 (P:Program) (w:World) (K:W.Frag):List V→Hp→VK→Prop:=λ xs H Q=>∃ (a:Addr) (es:List Ent) (o:Obj),xs=[.ref a]∧H a=some (dO P w a es o)∧(∀ e∈es,SqT K H e.2.1 (mkV e.1))∧(es.map (·.1)).Nodup∧es.length<64∧zm2 K H (es.map (·.1)) (λ m=>[.int m.1,.int m.2]) mLt Q
theorem zfj {X:Cx}:∀ {es:List Ent} {rs:List Row},Paired EntR es rs→Vals (es.map λ e=>V.ref e.2.1) ((rs.map (entryOfKey (dK X.prog X.w))).map (·.key))
 | _,_,.nil=>.nil
 | _,_,.cons a b=>.cons (show RelV (.ref _) (.ref _) from by rw [a.2.1];rfl) (zfj b)
theorem zzh (hc:X.calm=true) (hu:X.A.units+100<cLine):zwi X (.builtin "sorted") (zo1 X.prog X.w X.K):=by
 intro pins s σ H xs us Q I r h
 obtain ⟨a,es,o,rfl,ha,hk,nd,few,q⟩:=h
 obtain ⟨u,rfl,ru⟩:=zlq r
 cases ru
 obtain ⟨hT,_⟩:=I.isDict ha
 obtain ⟨h1,hb,_,ds,ep,rs,RR⟩:=I.raw ha
 refine zxh (zci (I.ok.hd hc) hT hb ⟨o,h1,RR.cl,RR.dat⟩ (by rw [RR.size,sizeLine_eq];omega) λ h' tk kp=>?_)
 have I1:Inv X pins σ H { s with heap:=h',toks:=tk }:=I.kept (t':=tk) kp
 rw [RR.lst]
 refine zqw (s:=s) hu (zso nd (by rw [List.length_map];exact few)) I1 (zfj RR.rel) ?_ q
 have:∀ (l:List Ent),(∀ e∈l,SqT X.K H e.2.1 (mkV e.1))→DVs X.K H ((l.map (·.1)).map λ (m:Mark)=>PyData.tuple [.int m.1,.int m.2]) (l.map λ e=>V.ref e.2.1):=by
  intro l
  induction l with
  | nil=>intro _;rfl
  | cons e l ih=>intro hl;exact ⟨_,_,rfl,zls (hl e List.mem_cons_self),ih λ e' he'=>hl e' (List.mem_cons_of_mem _ he')⟩
 exact this es hk
end
end L2
namespace L2
open PySem PySem.Spec PyProof.Rows PySem.NumText
section
variable {X:Cx}
end
section
variable {prog:Program} {w:World} {A:Around} {E:Value→Shared→Prop} {s:Shared} {d q:Addr}
end
end L2
namespace L2
open PySem PySem.Spec PyProof.Rows PySem.NumText
section
variable {prog:Program} {w:World} {A:Around} {E:Value→Shared→Prop} {s:Shared} {d q:Addr}
end
section
variable {X:Cx} {o e:Expr} {td ty:TE} {apos cpos:Pos}
end
end L2
namespace L2
open PySem PySem.Spec PyProof.Rows PySem.NumText
section
variable {prog:Program} {w:World} {A:Around} {E:Value→Shared→Prop} {s:Shared} {a it:Addr}
end
end L2
namespace L2
open PySem PySem.Spec PyProof.Rows PySem.NumText
section
variable {prog:Program} {w:World} {A:Around} {E:Value→Shared→Prop} {s:Shared} {a it:Addr}
end
section
variable {X:Cx}
end
end L2
namespace L2
open PySem PySem.Spec PyProof.Rows PySem.NumText
section
variable {prog:Program} {w:World} {A:Around} {E:Value→Shared→Prop} {s:Shared} {a it:Addr} {es:Array (Int×Value)} {ep i:Nat} {t:ST}
end
end L2
namespace L2
open PySem PySem.Spec PyProof.Rows PySem.NumText
section
variable {prog:Program} {w:World} {A:Around} {E:Value→Shared→Prop} {s:Shared} {a it S:Addr} {es:Array (Int×Value)} {ep:Nat} {t:ST}
end
section
variable {X:Cx}
end
end L2
namespace L2
open PySem PySem.Spec PyProof.Rows PySem.NumText
section
variable {prog:Program} {w:World} {A:Around} {R:Result→Shared→Prop} {s:Shared}
end
section
variable {X:Cx}
end
end L2
namespace L2
open PySem PySem.Spec PyProof.Rows PySem.NumText
section
variable {prog:Program} {w:World} {A:Around} {E:Value→Shared→Prop} {R:Result→Shared→Prop} {s:Shared}
end
section
variable {X:Cx}
end
end L2
namespace L2
open PySem PySem.Spec PyProof.Rows PySem.NumText
section
variable {X:Cx}
theorem zq4 {P:Program} {w:World} {K:W.Frag} (hP:X.prog=P) (hw:X.w=w) (hK:X.K=K) (hu:X.A.units+1<cLine):IxR X (rIxM P w K):=by
 subst hP hw hK
 exact ix_M hu
end
end L2
namespace L2
open PySem PySem.Spec PyProof.Rows PySem.NumText
theorem zmi {J:It} {n:Nat} {nt:Nat} {cap:List Nat} {g:TG} {ti:TT} {te:TE} {σ:St} {H1:Hp} {Q:VK} {D:Addr} (val:Nat→V) (kb:Nat→Bool) (R:Nat→V→Hp→Prop) (hD:H1 D=none) (hP:Plain H1) (hx:n≤sizeLine)
  (hJ:∀ i H2,Same H1 H2→(i<n→J.go i H2)∧(J.stop n H2)∧∀ x H3,i<n→J.yld i H2 x H3→H3=H2∧x=val i)
  (mono:∀ i y H H',R i y H→(∀ b o,b≠D→H b=some o→H' b=some o)→(∃ zs,H D=some (.lst zs))→R i y H')
  (step:∀ (i:Nat) H2 (Tt:VK) (Tf:Hp→Prop),i<n→Plain H2→Same H1 H2→(kb i=true→∀ y H6,R i y H6→Same H2 H6→Plain H6→Tt y H6)→(kb i=false→∀ H6,Same H2 H6→Plain H6→Tf H6) →
   g (val i) (List.replicate nt none++caps cap σ) H2 λ σ4 H4=>ti σ4 H4 λ b H5=>if b=true then te σ4 H5 Tt else Tf H5)
  (fin:∀ ys H2,Paired (λ i y=>R i y H2) ((List.range n).filter kb) ys→H2 D=some (.lst ys)→Same H1 H2→Plain H2→Q (.ref D) H2) :
  zat J D nt cap g ti te σ H1 Q:=by
 refine ⟨λ i m ys H2=>m=n - i∧i≤n∧ys.length≤i∧H2 D=some (.lst ys)∧Same H1 H2∧Plain H2∧Paired (λ i y=>R i y H2) ((List.range i).filter kb) ys,⟨_,rfl,Nat.zero_le _,Nat.le_refl _,upd_same,zba hD,hP.lst,.nil⟩,?_⟩
 rintro i m ys H2 ⟨rfl,hi,hl,hd,hs,hp,hr⟩
 refine ⟨hd,?_⟩
 obtain ⟨j1,j2,j3⟩:=hJ i H2 hs
 by_cases hlt:i<n
 ·refine .inr ⟨j1 hlt,by omega,λ v H3 hy=>?_⟩
  obtain ⟨rfl,rfl⟩:=j3 v H3 hlt hy
  refine step i _ _ _ hlt hp hs (λ hk y H6 hR hs6 hp6=>⟨hs6 _ _ hd,_,by omega,rfl,hlt,by simp;omega,upd_same,(hs.trans hs6).upd hD,hp6.lst,?_⟩) (λ hk H6 hs6 hp6=>⟨_,by omega,rfl,hlt,by omega,hs6 _ _ hd,hs.trans hs6,hp6,?_⟩)
  ·have up:∀ b o,b≠D→H6 b=some o→(upd H6 D (.lst (ys++[y]))) b=some o:=λ b o hb e=>by rw [zta hb];exact e
   rw [List.range_succ,List.filter_append,show [i].filter kb=[i] by simp [hk]]
   refine Paired.snoc (Paired.mapP hr λ e' y' hr'=>mono e' y' H6 _ (mono e' y' _ H6 hr' (λ b o _ q=>hs6 b o q) ⟨_,hd⟩) up ⟨_,hs6 _ _ hd⟩) (mono i y H6 _ hR up ⟨_,hs6 _ _ hd⟩)
  ·rw [List.range_succ,List.filter_append,show [i].filter kb=[] by simp [hk],List.append_nil]
   exact Paired.mapP hr λ e' y' hr'=>mono e' y' _ H6 hr' (λ b o _ q=>hs6 b o q) ⟨_,hd⟩
 ·have e:i=n:=by omega
  subst e
  exact .inl ⟨j2,fin ys H2 hr hd hs hp⟩
theorem zwo {α:Type} (as:List α) (d:α):(List.range as.length).map (λ i=>as.getD i d)=as:=by
 refine List.ext_getElem (by simp) λ i h1 h2=>?_
 rw [List.getElem_map,List.getElem_range,List.getD_eq_getElem?_getD,List.getElem?_eq_getElem h2]
 rfl
theorem zjk {α β:Type} (as:List α) (d:α) (kb:α→Bool) (f:α→β):((List.range as.length).filter (λ i=>kb (as.getD i d))).map (λ i=>f (as.getD i d))=(as.filter kb).map f:=by
 have h:=zwo as d
 rw [show (as.filter kb).map f=(((List.range as.length).map (λ i=>as.getD i d)).filter kb).map f by rw [h],List.filter_map,List.map_map]
 rfl
end L2
namespace L2
open PySem PySem.Spec PyProof.Rows PySem.NumText
theorem toE {X:Cx} {e:Expr} {t t':TE} (h:PE X e t) (z:t=t'):PE X e t':=z ▸ h
theorem toS {X:Cx} {e:Stmt} {t t':TS} (h:PS X e t) (z:t=t'):PS X e t':=z ▸ h
end L2
namespace L2
open PySem PySem.Spec PyProof.Rows PySem.NumText
section
variable {prog:Program} {w:World} {A:Around} {E:Value→Shared→Prop} {s:Shared} {d a:Addr} {ds:Array DictEntry} {ep:Nat} {o:Obj}
end
section
variable {X:Cx}
end
end L2
namespace L2
open PySem PySem.Spec PyProof.Rows PySem.NumText
section
variable {prog:Program} {w:World} {A:Around} {E:Value→Shared→Prop} {s:Shared} {d r:Addr} {ds:Array DictEntry} {ep:Nat}
end
section
variable {X:Cx}
end
end L2
namespace L2
open PySem PySem.Spec PyProof.Rows PySem.NumText
end L2
namespace L2
open PySem PySem.Spec PyProof.Rows PySem.NumText
end L2
namespace L2
open PySem PySem.Spec PyProof.Rows PySem.NumText
section
variable {X:Cx} {tg:Expr}
end
end L2
namespace L2
open PySem PySem.Spec PyProof.Rows PySem.NumText
section
variable {prog:Program} {w:World} {A:Around} {E:Value→Shared→Prop} {s:Shared}
end
section
variable {X:Cx}
end
end L2
namespace L2
open PySem PySem.Spec PyProof.Rows PySem.NumText
end L2
namespace L2
open PySem PySem.Spec PyProof.Rows PySem.NumText
section
variable {X:Cx} {tg:Expr}
end
end L2
namespace L2
open PySem PySem.Spec PyProof.Rows PySem.NumText
end L2
namespace L2
open PySem PySem.Spec PyProof.Rows PySem.NumText
end L2
namespace L2
open PySem PySem.Spec PyProof.Rows PySem.NumText PySem.W
section
variable {prog:Program} {w:World} {A:Around} {E:Value→Shared→Prop} {s:Shared} {a:Addr} {vs:List Value}
end
section
variable {X:Cx}
end
end L2
namespace L2
open PySem PySem.Spec PyProof.Rows PySem.NumText PySem.W
noncomputable def EntK (w:World):List DictEntry→List (Str×Value)→Prop
 | [],[]=>True
 | e::es,kv::kvs=>e.hash=hashStr w kv.1∧(∃ t,e.key = .str kv.1 t)∧e.val=kv.2∧EntK w es kvs
 | _,_=>False
noncomputable def DcK (w:World) (K:W.Frag) (d:Addr) (kvs:List (Str×Value)):Prop:=∃ es ep,K.lookup d=some ⟨.type "dict",none,.dict es ep, #[]⟩∧EntK w es.toList kvs∧(kvs.map (·.1)).Nodup
theorem EntK.pairs {P:Program} {w:World}:∀ {es:List DictEntry} {kvs:List (Str×Value)},EntK w es kvs→Pairs (strKind P w) es kvs∧∀ e∈es,∃ k,(strKind P w).is k e.key=true∧e.hash=(strKind P w).hash k:=by
 intro es
 induction es with
 | nil =>
  intro kvs h
  cases kvs with
  | nil=>exact ⟨.nil,λ e he=>absurd he (by simp)⟩
  | cons _ _=>exact False.elim h
 | cons e es ih =>
  intro kvs h
  cases kvs with
  | nil=>exact False.elim h
  | cons kv kvs =>
   obtain ⟨h1,⟨t,h2⟩,h3,h4⟩:=h
   obtain ⟨a,b⟩:=ih h4
   have hi:(strKind P w).is kv.1 e.key=true:=by rw [h2];exact beq_self_eq_true kv.1
   refine ⟨.cons hi h3 a,λ x hx=>?_⟩
   rcases List.mem_cons.mp hx with rfl | hx
   ·exact ⟨kv.1,hi,h1⟩
   ·exact b x hx
theorem DcK.dict {P:Program} {w:World} {K:W.Frag} {d:Addr} {kvs:List (Str×Value)} (D:DcK w K d kvs) {h:Heap} (k:K.In h):h.DictOf (strKind P w) d kvs:=by
 obtain ⟨es,ep,hl,he,nd⟩:=D
 obtain ⟨a,b⟩:=he.pairs (P:=P)
 exact ⟨_,es,ep,k d _ hl,⟨rfl,rfl,rfl⟩,rfl,λ e he=>b e (Array.mem_toList_iff.mpr he),a,nd⟩
section
variable {X:Cx}
variable {CX:CXT} {k:Nat} {E:XK} {x:Str} {p pos:Pos} {e:Expr} {es:List Expr} {t:TA}
end
end L2
namespace L2
open PySem PySem.Spec PyProof.Rows PySem.NumText
section
variable {X:Cx}
end
end L2
namespace L2
open PySem PySem.Spec PyProof.Rows PySem.NumText
end L2
namespace L2
open PySem PySem.Spec PyProof.Rows PySem.NumText
section
variable {X:Cx}
end
end L2
namespace L2
open PySem PySem.Spec PyProof.Rows PySem.NumText
section
variable {X:Cx} {o e z:Expr} {td ty tz:TE}
end
end L2
namespace L2
open PySem PySem.Spec PyProof.Rows PySem.NumText
section
variable {prog:Program} {w:World} {A:Around} {E:Value→Shared→Prop} {R:Result→Shared→Prop} {s:Shared}
end
section
variable {X:Cx}
end
end L2
namespace L2
open PySem PySem.Spec PyProof.Rows PySem.NumText
section
variable {X:Cx}
end
end L2
namespace L2
open PySem PySem.Spec PyProof.Rows PySem.NumText PySem.W
section
variable {X:Cx} {o e:Expr}
noncomputable def zir:Value→Option V
 | .int n _=>some (.int n)
 | .str z _=>some (.str z)
 | .ref a=>some (.ref a)
 | .none=>some .non
 | _=>none
theorem zrg {u:Value} {v:V} (h:zir u=some v):RelV v u:=by
 cases u <;> first | cases h;exact ⟨_,rfl⟩ | cases h;rfl | cases h
noncomputable def zd4 (d:Addr) (kvs:List (Str×Value)) (ty:TE):TE:=λ σ H Q=>ty σ H λ y H1=>∃ k,y = .str k∧((valueAt kvs k=none∧Q .non H1) ∨ ∃ u v,valueAt kvs k=some u∧zir u=some v∧Q v H1)
theorem zcw {d:Addr} {kvs:List (Str×Value)} {ty td:TE} {apos cpos:Pos} (D:DcK X.w X.K d kvs) (hd:(d == sysModules)=false) (ho:PE X o td) (htd:∀ σ H Q,Q (.ref d) H→td σ H Q) (he:PE X e ty) (hbase:attributeBase o "get" X.env (eval o X.env)=eval o X.env:=by rfl)
  (hfew:((backTo cpos (starEach [e] X.env)).all (λ x => !x.1) && (backToKw cpos (keywordEach [] X.env)).all (λ x=>x.1.isSome)
   && decide (([e]:List Expr).length+([]:List Keyword).length+(if ([]:List Keyword).isEmpty then 0 else 1)<30))=true:=by rfl)
  (hline:(apos.endLine == cpos.line)=true:=by rfl) (htr:backTo cpos (starEach [e] X.env)=[(false,eval e X.env)]:=by rfl):PE X (.Call (.Attribute o "get" apos) [e] [] cpos) (zd4 d kvs ty) := .mk <| by
 intro pins s σ H Q I h
 refine wpAny_Call_method hbase hfew hline PySem.F.plainAttrs_dict PySem.F.slot_dict_get PySem.F.type_dict_get (thn (ho pins s σ H (λ v H1=>v = .ref d∧H1=H) I (htd _ _ _ ⟨rfl,rfl⟩)) λ u s1 ⟨x,H1,I1,rx,ex,eH⟩=>?_)
 subst ex eH
 cases rx
 have dd:s1.heap.DictOf (strKind X.prog X.w) d kvs:=D.dict I1.kIn
 refine ⟨dd.typeIs,λ b q=>?_,?_⟩
 ·cases q
  obtain ⟨ob,_,_,h1,h2,_⟩:=dd
  exact ⟨ob,h1,h2.2.1⟩
 rw [htr]
 refine wpAny_dict_get1 (knd:=strKind X.prog X.w) hd (thn (he pins s1 σ H1 _ I1 h) λ kv s2 ⟨y,H2,I2,ry,k,ey,alt⟩=>?_)
 subst ey
 obtain ⟨t,rfl⟩:=ry
 have d2:s2.heap.DictOf (strKind X.prog X.w) d kvs:=D.dict I2.kIn
 refine ⟨k,_,beq_self_eq_true k,d2.mapOf,?_⟩
 rcases alt with ⟨hn,q⟩ | ⟨u,v,hu,hc,q⟩
 ·rw [hn]
  exact ⟨.non,H2,I2.tok _,rfl,q⟩
 ·rw [hu]
  exact ⟨v,H2,I2.tok _,zrg hc,q⟩
noncomputable def rIxC (d:Addr) (kvs:List (Str×Value)):R2:=λ x y H Q=>x = .ref d∧∃ k u v,y = .str k∧valueAt kvs k=some u∧zir u=some v∧Q v H
theorem ix_C {d:Addr} {kvs:List (Str×Value)} (D:DcK X.w X.K d kvs):IxR X (rIxC d kvs):=by
 intro value slice pins s σ H x y v u Q I rx ry h hs
 obtain ⟨rfl,k,u',v',rfl,hf,hc,q⟩:=h
 cases rx
 obtain ⟨t,rfl⟩:=ry
 have dd:s.heap.DictOf (strKind X.prog X.w) d kvs:=D.dict I.kIn
 have hT:s.TypeIs (.ref d) "dict" := dd.typeIs
 have fin:wpAny (model X.prog X.w) X.A (subscripted slice false (.ref d) (.str k t)) (λ r s3=>wpAny (model X.prog X.w) X.A (letTemporaryGo value (.ref d) r >>= λ _=>pure r) (EP X pins σ Q) X.xe s3) X.xe s:=by
  rw [hs]
  refine wpAny_operating (wpAny_getItem_of (knd:=strKind X.prog X.w) (k:=k) (beq_self_eq_true k) dd.mapOf hf ?_)
  exact wpAny_bind (wpAny_letTemporaryGo (wpAny_pure ⟨v',H,I.tok _,zrg hc,q⟩))
 unfold subscriptTail
 refine wpAny_bind ?_
 rw [getitemInPython_of_ne hT.not_modules]
 refine wpAny_bind (wpAny_specialOf hT PySem.F.slot_dict_getitem.lookup ?_)
 first
  | exact wpAny_pure (wpAny_bind fin)
  | exact wpAny_bind (wpAny_pure (wpAny_bind fin))
open Builtin.Str in
noncomputable def zbi (x y:Str) (k:Nat):List Str:=if (decide (x.length<y.length) || decide (PySem.Builtin.Str.strKind x<PySem.Builtin.Str.strKind y))=true then [x] else if (occurrences x y 0 x.length k).isEmpty then [x] else partsBetween x (occurrences x y 0 x.length k) y.length
end
open Builtin.Str in
theorem zqe (s y:Str) (hi k N:Nat):∀ (l:List Nat) (a b:Array Nat×Nat),a.1.toList=b.1.toList.take k→(b.1.size<k→a.2=b.2)→b.1.size+l.length≤N→(forIn l a (StrLaws.occBody s y hi k)).run.fst.toList=(forIn l b (StrLaws.occBody s y hi N)).run.fst.toList.take k
 | [],a,b,h,_,_=>h
 | i::l,a,b,h,hf,hn=>by
  rw [List.forIn_cons,List.forIn_cons]
  unfold StrLaws.occBody
  have hn':b.1.size+1+l.length≤N:=by rw [List.length_cons] at hn;omega
  by_cases hk:b.1.size<k
  ·have ea:a.1.toList=b.1.toList:=by rw [h];exact List.take_of_length_le (by rw [Array.length_toList];omega)
   have es:a.1.size=b.1.size:=by rw [← Array.length_toList,ea,Array.length_toList]
   have ef:=hf hk
   by_cases hc:((b.1.size<N∧b.2≤i)∧i+y.length≤hi)∧subAt s y i=true
   ·have hc':((a.1.size<k∧a.2≤i)∧i+y.length≤hi)∧subAt s y i=true:=⟨⟨⟨by omega,by rw [ef];exact hc.1.1.2⟩,hc.1.2⟩,hc.2⟩
    rw [if_pos hc,if_pos hc']
    refine zqe s y hi k N l _ _ ?_ (λ _=>rfl) (by rw [Array.size_push];omega)
    show (a.1.push i).toList=(b.1.push i).toList.take k
    rw [Array.toList_push,Array.toList_push,ea,List.take_of_length_le (by rw [List.length_append,Array.length_toList];exact hk)]
   ·have hc':¬ (((a.1.size<k∧a.2≤i)∧i+y.length≤hi)∧subAt s y i=true):=λ z=>hc ⟨⟨⟨by omega,by rw [← ef];exact z.1.1.2⟩,z.1.2⟩,z.2⟩
    rw [if_neg hc,if_neg hc']
    exact zqe s y hi k N l _ _ h hf (by show b.1.size+l.length≤N;omega)
  ·have es:a.1.size=k:=by
    rw [← Array.length_toList,h,List.length_take,Array.length_toList]
    omega
   rw [if_neg (λ z=>by have:=z.1.1.1;omega:¬ (((a.1.size<k∧a.2≤i)∧i+y.length≤hi)∧subAt s y i=true))]
   by_cases hc:((b.1.size<N∧b.2≤i)∧i+y.length≤hi)∧subAt s y i=true
   ·rw [if_pos hc]
    refine zqe s y hi k N l _ _ ?_ (λ z=>absurd z (by show ¬ (b.1.push i).size<k;rw [Array.size_push];omega)) (by show (b.1.push i).size+l.length≤N;rw [Array.size_push];omega)
    show a.1.toList=(b.1.push i).toList.take k
    rw [Array.toList_push,List.take_append_of_le_length (by rw [Array.length_toList];omega)]
    exact h
   ·rw [if_neg hc]
    exact zqe s y hi k N l _ _ h (λ z=>absurd z hk) (by show b.1.size+l.length≤N;omega)
noncomputable def cutK (c:Nat) (ps:List Str) (k:Nat):List Str:=if ps.length≤k+1 then ps else ps.take k++[Str.join ⟨#[c]⟩ (ps.drop k)]
theorem zeh (x:Str) (c:Nat):∀ (cuts:List Nat) (a f k:Nat),StrLaws.ChainTo x ⟨#[c]⟩ x.length a cuts f→StrLaws.partsFrom x (⟨#[c]⟩:Str).length a (cuts.take k)=cutK c (StrLaws.partsFrom x (⟨#[c]⟩:Str).length a cuts) k
 | [],a,f,k,h=>by
  rw [List.take_nil]
  unfold cutK
  rw [if_pos (by show 1≤k+1;omega)]
 | i::r,a,f,0,h=>by
  obtain ⟨p,q,e⟩:=StrLaws.partsFrom_ne x (⟨#[c]⟩:Str).length (i+(⟨#[c]⟩:Str).length) r
  have ej:=StrLaws.join_partsFrom x ⟨#[c]⟩ (i::r) a f h
  have hl:¬ (StrLaws.partsFrom x (⟨#[c]⟩:Str).length a (i::r)).length≤0+1:=by
   show ¬ (Builtin.Str.strSub x a i::StrLaws.partsFrom x (⟨#[c]⟩:Str).length (i+(⟨#[c]⟩:Str).length) r).length≤1
   rw [e,List.length_cons,List.length_cons]
   omega
  unfold cutK
  rw [if_neg hl,List.take_zero,List.take_zero,List.drop_zero,ej]
  rfl
 | i::r,a,f,k+1,h=>by
  have ih:=zeh x c r (i+(⟨#[c]⟩:Str).length) f k h.2.2
  show Builtin.Str.strSub x a i::StrLaws.partsFrom x (⟨#[c]⟩:Str).length (i+(⟨#[c]⟩:Str).length) (r.take k)=cutK c (Builtin.Str.strSub x a i::StrLaws.partsFrom x (⟨#[c]⟩:Str).length (i+(⟨#[c]⟩:Str).length) r) (k+1)
  rw [ih]
  unfold cutK
  by_cases hl:(StrLaws.partsFrom x (⟨#[c]⟩:Str).length (i+(⟨#[c]⟩:Str).length) r).length≤k+1
  ·rw [if_pos hl,if_pos (by rw [List.length_cons];omega)]
  ·rw [if_neg hl,if_neg (by rw [List.length_cons];omega),List.take_succ_cons,List.drop_succ_cons,List.cons_append]
theorem zbk (x:Str) (c:Nat) (h1:(decide (x.length<(⟨#[c]⟩:Str).length) || decide (Builtin.Str.strKind x<Builtin.Str.strKind ⟨#[c]⟩))=false):Txt.split x ⟨#[c]⟩=StrLaws.partsFrom x (⟨#[c]⟩:Str).length 0 (Builtin.Str.occurrences x ⟨#[c]⟩ 0 x.length (x.length+1)):=by
 unfold Txt.split
 rw [if_neg (ne_true_of_eq_false h1)]
 split
 ·rename_i he
  rw [List.isEmpty_iff.mp he]
  show [x]=[Builtin.Str.strSub x 0 x.length]
  rw [StrLaws.sub_whole]
 ·rw [StrLaws.partsBetween_eq]
theorem zbp (x:Str) (c k:Nat):zbi x ⟨#[c]⟩ k=cutK c (Txt.split x ⟨#[c]⟩) k:=by
 cases h1:(decide (x.length<(⟨#[c]⟩:Str).length) || decide (Builtin.Str.strKind x<Builtin.Str.strKind ⟨#[c]⟩)) with
 | true =>
  have e1:Txt.split x ⟨#[c]⟩=[x]:=by unfold Txt.split;rw [if_pos h1]
  unfold zbi cutK
  rw [if_pos h1,e1,if_pos (by show 1≤k+1;omega)]
 | false =>
  have et:Builtin.Str.occurrences x ⟨#[c]⟩ 0 x.length k=(Builtin.Str.occurrences x ⟨#[c]⟩ 0 x.length (x.length+1)).take k:=by
   rw [StrLaws.occ_eq,StrLaws.occ_eq]
   exact zqe x ⟨#[c]⟩ x.length k (x.length+1) _ _ _ (by simp) (λ _=>rfl) (by rw [List.length_range'];show 0+_≤_;omega)
  obtain ⟨f,hf⟩:=StrLaws.occ_chain x ⟨#[c]⟩ (x.length+1)
  have ep:=zeh x c _ 0 f k hf
  rw [zbk x c h1,← ep,← et]
  unfold zbi
  rw [if_neg (ne_true_of_eq_false h1)]
  split
  ·rename_i he
   rw [List.isEmpty_iff.mp he]
   show [x]=[Builtin.Str.strSub x 0 x.length]
   rw [StrLaws.sub_whole]
  ·rw [StrLaws.partsBetween_eq]
section
variable {X:Cx}
noncomputable def zjw:V→List V→Hp→VK→Prop:=λ x xs H Q=>∃ z c k,x = .str z∧xs=[.str ⟨#[c]⟩,.int (k:Nat)]∧z.length≤10000∧k<1000∧∀ l,H l=none→Q (.ref l) (upd H l (.lst ((cutK c (Txt.split z ⟨#[c]⟩) k).map V.str)))
theorem zqt (c:Nat) (ps:List Str) (k:Nat):(cutK c ps k).length≤ps.length:=by
 unfold cutK
 split
 ·exact Nat.le_refl _
 ·rw [List.length_append,List.length_take,List.length_singleton]
  omega
open Builtin.Str in
theorem zmo:MtR X "str.split" zjw:=by
 intro pins s σ H x xs v us Q I rx rv h
 obtain ⟨z,c,k,rfl,rfl,hz,hk,q⟩:=h
 obtain ⟨t,rfl⟩:=rx
 cases rv with
 | cons r1 r2 =>
  obtain ⟨t1,rfl⟩:=r1
  obtain ⟨u,rfl,ru⟩:=zlq r2
  obtain ⟨t2,rfl⟩:=ru
  have hl:(10000:Nat)+2≤sizeLine:=by rw [sizeLine_eq];decide
  have hkk:(decide ((k:Int) < -(2 ^ 63:Int)) || decide ((k:Int) ≥ 2 ^ 63))=false:=by
   rw [Bool.or_eq_false_iff]
   exact ⟨decide_eq_false (by omega),decide_eq_false (by omega)⟩
  have elim:limitOf z (k:Int)=k:=by
   unfold limitOf
   rw [if_neg (by omega)]
   rfl
  have hq:∀ (l:List (Str×Tok)) tk,l.map (·.1)=zbi z ⟨#[c]⟩ k→EP X pins σ Q (.ref s.heap.objs.size) { s with heap:=s.heap.push { cls := .type "list",data := .seq (strValues l).toArray },toks:=tk }:=λ l tk e=>by
   rw [zbp] at e
   refine ⟨.ref s.heap.objs.size,_,I.laid (t':=tk) (o := .lst ((cutK c (Txt.split z ⟨#[c]⟩) k).map V.str)) (λ b ob q=>Heap.get?_push_of_some _ q) (Nat.le_refl _) ?_,rfl,q _ (I.hok.fresh (Nat.le_refl _))⟩
   refine ⟨?_,_,0,zjj e,Heap.get?_push_size _ rfl⟩
   have h1:=split_le z ⟨#[c]⟩
   have h2:=zqt c (Txt.split z ⟨#[c]⟩) k
   rw [List.length_map]
   omega
  obtain ⟨raising,htree⟩:=split_sep_max_tree z ⟨#[c]⟩ (k:Int) t t1 t2 hkk
  cases h1:(decide (z.length<(⟨#[c]⟩:Str).length) || decide (PySem.Builtin.Str.strKind z<PySem.Builtin.Str.strKind ⟨#[c]⟩)) with
  | true =>
   refine call_meets F.slot_str_split (typeIs_str _ _ _) F.entry_str_split (F.args_str_split_3 _ _ _) (S:=λ _ R s=>R (.ok (.ret (.ref s.heap.objs.size))) { s with heap:=s.heap.push { cls := .type "list",data := .seq #[.str z t] } }) (.of_wp λ prog w A R s h=>?_) (hq [(z,t)] _ (by unfold zbi;rw [if_pos h1];rfl))
   rw [htree,if_pos h1]
   exact wpAny_bind (wpAny_rule (wpAny_bind (wpAny_newList (wpAny_pure ⟨_,rfl,h⟩) (by show 1≤sizeLine;decide))))
  | false =>
   have hy:((⟨#[c]⟩:Str).length == 0)=false:=rfl
   cases he:(occurrences z ⟨#[c]⟩ 0 z.length k).isEmpty with
   | true =>
    refine call_meets F.slot_str_split (typeIs_str _ _ _) F.entry_str_split (F.args_str_split_3 _ _ _) (S:=λ _ R s=>R (.ok (.ret (.ref s.heap.objs.size))) { s with heap:=s.heap.push { cls := .type "list",data := .seq #[.str z t] } }) (.of_wp λ prog w A R s h=>?_) (hq [(z,t)] _ (by unfold zbi;rw [if_neg (ne_true_of_eq_false h1),if_pos he];rfl))
    rw [htree,if_neg (ne_true_of_eq_false h1),if_neg (ne_true_of_eq_false hy),elim,he]
    exact wpAny_bind (wpAny_rule (wpAny_bind (wpAny_newList (wpAny_pure ⟨_,rfl,h⟩) (by show 1≤sizeLine;decide))))
   | false =>
    have hpl:(partsBetween z (occurrences z ⟨#[c]⟩ 0 z.length (limitOf z (k:Int))) (⟨#[c]⟩:Str).length).length≤sizeLine:=by
     rw [len_partsBetween,elim]
     have:=StrLaws.occ_length_le z ⟨#[c]⟩ 0 z.length k
     omega
    refine call_meets F.slot_str_split (typeIs_str _ _ _) F.entry_str_split (F.args_str_split_3 _ _ _) (meets_str_split_sep_max z ⟨#[c]⟩ (k:Int) t t1 t2 hkk h1 hy (by rw [elim];exact he) (by omega) hpl) ?_
    rw [elim]
    show wants _ _ _ { s with toks:=_,heap:=s.heap.push { cls := .type "list",data := .seq (strsFrom s.toks (partsBetween z (occurrences z ⟨#[c]⟩ 0 z.length k) (⟨#[c]⟩:Str).length)).toArray } }
    rw [strsFrom_eq]
    exact hq (numbered s.toks _) _ ((numbered_texts _ _).trans (by unfold zbi;rw [if_neg (ne_true_of_eq_false h1),if_neg (ne_true_of_eq_false he)]))
end
end L2
namespace L2
open PySem PySem.Spec PyProof.Rows PySem.NumText PySem.W
section
variable {prog:Program} {w:World} {A:Around} {E:Value→Shared→Prop} {s:Shared}
theorem zhm {l:Addr} {v0:Value} {its:List Value} {Q:List Value→Shared→Prop} (nh:A.handled=none) (pl:s.heap.IsList l (v0::its).toArray) (hz:its.length+1≤sizeLine)
  (q:∀ (hp:Heap) (tk:Nat),(∀ b o,s.heap.get? b=some o→hp.get? b=some o)→Q [v0,.ref hp.objs.size] { s with heap:=hp.push { cls := .type "list",data := .seq its.toArray },toks:=tk }):wpAny (model prog w) A (unpackItems (.ref l) 2 (some 1)) Q E s:=by
 have nl:l≠s.heap.objs.size:=by obtain ⟨o,ho,_⟩:=pl;exact Nat.ne_of_lt (Heap.lt_size ho)
 unfold unpackItems notIterableAtAll
 refine wpAny_bind (wpAny_bind (wpAny_specialOf pl.typeIs slot_list_iter.lookup (wpAny_pure ?_)))
 simp only [Bool.false_eq_true,if_false]
 refine wpAny_bind (wpAny_holding (wpAny_pyIter_list pl ?_))
 have i0:(s.heap.push { cls := .type "list_iterator",data := .fields #[.ref l,.int 0 0] }).IsListIter s.heap.objs.size l 0:=⟨_,Heap.get?_push_size _ rfl,rfl,rfl⟩
 refine wpAny_bind (wpAny_holding (kun_draw nl 1 0 _ _ i0 (pl.push _) (by simp) λ k1 j1 sb1=>?_))
 have pk:k1.IsList l (v0::its).toArray:=(pl.push _).extBut sb1.extBut nl
 have j1':=j1
 have pk':=pk
 obtain ⟨oj,hoj,_⟩:=j1'
 obtain ⟨ok,hok,_⟩:=pk'
 have e1:((v0::its).toArray.toList.drop 0).take 1=[v0]:=by simp
 rw [e1]
 rw [if_neg (show ¬ ([v0].length<1) by simp)]
 refine wpAny_bind (wpAny_holding (kun_collect (s:={ s with heap:=k1 }) (T := "list_iterator") (.inr (.inr (.inl rfl))) (Walks.list (A:=A.in1) nh s.heap.objs.size l nl (v0::its).toArray) (λ _ _ z=>z.1.typeIs) (k:=1) (by simp) ⟨j1,pk⟩ (Heap.lt_size hoj) (Heap.lt_size hok) (λ k2 tk kk=>?_) (by simpa using hz)))
 have e2:(v0::its).toArray.toList.drop 1=its:=by simp
 rw [e2]
 show wpAny _ _ (if its.length<2 - 1 - 1 then _ else _) _ _ _
 rw [if_neg (by omega)]
 show wpAny _ _ (newList (its.take (its.length - (2 - 1 - 1))) >>= λ d=>pure ([v0]++[d]++its.drop (its.length - (2 - 1 - 1)))) _ _ _
 have e3:its.take (its.length - (2 - 1 - 1))=its:=List.take_of_length_le (by omega)
 have e4:its.drop (its.length - (2 - 1 - 1))=[]:=List.drop_of_length_le (by omega)
 rw [e3,e4]
 refine wpAny_bind (wpAny_newList (wpAny_pure (q k2 tk λ b o z=>kk b o (Nat.ne_of_lt (Heap.lt_size z)) (sb1.extBut b o (Nat.ne_of_lt (Heap.lt_size z)) (Heap.get?_push_of_some _ z)))) (by omega))
end
section
variable {X:Cx}
noncomputable def zv3 (K:W.Frag) (t:TGs):TG:=λ v σ H Q=>∃ a x xs,v = .ref a∧SqL K H a (x::xs)∧∀ D,H D=none→t [x,.ref D] σ (upd H D (.lst xs)) Q
theorem zrt {pos:Pos} {es:List Expr} {k:Nat} {t:TGs} (hc:X.calm=true) (h:PGs X es t) (hn:(assignEach es X.env).length=2:=by rfl) (hst:(assignEach es X.env).findIdx? (·.1)=some 1:=by rfl):PG X (.Tuple es k pos) (zv3 X.K t) := .mk <| by
 intro pins s σ H v u Q I r hw
 obtain ⟨a,x,xs,e1,hq,hw⟩:=hw
 subst e1
 cases r
 obtain ⟨its,rv,pl,hz⟩:=I.list hq
 cases rv with
 | @cons _ v0 _ vs r0 rr =>
  rw [assign_Tuple]
  refine wpAny_bind (wpAny_standAt ?_)
  unfold unpack
  rw [hn,hst]
  have hl:vs.length+1≤sizeLine:=by rw [← rr.length];exact hz
  refine wpAny_bind (wpAny_holding (zhm (I.ok.hd hc) pl.isList hl λ hp tk kk=>?_))
  have I1:Inv X pins σ H { s with heap:=hp,toks:=tk }:=I.kept (t':=tk) kk
  have I2:Inv X pins σ (upd H hp.objs.size (.lst xs)) { s with heap:=hp.push { cls := .type "list",data := .seq vs.toArray },toks:=tk }:=I1.laid (t':=tk) (o := .lst xs) (λ b ob q=>Heap.get?_push_of_some _ q) (Nat.le_refl _) ⟨by rw [rr.length];omega,vs,0,rr,Heap.get?_push_size _ rfl⟩
  exact h pins _ σ _ [x,.ref hp.objs.size] _ Q I2 (.cons r0 (.cons rfl .nil)) (hw _ (I1.hok.fresh (Nat.le_refl _)))
theorem zxs {e:Expr} {sp:Pos} {t:TG} (h1:PG X e t):PGs X [.Starred e sp] (zxw t gNil) := .mk <| by
 intro pins s σ H vs us Q I r h
 obtain ⟨v,vr,e1,h⟩:=h
 subst e1
 cases r with
 | cons r rr =>
  rw [show (assignEach [Expr.Starred e sp] X.env).map (·.2)=[assign e X.env] from rfl]
  refine assignInOrder_cons (thn (h1 pins s σ H _ _ _ I r h) λ _ s1 ⟨σ1,H1,I1,q1,q2⟩=>?_)
  subst q1
  cases rr
  exact assignInOrder_nil ⟨σ1,H1,I1,q2⟩
end
end L2
namespace L2
open PySem PySem.Spec PyProof.Rows PySem.NumText PySem.W
noncomputable def SeqH (b:Bool) (h:Heap) (a:Addr) (v:Array Value):Prop:=if b=true then h.IsTuple a v else h.IsList a v
noncomputable def ItrH (b:Bool) (h:Heap) (j a:Addr) (i:Nat):Prop:=if b=true then h.IsTupleIter j a i else h.IsListIter j a i
theorem ItrH.keep {b:Bool} {h h':Heap} {j a:Addr} {i:Nat} (x:ItrH b h j a i) (k:∀ o,h.get? j=some o→h'.get? j=some o):ItrH b h' j a i:=by
 cases b with
 | true=>obtain ⟨o,ho,z⟩:=x;exact ⟨o,k o ho,z⟩
 | false=>obtain ⟨o,ho,z⟩:=x;exact ⟨o,k o ho,z⟩
theorem SeqH.keep {b:Bool} {h h':Heap} {a:Addr} {v:Array Value} (x:SeqH b h a v) (k:∀ o,h.get? a=some o→h'.get? a=some o):SeqH b h' a v:=by
 cases b with
 | true=>obtain ⟨o,ho,z⟩:=x;exact ⟨o,k o ho,z⟩
 | false=>obtain ⟨o,ho,z⟩:=x;exact ⟨o,k o ho,z⟩
theorem ItrH.ob {b:Bool} {h:Heap} {j a:Addr} {i:Nat} (x:ItrH b h j a i):∃ o,h.get? j=some o∧∀ v,o.data ≠ .cell v:=by
 cases b with
 | true=>obtain ⟨o,ho,_,d⟩:=x;exact ⟨o,ho,λ v z=>by rw [d] at z;cases z⟩
 | false=>obtain ⟨o,ho,_,d⟩:=x;exact ⟨o,ho,λ v z=>by rw [d] at z;cases z⟩
theorem SeqH.ob {b:Bool} {h:Heap} {a:Addr} {v:Array Value} (x:SeqH b h a v):∃ o,h.get? a=some o:=by
 cases b with
 | true=>obtain ⟨o,ho,_⟩:=x;exact ⟨o,ho⟩
 | false=>obtain ⟨o,ho,_⟩:=x;exact ⟨o,ho⟩
section
variable {prog:Program} {w:World} {A:Around} {E:Value→Shared→Prop} {s:Shared}
theorem zsq {b:Bool} {j a:Addr} {i:Nat} {v:Array Value} {x:Value} {Q:Value→Shared→Prop} (hj:ItrH b s.heap j a i) (ha:SeqH b s.heap a v) (hv:v[i]? = some x)
  (q:∀ h',ItrH b h' j a (i+1)→Heap.SameBut j s.heap h'→Q x { s with heap:=h' }):wpAny (model prog w) A (Builtin.SmallTypes.nextOf (.ref j)) Q E s:=by
 cases b with
 | false=>exact wpAny_nextOf_list_item hj ha hv q
 | true =>
  have hj:s.heap.IsTupleIter j a i:=hj
  obtain ⟨o,ho,hc,hd⟩:=id hj
  obtain ⟨oa,hoa,_,na,hda⟩:=ha
  unfold Builtin.SmallTypes.nextOf
  refine wpAny_bind (wpAny_callSpecial?_slot (name:=Str.ofString "__next__") hj.typeIs F.slot_tuple_iterator_next (wpAny_call_entry F.slot_tuple_iterator_next hj.typeIs F.entry_tuple_iterator_next ?_ (F.args_tuple_iterator_next_1 _)))
  show wpAny _ _ (field (.ref j) 0 >>= _) _ _ s
  refine wpAny_bind (wpAny_field ho hd (x := .ref a) rfl ?_)
  show wpAny _ _ (if (Value.ref a == Value.none)=true then _ else _) _ _ s
  rw [if_neg (show ¬ ((Value.ref a == Value.none)=true) from Bool.false_ne_true)]
  show wpAny _ _ (field (.ref j) 1 >>= _) _ _ s
  refine wpAny_bind (wpAny_field ho hd (x := .int (i:Nat) 0) rfl ?_)
  show wpAny _ _ (seqItems? (.ref a) >>= _) _ _ s
  refine wpAny_bind (wpAny_seqItems hoa hda ?_)
  simp only [Int.toNat_natCast,hv]
  refine wpAny_bind (wpAny_setField ho hd (by simp) (wpAny_pure ⟨x,rfl,wpAny_pure (q _ ?_ (Heap.SameBut.update ..))⟩))
  exact ⟨_,Heap.get?_update_self _ ho (Obj.isFreed_of_fields (Obj.data_mapFields hd _)),(Obj.cls_mapFields ..).trans hc,by rw [Obj.data_mapFields hd];simp [rawInt]⟩
theorem zm0 {b:Bool} {j a:Addr} {i:Nat} {v:Array Value} {Q:Value→Shared→Prop} (nh:A.handled=none) (hj:ItrH b s.heap j a i) (ha:SeqH b s.heap a v) (hv:v[i]? = none)
  (q:∀ h' e,Heap.ExtBut j s.heap h'→(∃ o,h'.get? e=some o∧o.cls = .type "StopIteration")→E (.ref e) { s with heap:=h' }):wpAny (model prog w) A (Builtin.SmallTypes.nextOf (.ref j)) Q E s:=by
 cases b with
 | false=>exact wpAny_nextOf_list_end nh hj ha hv q
 | true =>
  have hj:s.heap.IsTupleIter j a i:=hj
  obtain ⟨o,ho,hc,hd⟩:=id hj
  obtain ⟨oa,hoa,_,na,hda⟩:=ha
  unfold Builtin.SmallTypes.nextOf
  refine wpAny_bind (wpAny_callSpecial?_slot (name:=Str.ofString "__next__") hj.typeIs F.slot_tuple_iterator_next (wpAny_call_entry F.slot_tuple_iterator_next hj.typeIs F.entry_tuple_iterator_next ?_ (F.args_tuple_iterator_next_1 _)))
  show wpAny _ _ (field (.ref j) 0 >>= _) _ _ s
  refine wpAny_bind (wpAny_field ho hd (x := .ref a) rfl ?_)
  show wpAny _ _ (if (Value.ref a == Value.none)=true then _ else _) _ _ s
  rw [if_neg (show ¬ ((Value.ref a == Value.none)=true) from Bool.false_ne_true)]
  show wpAny _ _ (field (.ref j) 1 >>= _) _ _ s
  refine wpAny_bind (wpAny_field ho hd (x := .int (i:Nat) 0) rfl ?_)
  show wpAny _ _ (seqItems? (.ref a) >>= _) _ _ s
  refine wpAny_bind (wpAny_seqItems hoa hda ?_)
  simp only [Int.toNat_natCast,hv]
  refine wpAny_bind (wpAny_rule (wpAny_bind (wpAny_setField ho hd (by simp) (show wpAny _ _ (newExc (.type "StopIteration") [] >>= _) _ _ _ from wpAny_bind ?_))))
  simp only [newExc,newTuple]
  refine wpAny_bind (wpAny_newObj_type (wpAny_bind (m:=firstArgMember _ _) (wpAny_of_eq (a:=Value.none) (by first | rfl | (simp only [firstArgMember];rfl)) (wpAny_newObj_type ?_ (by size_fits)))) (by size_fits))
  simp only [raiseNew]
  refine wpAny_bind (wpAny_handled ?_)
  first | rw [show A.in1.handled=none from nh] | rw [nh]
  exact wpAny_bind (wpAny_pure (wpAny_throw (q _ _ (((Heap.SameBut.update ..).extBut.push _).push _) ⟨_,Heap.get?_push_size _ rfl,rfl⟩)))
end
end L2
namespace L2
open PySem PySem.Spec PyProof.Rows PySem.NumText PySem.W
structure Apt (z t p j k:Addr):Prop where
 tz:t≠z
 pz:p≠z
 jz:j≠z
 kz:k≠z
 tp:t≠p
 tj:t≠j
 tk:t≠k
 pj:p≠j
 pk:p≠k
 jk:j≠k
section
variable {prog:Program} {w:World} {A:Around} {E:Value→Shared→Prop} {s:Shared}
theorem zk1 {b b2:Bool} {z t p j k a c:Addr} {i:Nat} {vs us:Array Value} {x y e f:Value} {Q:Value→Shared→Prop} (D:Apt z t p j k) (hz:IsZip s.heap z t p .none) (ht:IsPair s.heap t (.ref j) (.ref k)) (hp:IsPair s.heap p e f)
  (hj:ItrH b s.heap j a i) (hk:ItrH b2 s.heap k c i) (ha:SeqH b s.heap a vs) (hc:SeqH b2 s.heap c us) (an:a≠z∧a≠p∧a≠j∧a≠k) (cn:c≠z∧c≠p∧c≠j∧c≠k) (hx:vs[i]? = some x) (hy:us[i]? = some y)
  (q:∀ h',IsZip h' z t p (rawInt s.heap.objs.size)→IsPair h' p x y→ItrH b h' j a (i+1)→ItrH b2 h' k c (i+1)→IsPair h' s.heap.objs.size x y→(∀ d o,d≠z→d≠p→d≠j→d≠k→s.heap.get? d=some o→h'.get? d=some o)→Q (.ref s.heap.objs.size) { s with heap:=h' }) :
  wpAny (model prog w) A (Builtin.«zip.__next__» ⟨[.ref z],[]⟩) (λ r s'=>∃ v,r = .done (.ret v)∧Q v s') E s:=by
 show wpAny _ _ (field (.ref z) 2 >>= _) _ _ _
 refine wpAny_bind (wpAny_field hz rfl (x := .bool false) rfl (show wpAny _ _ (field (.ref z) 3 >>= _) _ _ _ from wpAny_bind (wpAny_field hz rfl (x := .ref t) rfl (wpAny_bind (wpAny_seqItems ht rfl ?_)))))
 show wpAny _ _ (Builtin.SmallTypes.ownedTupleIsFree (.ref z) >>= _) _ _ _
 unfold Builtin.SmallTypes.ownedTupleIsFree
 refine wpAny_bind (wpAny_bind (wpAny_field hz rfl (x := .none) rfl (wpAny_pure ?_)))
 simp only [if_true]
 refine wpAny_bind (wpAny_rule (wpAny_bind (wpAny_field hz rfl (x := .ref p) rfl (wpAny_bind (wpAny_setField_rec hz (by simp) λ k1 z1 s1=>?_)))))
 have z1:IsZip k1 z t p .ellipsis:=z1
 refine wpAny_bind ?_
 simp only [List.zipIdx_cons,List.zipIdx_nil,List.forIn_cons,List.forIn_nil]
 refine wpAny_bind (wpAny_bind (wpAny_onRaise (show wpAny _ _ (Builtin.SmallTypes.nextOf (.ref j) >>= _) _ _ _ from wpAny_bind ?_)))
 refine zsq (s:={ s with heap:=k1 }) (hj.keep λ o q=>s1.extBut _ _ D.jz q) (ha.keep λ o q=>s1.extBut _ _ an.1 q) hx λ k2 j2 s2=>wpAny_pure ?_
 have p2:IsPair k2 p e f:=s2.extBut _ _ D.pj (s1.extBut _ _ D.pz hp)
 refine wpAny_bind (wpAny_seqItems p2 rfl (wpAny_bind (wpAny_updateSeq_pair p2 λ k3 p3 s3=>?_)))
 have p3:IsPair k3 p x f:=p3
 refine wpAny_bind (wpAny_letGo (wpAny_pure ?_))
 refine wpAny_bind (wpAny_bind (wpAny_onRaise (show wpAny _ _ (Builtin.SmallTypes.nextOf (.ref k) >>= _) _ _ _ from wpAny_bind ?_)))
 have hk3:ItrH b2 k3 k c i:=hk.keep λ o q=>s3.extBut _ _ D.pk.symm (s2.extBut _ _ D.jk.symm (s1.extBut _ _ D.kz q))
 have hc3:SeqH b2 k3 c us:=hc.keep λ o q=>s3.extBut _ _ cn.2.1 (s2.extBut _ _ cn.2.2.1 (s1.extBut _ _ cn.1 q))
 refine zsq (s:={ s with heap:=k3 }) hk3 hc3 hy λ k4 j4 s4=>wpAny_pure ?_
 have p4:IsPair k4 p x f:=s4.extBut _ _ D.pk p3
 refine wpAny_bind (wpAny_seqItems p4 rfl (wpAny_bind (wpAny_updateSeq_pair p4 λ k5 p5 s5=>?_)))
 have p5:IsPair k5 p x y:=p5
 refine wpAny_bind (wpAny_letGo (wpAny_pure (wpAny_pure ?_)))
 refine wpAny_bind (wpAny_seqItems p5 rfl (wpAny_bind (wpAny_newTuple ?_)))
 have zz:k5.objs.size=s.heap.objs.size:=by rw [s5.1,s4.1,s3.1,s2.1,s1.1]
 have z5:IsZip k5 z t p .ellipsis:=s5.extBut _ _ D.pz.symm (s4.extBut _ _ D.kz.symm (s3.extBut _ _ D.pz.symm (s2.extBut _ _ D.jz.symm z1)))
 have all5:∀ d o,d≠z→d≠p→d≠j→d≠k→s.heap.get? d=some o→k5.get? d=some o:=λ d o d1 d2 d3 d4 q=>s5.extBut _ _ d2 (s4.extBut _ _ d4 (s3.extBut _ _ d2 (s2.extBut _ _ d3 (s1.extBut _ _ d1 q))))
 have j5:ItrH b k5 j a (i+1):=j2.keep λ o q=>s5.extBut _ _ D.pj.symm (s4.extBut _ _ D.jk (s3.extBut _ _ D.pj.symm q))
 have l5:ItrH b2 k5 k c (i+1):=j4.keep λ o q=>s5.extBut _ _ D.pk.symm q
 have zlt:z<k5.objs.size:=Heap.lt_size z5
 have z6:IsZip (k5.push { cls := .type "tuple",data := .seq #[x,y] }) z t p .ellipsis:=Heap.get?_push_of_some _ z5
 show wpAny _ _ (Builtin.SmallTypes.ownedTupleHandOut (.ref z) (.ref k5.objs.size) >>= _) _ _ _
 unfold Builtin.SmallTypes.ownedTupleHandOut
 refine wpAny_bind (wpAny_bind (wpAny_setField_rec z6 (by simp) λ k7 z7 s7=>?_))
 have z7:IsZip k7 z t p (rawInt k5.objs.size):=z7
 refine wpAny_setField_rec z7 (by simp) λ k8 z8 s8=>?_
 have z8:IsZip k8 z t p (rawInt k5.objs.size):=z8
 have up:∀ d o,d≠z→k5.get? d=some o→k8.get? d=some o:=λ d o d1 q=>s8.extBut _ _ d1 (s7.extBut _ _ d1 (Heap.get?_push_of_some _ q))
 have t8:IsPair k8 k5.objs.size x y:=s8.extBut _ _ (Nat.ne_of_gt zlt) (s7.extBut _ _ (Nat.ne_of_gt zlt) (Heap.get?_push_size _ rfl))
 rw [zz] at z8 t8
 refine wpAny_pure ⟨_,rfl,?_⟩
 show Q (.ref k5.objs.size) _
 rw [zz]
 exact q k8 z8 (up _ _ D.pz p5) (j5.keep λ o q=>up _ o D.jz q) (l5.keep λ o q=>up _ o D.kz q) t8 λ d o d1 d2 d3 d4 q=>up d o d1 (all5 d o d1 d2 d3 d4 q)
theorem zxr {b:Bool} {z t p j k a:Addr} {i:Nat} {vs:Array Value} {e f:Value} {Q:Fin→Shared→Prop} (nh:A.handled=none) (D:Apt z t p j k) (hz:IsZip s.heap z t p .none) (ht:IsPair s.heap t (.ref j) (.ref k)) (hp:IsPair s.heap p e f)
  (hj:ItrH b s.heap j a i) (ha:SeqH b s.heap a vs) (an:a≠z) (hx:vs[i]? = none)
  (q:∀ h' e,(∀ d o,d≠z→d≠j→s.heap.get? d=some o→h'.get? d=some o)→(∃ o,h'.get? e=some o∧o.cls = .type "StopIteration")→E (.ref e) { s with heap:=h' }):wpAny (model prog w) A (Builtin.«zip.__next__» ⟨[.ref z],[]⟩) Q E s:=by
 show wpAny _ _ (field (.ref z) 2 >>= _) _ _ _
 refine wpAny_bind (wpAny_field hz rfl (x := .bool false) rfl (show wpAny _ _ (field (.ref z) 3 >>= _) _ _ _ from wpAny_bind (wpAny_field hz rfl (x := .ref t) rfl (wpAny_bind (wpAny_seqItems ht rfl ?_)))))
 show wpAny _ _ (Builtin.SmallTypes.ownedTupleIsFree (.ref z) >>= _) _ _ _
 unfold Builtin.SmallTypes.ownedTupleIsFree
 refine wpAny_bind (wpAny_bind (wpAny_field hz rfl (x := .none) rfl (wpAny_pure ?_)))
 simp only [if_true]
 refine wpAny_bind (wpAny_rule (wpAny_bind (wpAny_field hz rfl (x := .ref p) rfl (wpAny_bind (wpAny_setField_rec hz (by simp) λ k1 z1 s1=>?_)))))
 have z1:IsZip k1 z t p .ellipsis:=z1
 refine wpAny_bind ?_
 simp only [List.zipIdx_cons,List.zipIdx_nil,List.forIn_cons,List.forIn_nil]
 refine wpAny_bind (wpAny_bind (wpAny_onRaise (show wpAny _ _ (Builtin.SmallTypes.nextOf (.ref j) >>= _) _ _ _ from wpAny_bind ?_)))
 refine zm0 (s:={ s with heap:=k1 }) nh (hj.keep λ o q=>s1.extBut _ _ D.jz q) (ha.keep λ o q=>s1.extBut _ _ an q) hx λ k2 e s2 he=>?_
 obtain ⟨oe,hoe,hce⟩:=he
 have z2:IsZip k2 z t p .ellipsis:=s2 _ _ D.jz.symm z1
 have ez:e≠z:=λ x=>by subst x;rw [z2] at hoe;cases hoe;simp at hce
 exact wpAny_setField_rec z2 (by simp) λ k3 _ s3=>q k3 e (λ d o d1 d2 q=>s3.extBut _ _ d1 (s2 _ _ d2 (s1.extBut _ _ d1 q))) ⟨oe,s3.extBut _ _ ez hoe,hce⟩
theorem zyq {b b2:Bool} {z t p j k a c:Addr} {i:Nat} {vs us:Array Value} {x y e f:Value} {Q:Option Value→Shared→Prop} (D:Apt z t p j k) (hz:IsZip s.heap z t p .none) (ht:IsPair s.heap t (.ref j) (.ref k)) (hp:IsPair s.heap p e f)
  (hj:ItrH b s.heap j a i) (hk:ItrH b2 s.heap k c i) (ha:SeqH b s.heap a vs) (hc:SeqH b2 s.heap c us) (an:a≠z∧a≠p∧a≠j∧a≠k) (cn:c≠z∧c≠p∧c≠j∧c≠k) (hx:vs[i]? = some x) (hy:us[i]? = some y)
  (q:∀ h',IsZip h' z t p (rawInt s.heap.objs.size)→IsPair h' p x y→ItrH b h' j a (i+1)→ItrH b2 h' k c (i+1)→IsPair h' s.heap.objs.size x y→(∀ d o,d≠z→d≠p→d≠j→d≠k→s.heap.get? d=some o→h'.get? d=some o)→Q (some (.ref s.heap.objs.size)) { s with heap:=h' }):wpAny (model prog w) A (pyNext (.ref z)) Q E s:=by
 have hT:s.TypeIs (.ref z) "zip" := ⟨_,hz,rfl⟩
 unfold pyNext
 exact wpAny_bind (wpAny_attempt (wpAny_callSpecial?_slot (name:=Str.ofString "__next__") hT F.slot_zip_next (wpAny_call_entry F.slot_zip_next hT F.entry_zip_next (zk1 D hz ht hp hj hk ha hc an cn hx hy λ h' a1 a2 a3 a4 a5 a6=>wpAny_pure (q h' a1 a2 a3 a4 a5 a6)) (F.args_zip_next_1 _))))
theorem zgr {b:Bool} {z t p j k a:Addr} {i:Nat} {vs:Array Value} {e f:Value} {Q:Option Value→Shared→Prop} (nh:A.handled=none) (D:Apt z t p j k) (hz:IsZip s.heap z t p .none) (ht:IsPair s.heap t (.ref j) (.ref k)) (hp:IsPair s.heap p e f)
  (hj:ItrH b s.heap j a i) (ha:SeqH b s.heap a vs) (an:a≠z) (hx:vs[i]? = none) (q:∀ h',(∀ d o,d≠z→d≠j→s.heap.get? d=some o→h'.get? d=some o)→Q none { s with heap:=h' }):wpAny (model prog w) A (pyNext (.ref z)) Q E s:=by
 have hT:s.TypeIs (.ref z) "zip" := ⟨_,hz,rfl⟩
 unfold pyNext
 refine wpAny_bind (wpAny_attempt (wpAny_callSpecial?_slot (name:=Str.ofString "__next__") hT F.slot_zip_next (wpAny_call_entry F.slot_zip_next hT F.entry_zip_next (zxr nh D hz ht hp hj ha an hx λ h' e kk he=>?_) (F.args_zip_next_1 _))))
 obtain ⟨o,ho,hc⟩:=he
 exact wpAny_bind (wpAny_isInstance (T := "StopIteration") (b:=true) ⟨o,ho,hc⟩ isSubtype_stop (wpAny_pure (q _ kk)))
end
noncomputable def itO (b:Bool) (a:Addr):Obj:={ cls := .type (if b=true then "tuple_iterator" else "list_iterator"),data := .fields #[.ref a,.int 0 0] }
noncomputable abbrev za (b:Bool) (h:Heap) (a:Addr):Heap:=h.push (itO b a)
noncomputable abbrev zb (b b2:Bool) (h:Heap) (a c:Addr):Heap:=(za b h a).push (itO b2 c)
noncomputable abbrev zc (b b2:Bool) (h:Heap) (a c:Addr):Heap:=(zb b b2 h a c).push { cls := .type "tuple",data := .seq #[.ref h.objs.size,.ref (za b h a).objs.size] }
noncomputable abbrev zd (b b2:Bool) (h:Heap) (a c:Addr):Heap:=(zc b b2 h a c).push { cls := .type "tuple",data := .seq #[.none,.none] }
noncomputable abbrev ze (b b2:Bool) (h:Heap) (a c:Addr):Heap:=(zd b b2 h a c).push { cls := .type "zip",data := .fields #[.none,.bool false,.bool false,.ref (zb b b2 h a c).objs.size,.ref (zc b b2 h a c).objs.size] }
set_option maxHeartbeats 4000000 in
theorem zcm (b b2:Bool) (a c:Addr) (vs us:Array Value) :
  Meets (Builtin.«zip.__new__» ⟨[.type "zip",.ref a,.ref c],[]⟩) (λ _ R s=>SeqH b s.heap a vs∧SeqH b2 s.heap c us∧R (.ok (.ret (.ref (zd b b2 s.heap a c).objs.size))) { s with heap:=ze b b2 s.heap a c }) :=
 .of_wp λ prog w A R s h=>by
  obtain ⟨h0,g,d,tk,os⟩:=s
  obtain ⟨ha,hc,q⟩:=h
  have hsub:=sub_zip
  cases b with
  | false =>
   have l1:Heap.IsList (Shared.heap ⟨h0,g,d,tk,os⟩) a vs:=ha
   cases b2 with
   | false =>
    have l2:Heap.IsList (Shared.heap ⟨h0.push { cls := .type "list_iterator",data := .fields #[.ref a,.int 0 0] },g,d,tk,os⟩) c us:=Heap.IsList.push hc _
    wp_walk using wpAny_pyIter_list l1,wpAny_pyIter_list l2
    exact ⟨_,rfl,q⟩
   | true =>
    have l2:Heap.IsTuple (Shared.heap ⟨h0.push { cls := .type "list_iterator",data := .fields #[.ref a,.int 0 0] },g,d,tk,os⟩) c us:=Heap.IsTuple.push hc _
    wp_walk using wpAny_pyIter_list l1,wpAny_pyIter_tuple l2
    exact ⟨_,rfl,q⟩
  | true =>
   have l1:Heap.IsTuple (Shared.heap ⟨h0,g,d,tk,os⟩) a vs:=ha
   cases b2 with
   | false =>
    have l2:Heap.IsList (Shared.heap ⟨h0.push { cls := .type "tuple_iterator",data := .fields #[.ref a,.int 0 0] },g,d,tk,os⟩) c us:=Heap.IsList.push hc _
    wp_walk using wpAny_pyIter_tuple l1,wpAny_pyIter_list l2
    exact ⟨_,rfl,q⟩
   | true =>
    have l2:Heap.IsTuple (Shared.heap ⟨h0.push { cls := .type "tuple_iterator",data := .fields #[.ref a,.int 0 0] },g,d,tk,os⟩) c us:=Heap.IsTuple.push hc _
    wp_walk using wpAny_pyIter_tuple l1,wpAny_pyIter_tuple l2
    exact ⟨_,rfl,q⟩
section
variable {prog:Program} {w:World} {A:Around} {E:Value→Shared→Prop} {s:Shared}
theorem zlp {b b2:Bool} {a c:Addr} {vs us:Array Value} {Q:Value→Shared→Prop} (ha:SeqH b s.heap a vs) (hc:SeqH b2 s.heap c us)
  (q:∀ h',IsZip h' (s.heap.objs.size+4) (s.heap.objs.size+2) (s.heap.objs.size+3) .none→IsPair h' (s.heap.objs.size+2) (.ref s.heap.objs.size) (.ref (s.heap.objs.size+1))→IsPair h' (s.heap.objs.size+3) .none .none →
   ItrH b h' s.heap.objs.size a 0→ItrH b2 h' (s.heap.objs.size+1) c 0→(∀ d o,s.heap.get? d=some o→h'.get? d=some o)→Q (.ref (s.heap.objs.size+4)) { s with heap:=h' }):wpAny (model prog w) A (call (.type "zip") [.ref a,.ref c]) Q E s:=by
 refine callType_new F.called_zip (by decide) (F.typeCall_zip_2 _ _) (F.newCall_zip_2 _ _) (λ ob=>F.args_object_init_3 ob _ _) F.entry_zip_new (zcm b b2 a c vs us) ⟨ha,hc,?_⟩
 have n1:(za b s.heap a).objs.size=s.heap.objs.size+1:=Heap.size_push ..
 have n2:(zb b b2 s.heap a c).objs.size=s.heap.objs.size+2:=by rw [Heap.size_push,n1]
 have n3:(zc b b2 s.heap a c).objs.size=s.heap.objs.size+3:=by rw [Heap.size_push,n2]
 have n4:(zd b b2 s.heap a c).objs.size=s.heap.objs.size+4:=by rw [Heap.size_push,n3]
 have up1:∀ d o,(za b s.heap a).get? d=some o→(ze b b2 s.heap a c).get? d=some o:=λ d o x=>Heap.get?_push_of_some _ (Heap.get?_push_of_some _ (Heap.get?_push_of_some _ (Heap.get?_push_of_some _ x)))
 have g5:(ze b b2 s.heap a c).get? (zd b b2 s.heap a c).objs.size=some { cls := .type "zip",data := .fields #[.none,.bool false,.bool false,.ref (zb b b2 s.heap a c).objs.size,.ref (zc b b2 s.heap a c).objs.size] }:=Heap.get?_push_size _ rfl
 have g4:(ze b b2 s.heap a c).get? (zc b b2 s.heap a c).objs.size=some { cls := .type "tuple",data := .seq #[.none,.none] }:=Heap.get?_push_of_some _ (Heap.get?_push_size _ rfl)
 have g3:(ze b b2 s.heap a c).get? (zb b b2 s.heap a c).objs.size=some { cls := .type "tuple",data := .seq #[.ref s.heap.objs.size,.ref (za b s.heap a).objs.size] }:=Heap.get?_push_of_some _ (Heap.get?_push_of_some _ (Heap.get?_push_size _ rfl))
 have g2:(ze b b2 s.heap a c).get? (za b s.heap a).objs.size=some (itO b2 c):=Heap.get?_push_of_some _ (Heap.get?_push_of_some _ (Heap.get?_push_of_some _ (Heap.get?_push_size _ (by cases b2 <;> rfl))))
 have g1:(ze b b2 s.heap a c).get? s.heap.objs.size=some (itO b a):=up1 _ _ (Heap.get?_push_size _ (by cases b <;> rfl))
 have i1:ItrH b (ze b b2 s.heap a c) s.heap.objs.size a 0:=by
  cases b with
  | true=>exact ⟨_,g1,rfl,rfl⟩
  | false=>exact ⟨_,g1,rfl,rfl⟩
 rw [n1] at g2
 have i2:ItrH b2 (ze b b2 s.heap a c) (s.heap.objs.size+1) c 0:=by
  cases b2 with
  | true=>exact ⟨_,g2,rfl,rfl⟩
  | false=>exact ⟨_,g2,rfl,rfl⟩
 show _∧_
 rw [n2,n3,n4] at g5
 rw [n1,n2] at g3
 rw [n3] at g4
 rw [n4]
 exact ⟨⟨_,g5,rfl⟩,q _ g5 g3 g4 i1 i2 λ d o x=>up1 d o (Heap.get?_push_of_some _ x)⟩
end
end L2
namespace L2
open PySem PySem.Spec PyProof.Rows PySem.NumText PySem.W
noncomputable def SqA (b:Bool) (K:W.Frag) (H:Hp) (a:Addr) (xs:List V):Prop:=if b=true then SqT K H a xs else SqL K H a xs
theorem SqA.same {b:Bool} {K:W.Frag} {H H':Hp} {a:Addr} {xs:List V} (h:SqA b K H a xs) (s:Same H H'):SqA b K H' a xs:=by
 cases b with
 | true=>exact s.seqT h
 | false=>exact s.seq h
noncomputable def Itz (K:W.Frag) (b b2:Bool) (a c:Addr):It :=
 ⟨λ i H=>∃ xs x ys y,SqA b K H a xs∧xs[i]? = some x∧SqA b2 K H c ys∧ys[i]? = some y,λ i H v H'=>∃ T x y,v = .ref T∧H T=none∧H'=upd H T (.tup [x,y])∧(∀ xs,SqA b K H a xs→xs[i]? = some x)∧∀ ys,SqA b2 K H c ys→ys[i]? = some y,λ i H=>∃ xs,SqA b K H a xs∧xs.length≤i⟩
section
variable {X:Cx} {pins:List (Addr×Obj)} {σ:St} {H:Hp} {s:Shared}
theorem Inv.sqA (I:Inv X pins σ H s) {b:Bool} {a:Addr} {xs:List V} (h:SqA b X.K H a xs):∃ its:List Value,Vals xs its∧SeqH b s.heap a its.toArray∧xs.length≤sizeLine:=by
 cases b with
 | true =>
  obtain ⟨its,r,p,hz⟩:=I.tuple h
  exact ⟨its,r,p,hz⟩
 | false =>
  obtain ⟨its,r,p,hz⟩:=I.list h
  exact ⟨its,r,p.isList,hz⟩
theorem Inv.sqA_inj (I:Inv X pins σ H s) {b:Bool} {a:Addr} {xs ys:List V} (h:SqA b X.K H a xs) (h':SqA b X.K H a ys):xs=ys:=by
 cases b with
 | true=>exact I.tuple_inj h h'
 | false=>exact I.list_inj h h'
end
noncomputable def zj2 (b b2:Bool) (z t p j k a c:Addr) (i:Nat) (h:Heap):Prop:=IsZip h z t p .none∧IsPair h t (.ref j) (.ref k)∧(∃ e f,IsPair h p e f)∧ItrH b h j a i∧ItrH b2 h k c i
theorem zor {P:Program} {w:World} {K:W.Frag} {elts:List Expr} {kk:Nat} {tp:Pos} {b b2:Bool} (z t p j k a c:Addr) (D:Apt z t p j k) (an:a≠z∧a≠p∧a≠j∧a≠k) (cn:c≠z∧c≠p∧c≠j∧c≠k) :
  Turn P w K (.Tuple elts kk tp) (Itz K b b2 a c) [z,t,p,j,k] z (zj2 b b2 z t p j k a c) where
 mem:=by simp
 obj:=λ i h st d hd=>by
  obtain ⟨h1,h2,⟨e,f,h3⟩,h4,h5⟩:=st
  simp only [List.mem_cons,List.not_mem_nil,or_false] at hd
  rcases hd with rfl | rfl | rfl | rfl | rfl
  ·exact ⟨_,h1,λ v z=>nomatch z⟩
  ·exact ⟨_,h2,λ v z=>nomatch z⟩
  ·exact ⟨_,h3,λ v z=>nomatch z⟩
  ·exact h4.ob
  ·exact h5.ob
 keep:=λ i h h' st q=>by
  obtain ⟨h1,h2,⟨e,f,h3⟩,h4,h5⟩:=st
  exact ⟨q z (by simp) _ h1,q t (by simp) _ h2,⟨e,f,q p (by simp) _ h3⟩,h4.keep λ o x=>q j (by simp) o x,h5.keep λ o x=>q k (by simp) o x⟩
 item:=by
  intro X hP hw hK hc i pins s σ H E I hf st hg
  subst hP hw hK
  obtain ⟨h1,h2,⟨e,f,h3⟩,h4,h5⟩:=st
  obtain ⟨xs,x,ys,y,hq,hx,hr,hy⟩:=hg
  obtain ⟨its,rv,pa,hz⟩:=I.sqA hq
  obtain ⟨jts,rw_,pc,hz'⟩:=I.sqA hr
  obtain ⟨u,hu,ru⟩:=rv.get hx
  obtain ⟨v,hv,rv'⟩:=rw_.get hy
  have zlt:z<s.heap.objs.size:=Heap.lt_size h1
  refine zyq D h1 h2 h3 h4 h5 pa pc an cn (x:=u) (y:=v) (by simpa using hu) (by simpa using hv) λ k1 z1 p1 j1 l1 t1 all1=>?_
  refine ⟨_,rfl,wpAny_letOwnedTupleGo_zip z1 λ k2 z2 s2=>?_⟩
  have hT2:k2.get? s.heap.objs.size=some { cls := .type "tuple",data := .seq #[u,v] }:=(s2.2 _ (Nat.ne_of_gt zlt)).trans t1
  have all2:∀ d o,d∉[z,t,p,j,k]→s.heap.get? d=some o→k2.get? d=some o:=λ d o hd q=>by
   have n1:d≠z:=λ e=>hd (by simp [e])
   exact (s2.2 d n1).trans (all1 d o n1 (λ e=>hd (by simp [e])) (λ e=>hd (by simp [e])) (λ e=>hd (by simp [e])) q)
  have I2:Inv X pins σ (upd H s.heap.objs.size (.tup [x,y])) { s with heap:=k2 }:=by
   refine I.turnLay (t':=s.toks) (ch:=[z,t,p,j,k]) hf all2 (Nat.le_refl _) ?_
   exact ⟨by show 2≤sizeLine;decide,[u,v],.cons ru (.cons rv' .nil),⟨_,hT2,rfl,_,rfl⟩⟩
  have hn:H s.heap.objs.size=none:=I.hok.fresh (Nat.le_refl _)
  refine ⟨.ref s.heap.objs.size,_,I2,rfl,⟨_,x,y,rfl,hn,rfl,λ xs' h'=>by rw [I.sqA_inj h' hq];exact hx,λ ys' h'=>by rw [I.sqA_inj h' hr];exact hy⟩,⟨z2,s2.extBut _ _ D.tz (all1 _ _ D.tz D.tp D.tj D.tk h2),⟨_,_,s2.extBut _ _ D.pz p1⟩,j1.keep λ o q=>s2.extBut _ _ D.jz q,l1.keep λ o q=>s2.extBut _ _ D.kz q⟩,λ d hd=>?_⟩
  have hd':d<s.heap.objs.size:=by
   have hd2:=hd
   simp only [List.mem_cons,List.not_mem_nil,or_false] at hd2
   rcases hd2 with rfl | rfl | rfl | rfl | rfl
   ·exact zlt
   ·exact Heap.lt_size h2
   ·exact Heap.lt_size h3
   ·obtain ⟨o,q,_⟩:=h4.ob;exact Heap.lt_size q
   ·obtain ⟨o,q,_⟩:=h5.ob;exact Heap.lt_size q
  rw [zta (Nat.ne_of_lt hd')]
  exact (hf d hd).1
 done:=by
  intro X hP hw hK hc i pins s σ H E I hf st hg
  subst hP hw hK
  obtain ⟨h1,h2,⟨e,f,h3⟩,h4,h5⟩:=st
  obtain ⟨xs,hq,hx⟩:=hg
  obtain ⟨its,rv,pa,hz⟩:=I.sqA hq
  have hl:=rv.length
  exact zgr (I.ok.hd hc) D h1 h2 h3 h4 pa an.1 (by simp;omega) λ h' al=>⟨rfl,I.turnedL (t':=s.toks) hf λ d o hd q=>al d o (λ e=>hd (by simp [e])) (λ e=>hd (by simp [e])) q⟩
 self:=λ A i s Q E st h=>wpAny_pyIter_zip st.1 h
theorem zfv (n:Nat):Apt (n+4) (n+2) (n+3) n (n+1):=by
 constructor <;> (intro e;have e:(_:Nat)=(_:Nat):=e;omega)
theorem zcq {a n:Nat} (h:a<n):(a:Addr)≠n+4∧(a:Addr)≠n+3∧(a:Addr)≠n∧(a:Addr)≠n+1:=by
 refine ⟨?_,?_,?_,?_⟩ <;> (intro e;have e:(_:Nat)=(_:Nat):=e;omega)
section
variable {X:Cx}
noncomputable def iZip (K:W.Frag) (b b2:Bool) (ta:TA):TI:=λ σ H R=>ta σ H λ vs H1=>∃ a c,vs=[.ref a,.ref c]∧(∃ xs,SqA b K H1 a xs)∧(∃ ys,SqA b2 K H1 c ys)∧R (Itz K b b2 a c) H1
theorem zyt (b b2:Bool) {elts:List Expr} {kk:Nat} {tp:Pos} {a c:Expr} {ta:TA} {p pos:Pos} (hg:Gl X "zip") (hm:X.mg "zip" = none) (hb:bootBuiltins "zip" = some (.type "zip")) (ha:PA X [a,c] ta) (hs:starEach [a,c] X.env=(false,eval a X.env)::starEach [c] X.env:=by rfl) (hs2:starEach [c] X.env=[(false,eval c X.env)]:=by rfl) :
  PI X (.Tuple elts kk tp) (.Call (.Name "zip" p) [a,c] [] pos) (iZip X.K b b2 ta) := .mk <| by
 intro pins s σ H R I h
 refine Call_ (zwj I hg hm hb (PyProof.Rows.callWith_type1 (thn (ha pos pins s σ H _ I h) λ us s1 ⟨vs,H1,I1,r1,q1⟩=>?_) hs (by rw [hs2];rfl)))
 obtain ⟨a1,c1,e,⟨xs,hq⟩,⟨ys,hr⟩,q⟩:=q1
 subst e
 cases r1 with
 | cons r rr =>
  cases rr with
  | cons r2 r3 =>
   cases r3
   cases r
   cases r2
   obtain ⟨its,rv,pa,hz⟩:=I1.sqA hq
   obtain ⟨jts,rw_,pc,hz'⟩:=I1.sqA hr
   refine zlp pa pc λ h' z1 t1 p1 j1 k1 al=>?_
   have I2:Inv X pins σ H1 { s1 with heap:=h' }:=I1.kept (t':=s1.toks) al
   have la:a1<s1.heap.objs.size:=by obtain ⟨o,q⟩:=pa.ob;exact Heap.lt_size q
   have lc:c1<s1.heap.objs.size:=by obtain ⟨o,q⟩:=pc.ob;exact Heap.lt_size q
   have T:=zor (P:=X.prog) (w:=X.w) (K:=X.K) (elts:=elts) (kk:=kk) (tp:=tp) (b:=b) (b2:=b2) (s1.heap.objs.size+4) (s1.heap.objs.size+2) (s1.heap.objs.size+3) s1.heap.objs.size (s1.heap.objs.size+1) a1 c1 (zfv _) (zcq la) (zcq lc)
   have t0:zj2 b b2 (s1.heap.objs.size+4) (s1.heap.objs.size+2) (s1.heap.objs.size+3) s1.heap.objs.size (s1.heap.objs.size+1) a1 c1 0 h':=⟨z1,t1,⟨_,_,p1⟩,j1,k1⟩
   refine T.self X.A 0 _ _ _ t0 ⟨_,_,_,_,H1,rfl,I2,T,t0,λ d hd=>?_,q⟩
   have hd':s1.heap.objs.size≤d:=by
    simp only [List.mem_cons,List.not_mem_nil,or_false] at hd
    rcases hd with rfl | rfl | rfl | rfl | rfl
    ·exact Nat.le_add_right _ _
    ·exact Nat.le_add_right _ _
    ·exact Nat.le_add_right _ _
    ·exact Nat.le_refl _
    ·exact Nat.le_add_right _ _
   exact I1.fpOk hd' (I1.hok.fresh hd')
end
theorem zmm {K:W.Frag} {b b2:Bool} {a c:Addr} {xs ys:List V} {nt:Nat} {cap:List Nat} {g:TG} {te:TE} {σ:St} {H1:Hp} {Q:VK} {D:Addr} (R:Nat→V→Hp→Prop) (hD:H1 D=none) (hP:Plain H1) (ha:SqA b K H1 a xs) (hc:SqA b2 K H1 c ys) (hx:xs.length≤sizeLine) (hl':xs.length=ys.length)
  (mono:∀ i y H H',R i y H→(∀ b o,b≠D→H b=some o→H' b=some o)→(∃ zs,H D=some (.lst zs))→R i y H')
  (step:∀ (i:Nat) x y H2 T' (T:VK),xs[i]? = some x→ys[i]? = some y→Plain H2→Same H1 H2→H2 T'=none→(∀ v H6,R i v H6→Same H2 H6→Plain H6→T v H6)→g (.ref T') (List.replicate nt none++caps cap σ) (upd H2 T' (.tup [x,y])) λ σ4 H4=>te σ4 H4 T)
  (fin:∀ vs H2,vs.length=xs.length→(∀ (i:Nat) y,vs[i]? = some y→R i y H2)→H2 D=some (.lst vs)→Same H1 H2→Plain H2→Q (.ref D) H2) :
  zat (Itz K b b2 a c) D nt cap g tYes te σ H1 Q:=by
 refine ⟨λ i m vs H2=>m=xs.length - i∧i≤xs.length∧vs.length=i∧H2 D=some (.lst vs)∧Same H1 H2∧Plain H2∧∀ (j:Nat) y,vs[j]? = some y→R j y H2,⟨_,rfl,Nat.zero_le _,rfl,upd_same,zba hD,hP.lst,λ j y e=>by simp at e⟩,?_⟩
 rintro i m vs H2 ⟨rfl,hi,hl,hd,hs,hp,hr⟩
 refine ⟨hd,?_⟩
 by_cases hlt:i<xs.length
 ·have hlt':i<ys.length:=by omega
  refine .inr ⟨⟨xs,xs[i],ys,ys[i],ha.same hs,by simp [hlt],hc.same hs,by simp [hlt']⟩,by omega,λ v H3 hy=>?_⟩
  obtain ⟨T',x,y,rfl,hT,rfl,hx',hy'⟩:=hy
  simp only [tYes,if_true]
  refine step i x y _ T' _ (hx' xs (ha.same hs)) (hy' ys (hc.same hs)) hp hs hT λ v H6 hR hs6 hp6=>⟨hs6 _ _ hd,_,by omega,rfl,hlt,by simp [hl],upd_same,(hs.trans hs6).upd hD,hp6.lst,?_⟩
  intro j z e
  have up:∀ b o,b≠D→H6 b=some o→(upd H6 D (.lst (vs++[v]))) b=some o:=λ b o hb e=>by rw [zta hb];exact e
  rcases Nat.lt_or_ge j vs.length with hj | hj
  ·rw [List.getElem?_append_left hj] at e
   exact mono j z H6 _ (mono j z _ H6 (hr j z e) (λ b o _ e=>hs6 b o e) ⟨_,hd⟩) up ⟨_,hs6 _ _ hd⟩
  ·have hj0:j=i:=by
    have:=(List.getElem?_eq_some_iff.mp e).1
    rw [List.length_append,List.length_cons,List.length_nil] at this
    omega
   subst hj0
   have e:some v=some z:=by rw [← e,← hl,List.getElem?_concat_length]
   cases e
   exact mono j v H6 _ hR up ⟨_,hs6 _ _ hd⟩
 ·have e:i=xs.length:=by omega
  subst e
  exact .inl ⟨⟨xs,ha.same hs,Nat.le_refl _⟩,fin vs H2 hl hr hd hs hp⟩
end L2
namespace L2
open PySem PySem.Spec PyProof.Rows PySem.NumText PySem.W
section
variable {X:Cx}
end
end L2
namespace L2
open PySem PySem.Spec PyProof.Rows PySem.NumText PySem.W
section
variable {X:Cx}
end
section
variable {X:Cx}
theorem zms {elt tg iter:Expr} {ifs:List Expr} {scope:Scope} {cpos pos pos':Pos} {wi:TI} {g:TG} {ti:TT} {te:TE} {i:Nat} {x:Str} (E:XK) (N':List Str) (nt:Nat) (cap:List Nat)
  (hN:X.N.Nodup) (hix:X.N[i]? = some x) (hx:Loc X.env.scope x) (W:Wants X E) (tp:X.Top)
  (hc:X.calm=true) (hi:PI X tg iter wi) (hgk:zhf nt g)
  (hg:∀ C s₀ H₀ fp E',PG (X.comp scope C s₀ H₀ fp N' E') tg g)
  (hif:∀ C s₀ H₀ fp E',PIf (X.comp scope C s₀ H₀ fp N' E') ifs ti)
  (he:∀ C s₀ H₀ fp E',Wants (X.comp scope C s₀ H₀ fp N' E') E→PE (X.comp scope C s₀ H₀ fp N' E') elt te)
  (hk:scope.kind = .function:=by rfl) (hb:zzc scope X.env=true:=by rfl) (hcap:zgn X scope N' nt cap=true:=by rfl)
  (hs:∀ x,foldedSetIterable iter X.env x=pure x:=by intro _;rfl) (hf:X.fn x=true ∨ X.env.scope.names.lookup x=some .local:=by first | exact .inl rfl | exact .inr rfl | assumption)
  (hsw:swapsWith (.ListComp elt [⟨tg,iter,ifs,0⟩] scope cpos) (some (.Name x pos')) pos.line X.env=pure true:=by rfl) :
  PS X (.Assign [.Name x pos'] (.ListComp elt [⟨tg,iter,ifs,0⟩] scope cpos) pos) (tAsg (zlr wi nt cap g ti te) (zdq i)) :=
 zom (λ C s₀ H₀ fp E'=>Wants (X.comp scope C s₀ H₀ fp N' E') E) (λ pins σ s3 H3 fp Q D I hf=>zpg I hf tp W) hc hi (λ C s₀ H₀ fp E' _=>hg C s₀ H₀ fp E') (λ C s₀ H₀ fp E' _=>hif C s₀ H₀ fp E') (λ C s₀ H₀ fp E' w=>he C s₀ H₀ fp E' w) hk hb hcap hgk hs hN hix hx hf hsw
end
end L2
namespace L2
open PySem PySem.Spec PyProof.Rows PySem.NumText PySem.W
section
variable {X:Cx}
end
end L2
namespace L2
open PySem PySem.Spec PyProof.Rows PySem.NumText PySem.W
section
variable {X:Cx}
end
end L2
namespace L2
open PySem PySem.Spec PyProof.Rows PySem.NumText PySem.W
section
variable {M:Model} {prog:Program} {w:World} {A:Around} {E:Value→Shared→Prop} {s:Shared}
theorem zoo {a b:Value} {Q:Value→Shared→Prop} (ha:s.TypeIs a "list") (hb:s.TypeIs b "list") (hc:wpAny (model prog w) A (call (.builtin "list.__iadd__") [a,b]) Q E s):wpAny (model prog w) A (inplaceOp .Add a b) Q E s:=by
 have hl:typeLookup (.type "list") (dunderI "add")=pure (some (.builtin "list.__iadd__")):=F.slot_list_iadd.lookup
 have hq:isSeqSlot (some (.builtin "list.__iadd__"))=true:=by decide +kernel
 unfold inplaceOp
 refine wpAny_holding ?_
 have hfi:fillsInplaceSlot (.type "list") "add" (Operator.Add == .Add)=pure false:=by
  unfold fillsInplaceSlot
  show (typeLookup (.type "list") (dunderI "add") >>= λ fi=>pure (fi.isSome && !isSeqSlot fi))=pure false
  rw [hl,pure_bind,hq]
  rfl
 refine wpAny_bind (wpAny_typeOf ha (wpAny_bind (wpAny_of_eq hfi ?_)))
 show wpAny _ A (if false=true then _ else _) Q E s
 rw [if_neg Bool.false_ne_true]
 refine wpAny_bind (wpAny_binaryOp1_none (nm := "add") ha hb noFill_list_add ?_)
 refine wpAny_bind (wpAny_of_eq (PySem.seqSlot_of hl hq) ?_)
 exact wpAny_bind (wpAny_rule hc)
end
section
variable {X:Cx}
theorem zjq:PIp X .Add (λ x y H Q=>∃ l b xs zs,x = .ref l∧y = .ref b∧H l=some (.lst xs)∧H b=some (.lst zs)∧xs.length+zs.length≤sizeLine∧Q (.ref l) (upd H l (.lst (xs++zs)))):=by
 intro pins s σ H x y v u Q I rx ry h
 obtain ⟨l,b,xs,zs,rfl,rfl,hH,hB,hz,q⟩:=h
 cases rx
 cases ry
 obtain ⟨z,its,n,r,hl,e⟩:=I.lstM hH
 obtain ⟨z2,its2,n2,r2,hl2,e2⟩:=I.lstM hB
 refine zoo ⟨_,e,rfl⟩ ⟨_,e2,rfl⟩ (call_meets F.slot_list_iadd ⟨_,e,rfl⟩ F.entry_list_iadd (F.args_list_iadd_2 _ _) (AutoSeq1.list___iadd___list_list_0 l its.toArray n b its2.toArray n2 ?_ (by rw [List.size_toArray];omega) (by rw [List.size_toArray,List.size_toArray];omega)) ⟨e,e2,?_⟩)
 ·rw [zam (by rw [List.size_toArray,List.size_toArray];omega),Bool.and_false]
  exact Bool.false_ne_true
 ·refine ⟨.ref l,_,I.lset (its':=its++its2) hH e (by simp) (r.append r2) ?_,rfl,q⟩
  rw [List.length_append]
  omega
theorem zcj:zwi X (.type "str") (λ xs H Q=>(∃ i,xs=[.int i]∧i.natAbs.log2<1920∧Q (.str (toString i)) H) ∨ ∃ z,xs=[.str z]∧Q (.str z) H):=by
 intro pins s σ H xs us Q I r h
 rcases h with ⟨i,rfl,hi,q⟩ | ⟨z,rfl,q⟩
 ·exact zab pins s σ H _ us Q I r ⟨i,rfl,hi,q⟩
 ·obtain ⟨u,rfl,ru⟩:=r.one
  obtain ⟨t,rfl⟩:=ru
  exact PySem.P.str_of_str ⟨.str z,H,I,⟨_,rfl⟩,q⟩
end
end L2
local macro_rules | `(tactic| walk_at "rd") => `(tactic| repeat (first
 | refine ⟨_,rfl,?_⟩
 | refine ⟨_,_,rfl,rfl,?_⟩
 | refine ⟨(by show (0:Int)<_;decide),?_⟩
 | refine ⟨⟨by decide,by decide⟩,?_⟩
 | refine ⟨Or.inr ⟨by decide,by decide⟩,?_⟩
 | refine ⟨⟨by decide,by decide,by decide⟩,?_⟩
 | refine ⟨_,_,_,_,rfl,rfl,L2.SqL.of L2.upd_same,rfl,?_⟩
 | refine ⟨_,_,_,_,rfl,rfl,L2.SqL.of (by assumption),rfl,?_⟩))
namespace My
open PySem L2 PySem.Spec PyProof.Rows PySem.NumText
local macro_rules | `(tactic| walk_at "sc") => `(tactic| exact ⟨rfl,rfl,rfl,by decide +kernel,rfl,by decide +kernel,by decide +kernel⟩)
theorem sm1 {n:Nat} (h:n≤1000):n≤sizeLine:=Nat.le_of_lt (zyd h)
theorem ip_2:(0:Int)<2:=by decide
theorem ip_3:(0:Int)<3:=by decide
theorem ip_4:(0:Int)<4:=by decide
theorem ip_5:(0:Int)<5:=by decide
theorem ip_8:(0:Int)<8:=by decide
theorem zv2:(0:Int)<11:=by decide
theorem zc4:(0:Int)<94:=by decide
theorem zsy:(0:Int)<100:=by decide
theorem zs1:(0:Int)<300:=by decide
theorem zhw:(0:Int)<1013:=by decide
theorem ztv:(0:Int)<7919:=by decide
theorem sz_0:0≤sizeLine:=by decide
theorem sz_1:1≤sizeLine:=by decide
theorem sz_2:2≤sizeLine:=by decide
theorem sz_3:3≤sizeLine:=by decide
theorem sz_4:4≤sizeLine:=by decide
theorem sz_8:8≤sizeLine:=by decide
noncomputable def top (i:Nat):Stmt:=PySem.Challenge.pw_twotabs_k49_book_rows.main.body.getD i (.Pass ⟨0,0,0,0⟩)
noncomputable abbrev zx0:Stmt:=top 10
noncomputable abbrev zb1:Stmt:=top 11
noncomputable abbrev zu1:Stmt:=top 13
noncomputable abbrev zaz:Stmt:=top 14
noncomputable abbrev zzz:Stmt:=top 19
noncomputable abbrev s_q6:Stmt:=top 18
noncomputable abbrev za1:Stmt:=top 16
noncomputable abbrev zd0:Stmt:=top 23
noncomputable abbrev ztz:Stmt:=top 22
noncomputable abbrev zxy:Stmt:=top 26
noncomputable abbrev s_q4:Stmt:=top 29
noncomputable abbrev zhx:Stmt:=top 43
noncomputable abbrev s_q9:Stmt:=top 44
noncomputable abbrev zvy:Stmt:=top 42
noncomputable abbrev zuy:Stmt:=top 41
noncomputable abbrev s_q0:Stmt:=top 40
noncomputable abbrev zjz:Stmt:=top 12
noncomputable abbrev s_q5:Stmt:=top 17
noncomputable abbrev zy0:Stmt:=top 15
noncomputable abbrev zix:Stmt:=top 21
noncomputable abbrev zgz:Stmt:=top 27
noncomputable abbrev s_q2:Stmt:=top 28
noncomputable abbrev zf1:Stmt:=top 39
noncomputable abbrev zj0:Stmt:=top 38
noncomputable abbrev znz:Stmt:=top 37
noncomputable abbrev zpz:Stmt:=top 46
noncomputable abbrev s_q8:Stmt:=top 47
noncomputable abbrev zwz:Stmt:=top 48
noncomputable abbrev s_q3:Stmt:=top 49
noncomputable abbrev zky:Stmt:=top 50
noncomputable abbrev zlx:Stmt:=top 51
noncomputable abbrev zuz:Stmt:=top 52
noncomputable abbrev zsz:Stmt:=top 53
noncomputable abbrev zr0:Stmt:=top 54
noncomputable abbrev ziz:Stmt:=top 55
noncomputable abbrev s_q1:Stmt:=top 56
noncomputable abbrev s_q7:Stmt:=top 57
noncomputable abbrev zjx:Stmt:=top 58
noncomputable abbrev zzs:Stmt:=top 59
structure Adr where
 f_q34:Addr
 d_q34:FuncData
 f_q36:Addr
 d_q36:FuncData
 f_q11:Addr
 d_q11:FuncData
 f_q29:Addr
 d_q29:FuncData
 f_q12:Addr
 d_q12:FuncData
 f_q6:Addr
 d_q6:FuncData
 f_q31:Addr
 d_q31:FuncData
 f_q26:Addr
 d_q26:FuncData
 f_q19:Addr
 d_q19:FuncData
 f_q10:Addr
 d_q10:FuncData
 f_q4:Addr
 d_q4:FuncData
 f_q20:Addr
 d_q20:FuncData
 f_q9:Addr
 d_q9:FuncData
 f_q22:Addr
 d_q22:FuncData
 f_q32:Addr
 d_q32:FuncData
 f_q0:Addr
 d_q0:FuncData
 f_q13:Addr
 d_q13:FuncData
 f_q5:Addr
 d_q5:FuncData
 f_q30:Addr
 d_q30:FuncData
 f_q15:Addr
 d_q15:FuncData
 f_q37:Addr
 d_q37:FuncData
 f_q2:Addr
 d_q2:FuncData
 f_q16:Addr
 d_q16:FuncData
 f_q35:Addr
 d_q35:FuncData
 f_q27:Addr
 d_q27:FuncData
 f_q18:Addr
 d_q18:FuncData
 f_q8:Addr
 d_q8:FuncData
 f_q17:Addr
 d_q17:FuncData
 f_q3:Addr
 d_q3:FuncData
 f_q23:Addr
 d_q23:FuncData
 f_q28:Addr
 d_q28:FuncData
 f_q14:Addr
 d_q14:FuncData
 f_q33:Addr
 d_q33:FuncData
 f_q25:Addr
 d_q25:FuncData
 f_q21:Addr
 d_q21:FuncData
 f_q1:Addr
 d_q1:FuncData
 f_q7:Addr
 d_q7:FuncData
 f_q24:Addr
 d_q24:FuncData
 f_law:Addr
 d_law:FuncData
 DraftError:Addr
 NoBuilt:Addr
 NoPaper:Addr
 NoRow:Addr
 NoText:Addr
 HEADS:Addr
 CHOICES:Addr
 SHAPES:Addr
 v_SHAPES_begin:Addr
 v_SHAPES_put:Addr
 v_SHAPES_take:Addr
 v_SHAPES_move:Addr
 v_SHAPES_write:Addr
 v_SHAPES_part:Addr
 v_SHAPES_join:Addr
 v_SHAPES_carry:Addr
 v_SHAPES_undo:Addr
 v_SHAPES_again:Addr
 v_SHAPES_reload:Addr
 v_SHAPES_save:Addr
 v_SHAPES_back:Addr
 v_SHAPES_settle:Addr
 v_SHAPES_piece:Addr
 v_SHAPES_clash:Addr
 LEAST:Addr
 v_LEAST_beat:Tok
 v_LEAST_window:Tok
 v_LEAST_clash:Tok
 v_LEAST_save:Tok
 v_LEAST_count:Tok
structure Txt (w:World) (K:W.Frag) (mg:Str→Option Value) (A:Adr):Prop where
 F_q34:Fun K "is_words" "is_words" zx0 A.f_q34 A.d_q34
 g_q34:mg "is_words" = some (.ref A.f_q34)
 k_q34:W.keepIn K (.ref A.f_q34)=true
 b_q34:Binds K A.d_q34 ["text"] []
 F_q36:Fun K "made_of" "made_of" zb1 A.f_q36 A.d_q36
 g_q36:mg "made_of" = some (.ref A.f_q36)
 k_q36:W.keepIn K (.ref A.f_q36)=true
 b_q36:Binds K A.d_q36 ["text", "signs"] []
 F_q11:Fun K "read_number" "read_number" zu1 A.f_q11 A.d_q11
 g_q11:mg "read_number" = some (.ref A.f_q11)
 k_q11:W.keepIn K (.ref A.f_q11)=true
 b_q11:Binds K A.d_q11 ["text"] []
 F_q29:Fun K "read_from" "read_from" zaz A.f_q29 A.d_q29
 g_q29:mg "read_from" = some (.ref A.f_q29)
 k_q29:W.keepIn K (.ref A.f_q29)=true
 b_q29:Binds K A.d_q29 ["least", "text"] []
 F_q12:Fun K "check_maker" "check_maker" zzz A.f_q12 A.d_q12
 g_q12:mg "check_maker" = some (.ref A.f_q12)
 k_q12:W.keepIn K (.ref A.f_q12)=true
 b_q12:Binds K A.d_q12 ["window", "count"] []
 F_q6:Fun K "read_dotted" "read_dotted" s_q6 A.f_q6 A.d_q6
 g_q6:mg "read_dotted" = some (.ref A.f_q6)
 k_q6:W.keepIn K (.ref A.f_q6)=true
 b_q6:Binds K A.d_q6 ["text", "many"] []
 F_q31:Fun K "read_mark" "read_mark" za1 A.f_q31 A.d_q31
 g_q31:mg "read_mark" = some (.ref A.f_q31)
 k_q31:W.keepIn K (.ref A.f_q31)=true
 b_q31:Binds K A.d_q31 ["text"] []
 F_q26:Fun K "read_step" "read_step" zd0 A.f_q26 A.d_q26
 g_q26:mg "read_step" = some (.ref A.f_q26)
 k_q26:W.keepIn K (.ref A.f_q26)=true
 b_q26:Binds K A.d_q26 ["text"] []
 F_q19:Fun K "read_place" "read_place" ztz A.f_q19 A.d_q19
 g_q19:mg "read_place" = some (.ref A.f_q19)
 k_q19:W.keepIn K (.ref A.f_q19)=true
 b_q19:Binds K A.d_q19 ["text"] []
 F_q10:Fun K "out_version" "out_version" zxy A.f_q10 A.d_q10
 g_q10:mg "out_version" = some (.ref A.f_q10)
 k_q10:W.keepIn K (.ref A.f_q10)=true
 b_q10:Binds K A.d_q10 ["beat"] []
 F_q4:Fun K "read_version" "read_version" s_q4 A.f_q4 A.d_q4
 g_q4:mg "read_version" = some (.ref A.f_q4)
 k_q4:W.keepIn K (.ref A.f_q4)=true
 b_q4:Binds K A.d_q4 ["text"] []
 F_q20:Fun K "read_words" "read_words" zhx A.f_q20 A.d_q20
 g_q20:mg "read_words" = some (.ref A.f_q20)
 k_q20:W.keepIn K (.ref A.f_q20)=true
 b_q20:Binds K A.d_q20 ["text"] []
 F_q9:Fun K "read_choice" "read_choice" s_q9 A.f_q9 A.d_q9
 g_q9:mg "read_choice" = some (.ref A.f_q9)
 k_q9:W.keepIn K (.ref A.f_q9)=true
 b_q9:Binds K A.d_q9 ["text"] []
 F_q22:Fun K "read_field" "read_field" zvy A.f_q22 A.d_q22
 g_q22:mg "read_field" = some (.ref A.f_q22)
 k_q22:W.keepIn K (.ref A.f_q22)=true
 b_q22:Binds K A.d_q22 ["kind", "text"] []
 F_q32:Fun K "read_row" "read_row" zuy A.f_q32 A.d_q32
 g_q32:mg "read_row" = some (.ref A.f_q32)
 k_q32:W.keepIn K (.ref A.f_q32)=true
 b_q32:Binds K A.d_q32 ["row"] []
 F_q0:Fun K "read_book_rows" "read_book_rows" s_q0 A.f_q0 A.d_q0
 g_q0:mg "read_book_rows" = some (.ref A.f_q0)
 k_q0:W.keepIn K (.ref A.f_q0)=true
 b_q0:Binds K A.d_q0 ["rows"] []
 F_q13:Fun K "number_text" "number_text" zjz A.f_q13 A.d_q13
 g_q13:mg "number_text" = some (.ref A.f_q13)
 k_q13:W.keepIn K (.ref A.f_q13)=true
 b_q13:Binds K A.d_q13 ["number"] []
 F_q5:Fun K "dotted_text" "dotted_text" s_q5 A.f_q5 A.d_q5
 g_q5:mg "dotted_text" = some (.ref A.f_q5)
 k_q5:W.keepIn K (.ref A.f_q5)=true
 b_q5:Binds K A.d_q5 ["numbers"] []
 F_q30:Fun K "mark_text" "mark_text" zy0 A.f_q30 A.d_q30
 g_q30:mg "mark_text" = some (.ref A.f_q30)
 k_q30:W.keepIn K (.ref A.f_q30)=true
 b_q30:Binds K A.d_q30 ["mark"] []
 F_q15:Fun K "place_text" "place_text" zix A.f_q15 A.d_q15
 g_q15:mg "place_text" = some (.ref A.f_q15)
 k_q15:W.keepIn K (.ref A.f_q15)=true
 b_q15:Binds K A.d_q15 ["place"] []
 F_q37:Fun K "is_in" "is_in" zgz A.f_q37 A.d_q37
 g_q37:mg "is_in" = some (.ref A.f_q37)
 k_q37:W.keepIn K (.ref A.f_q37)=true
 b_q37:Binds K A.d_q37 ["version"] []
 F_q2:Fun K "version_text" "version_text" s_q2 A.f_q2 A.d_q2
 g_q2:mg "version_text" = some (.ref A.f_q2)
 k_q2:W.keepIn K (.ref A.f_q2)=true
 b_q2:Binds K A.d_q2 ["version"] []
 F_q16:Fun K "field_text" "field_text" zf1 A.f_q16 A.d_q16
 g_q16:mg "field_text" = some (.ref A.f_q16)
 k_q16:W.keepIn K (.ref A.f_q16)=true
 b_q16:Binds K A.d_q16 ["kind", "value"] []
 F_q35:Fun K "row_text" "row_text" zj0 A.f_q35 A.d_q35
 g_q35:mg "row_text" = some (.ref A.f_q35)
 k_q35:W.keepIn K (.ref A.f_q35)=true
 b_q35:Binds K A.d_q35 ["word", "values"] []
 F_q27:Fun K "book_rows" "book_rows" znz A.f_q27 A.d_q27
 g_q27:mg "book_rows" = some (.ref A.f_q27)
 k_q27:W.keepIn K (.ref A.f_q27)=true
 b_q27:Binds K A.d_q27 ["record"] []
 F_q18:Fun K "_law_words" "_law_words" zpz A.f_q18 A.d_q18
 g_q18:mg "_law_words" = some (.ref A.f_q18)
 k_q18:W.keepIn K (.ref A.f_q18)=true
 b_q18:Binds K A.d_q18 ["_law_number_here"] []
 F_q8:Fun K "_law_number" "_law_number" s_q8 A.f_q8 A.d_q8
 g_q8:mg "_law_number" = some (.ref A.f_q8)
 k_q8:W.keepIn K (.ref A.f_q8)=true
 b_q8:Binds K A.d_q8 ["_law_number_here", "_law_least"] []
 F_q17:Fun K "_law_place" "_law_place" zwz A.f_q17 A.d_q17
 g_q17:mg "_law_place" = some (.ref A.f_q17)
 k_q17:W.keepIn K (.ref A.f_q17)=true
 b_q17:Binds K A.d_q17 ["_law_number_here"] []
 F_q3:Fun K "_law_version" "_law_version" s_q3 A.f_q3 A.d_q3
 g_q3:mg "_law_version" = some (.ref A.f_q3)
 k_q3:W.keepIn K (.ref A.f_q3)=true
 b_q3:Binds K A.d_q3 ["_law_number_here"] []
 F_q23:Fun K "_law_pairs" "_law_pairs" zky A.f_q23 A.d_q23
 g_q23:mg "_law_pairs" = some (.ref A.f_q23)
 k_q23:W.keepIn K (.ref A.f_q23)=true
 b_q23:Binds K A.d_q23 ["_law_number_here", "_law_many"] []
 F_q28:Fun K "_law_head" "_law_head" zlx A.f_q28 A.d_q28
 g_q28:mg "_law_head" = some (.ref A.f_q28)
 k_q28:W.keepIn K (.ref A.f_q28)=true
 b_q28:Binds K A.d_q28 ["_law_number_here"] []
 F_q14:Fun K "_law_steps" "_law_steps" zuz A.f_q14 A.d_q14
 g_q14:mg "_law_steps" = some (.ref A.f_q14)
 k_q14:W.keepIn K (.ref A.f_q14)=true
 b_q14:Binds K A.d_q14 ["_law_place_here"] []
 F_q33:Fun K "_law_row" "_law_row" zsz A.f_q33 A.d_q33
 g_q33:mg "_law_row" = some (.ref A.f_q33)
 k_q33:W.keepIn K (.ref A.f_q33)=true
 b_q33:Binds K A.d_q33 ["_law_word", "_law_mark", "_law_version_here"] []
 F_q25:Fun K "_law_rows" "_law_rows" zr0 A.f_q25 A.d_q25
 g_q25:mg "_law_rows" = some (.ref A.f_q25)
 k_q25:W.keepIn K (.ref A.f_q25)=true
 b_q25:Binds K A.d_q25 ["_law_record"] []
 F_q21:Fun K "_law_great" "_law_great" ziz A.f_q21 A.d_q21
 g_q21:mg "_law_great" = some (.ref A.f_q21)
 k_q21:W.keepIn K (.ref A.f_q21)=true
 b_q21:Binds K A.d_q21 ["_law_record", "_law_number_here"] []
 F_q1:Fun K "_law_refused" "_law_refused" s_q1 A.f_q1 A.d_q1
 g_q1:mg "_law_refused" = some (.ref A.f_q1)
 k_q1:W.keepIn K (.ref A.f_q1)=true
 b_q1:Binds K A.d_q1 ["_law_record", "_law_rows_here"] []
 F_q7:Fun K "_law_shared" "_law_shared" s_q7 A.f_q7 A.d_q7
 g_q7:mg "_law_shared" = some (.ref A.f_q7)
 k_q7:W.keepIn K (.ref A.f_q7)=true
 b_q7:Binds K A.d_q7 ["_law_record", "_law_rows_here"] []
 F_q24:Fun K "_law_mixed" "_law_mixed" zjx A.f_q24 A.d_q24
 g_q24:mg "_law_mixed" = some (.ref A.f_q24)
 k_q24:W.keepIn K (.ref A.f_q24)=true
 b_q24:Binds K A.d_q24 ["_law_cell", "_law_k"] []
 F_law:Fun K "law" "law" zzs A.f_law A.d_law
 g_law:mg "law" = some (.ref A.f_law)
 k_law:W.keepIn K (.ref A.f_law)=true
 b_law:Binds K A.d_law ["_law_script"] []
 u_END:∃ t,mg "END" = some (.str "end" t)
 u_FIGURES:∃ t,mg "FIGURES" = some (.str "0123456789" t)
 u_HEAD_OF_ALL:∃ t,mg "HEAD_OF_ALL" = some (.str "-" t)
 u_MOST_FIGURES:∃ t,mg "MOST_FIGURES" = some (.int (30) t)
 u_OUT:∃ t,mg "OUT" = some (.str "-" t)
 u_TOO_GREAT:∃ t,mg "TOO_GREAT" = some (.int (1000000000000000000000000000000) t)
 g_DraftError:mg "DraftError" = some (.ref A.DraftError)
 x_DraftError:XCls K A.DraftError
 g_NoBuilt:mg "NoBuilt" = some (.ref A.NoBuilt)
 x_NoBuilt:XCls K A.NoBuilt
 g_NoPaper:mg "NoPaper" = some (.ref A.NoPaper)
 x_NoPaper:XCls K A.NoPaper
 g_NoRow:mg "NoRow" = some (.ref A.NoRow)
 x_NoRow:XCls K A.NoRow
 g_NoText:mg "NoText" = some (.ref A.NoText)
 x_NoText:XCls K A.NoText
 g_HEADS:mg "HEADS" = some (.ref A.HEADS)
 t_HEADS:∀ H,SqT K H A.HEADS [.str "save",.str "back",.str "settle"]
 g_CHOICES:mg "CHOICES" = some (.ref A.CHOICES)
 t_CHOICES:∀ H,SqT K H A.CHOICES [.str "stay",.str "turn",.str "both"]
 g_SHAPES:mg "SHAPES" = some (.ref A.SHAPES)
 y_SHAPES:(A.SHAPES == sysModules)=false
 t_SHAPES:DcK w K A.SHAPES [("begin",.ref A.v_SHAPES_begin),("put",.ref A.v_SHAPES_put),("take",.ref A.v_SHAPES_take),("move",.ref A.v_SHAPES_move),("write",.ref A.v_SHAPES_write),("part",.ref A.v_SHAPES_part),("join",.ref A.v_SHAPES_join),("carry",.ref A.v_SHAPES_carry),("undo",.ref A.v_SHAPES_undo),("again",.ref A.v_SHAPES_again),("reload",.ref A.v_SHAPES_reload),("save",.ref A.v_SHAPES_save),("back",.ref A.v_SHAPES_back),("settle",.ref A.v_SHAPES_settle),("piece",.ref A.v_SHAPES_piece),("clash",.ref A.v_SHAPES_clash)]
 q_SHAPES_begin:∀ H,SqT K H A.v_SHAPES_begin [.str "beat",.str "window",.str "save"]
 q_SHAPES_put:∀ H,SqT K H A.v_SHAPES_put [.str "beat",.str "behind",.str "words"]
 q_SHAPES_take:∀ H,SqT K H A.v_SHAPES_take [.str "beat",.str "mark"]
 q_SHAPES_move:∀ H,SqT K H A.v_SHAPES_move [.str "beat",.str "mark",.str "behind"]
 q_SHAPES_write:∀ H,SqT K H A.v_SHAPES_write [.str "beat",.str "mark",.str "words"]
 q_SHAPES_part:∀ H,SqT K H A.v_SHAPES_part [.str "beat",.str "mark",.str "many"]
 q_SHAPES_join:∀ H,SqT K H A.v_SHAPES_join [.str "beat",.str "mark"]
 q_SHAPES_carry:∀ H,SqT K H A.v_SHAPES_carry [.str "beat",.str "mark",.str "mark",.str "behind"]
 q_SHAPES_undo:∀ H,SqT K H A.v_SHAPES_undo [.str "beat"]
 q_SHAPES_again:∀ H,SqT K H A.v_SHAPES_again [.str "beat"]
 q_SHAPES_reload:∀ H,SqT K H A.v_SHAPES_reload [.str "beat",.str "save"]
 q_SHAPES_save:∀ H,SqT K H A.v_SHAPES_save [.str "beat",.str "window",.str "count"]
 q_SHAPES_back:∀ H,SqT K H A.v_SHAPES_back [.str "beat",.str "save"]
 q_SHAPES_settle:∀ H,SqT K H A.v_SHAPES_settle [.str "beat",.str "clash",.str "choice"]
 q_SHAPES_piece:∀ H,SqT K H A.v_SHAPES_piece [.str "mark",.str "version"]
 q_SHAPES_clash:∀ H,SqT K H A.v_SHAPES_clash [.str "mark",.str "version"]
 g_LEAST:mg "LEAST" = some (.ref A.LEAST)
 y_LEAST:(A.LEAST == sysModules)=false
 t_LEAST:DcK w K A.LEAST [("beat",.int 1 A.v_LEAST_beat),("window",.int 1 A.v_LEAST_window),("clash",.int 1 A.v_LEAST_clash),("save",.int 0 A.v_LEAST_save),("count",.int 0 A.v_LEAST_count)]
 m_nd:W.mroIn K A.NoText (.ref A.DraftError)=some true
 kv:W.kitOne K (.ref A.NoText) (.type "ValueError")=some true
 kt:W.kitAny K (.ref A.NoText) [.ref A.NoBuilt,.ref A.NoPaper,.ref A.NoRow]=some false
 n_ValueError:mg "ValueError" = none
 n_abs:mg "abs" = none
 n_all:mg "all" = none
 n_enumerate:mg "enumerate" = none
 n_int:mg "int" = none
 n_isinstance:mg "isinstance" = none
 n_len:mg "len" = none
 n_list:mg "list" = none
 n_range:mg "range" = none
 n_sorted:mg "sorted" = none
 n_str:mg "str" = none
 n_tuple:mg "tuple" = none
 n_zip:mg "zip" = none
noncomputable def hasS (z t:Str):Bool := !(Builtin.Str.occurrences t z 0 t.length 1).isEmpty
noncomputable def zgx (z t:Str):Bool:=((List.range z.cps.size).map λ i=>hasS ⟨#[z.cps.toList.getD i 0]⟩ t).all id
theorem zas (z:Str):zgx z DIG=z.cps.toList.all zvj:=by
 unfold zgx hasS
 rw [Bool.eq_iff_iff,List.all_eq_true,List.all_eq_true]
 constructor
 ·intro h c hc
  obtain ⟨i,hi,e⟩:=List.getElem_of_mem hc
  have hs:i<z.cps.size:=by simpa using hi
  have:=h _ (List.mem_map.mpr ⟨i,List.mem_range.mpr hs,rfl⟩)
  simp only [id] at this
  rw [zju] at this
  have e2:z.cps.toList.getD i 0=c:=by rw [List.getD_eq_getElem?_getD,List.getElem?_eq_getElem hi,e];rfl
  rw [e2] at this
  exact this
 ·intro h b hb
  obtain ⟨i,hi,e⟩:=List.mem_map.mp hb
  have hs:i<z.cps.toList.length:=by simpa using List.mem_range.mp hi
  rw [← e]
  simp only [id]
  rw [zju]
  refine h _ ?_
  rw [List.getD_eq_getElem?_getD,List.getElem?_eq_getElem hs]
  exact List.getElem_mem hs
noncomputable def zpw:Sp:=zwm (λ (a:Str×Str) vs=>vs=[.str a.1,.str a.2]∧a.1.length≤1000) (λ a v=>v = .bl (zgx a.1 a.2))
noncomputable def zm3 (A:Adr):Sp:=λ vs H Q E=>Plain H∧∃ z:Str,vs=[.str z]∧z.length≤640∧(∀ n,zue z.cps.toList=some n→Q (.int n) H)∧(zue z.cps.toList=none→E (.ref A.NoText) none H)
theorem zgk {p:Prop} [Decidable p] {A B:Prop} (h:¬ p) (b:B):if decide p=true then A else B:=by rw [decide_eq_false h];exact iteF b
theorem zpr {p:Prop} [Decidable p] {A B:Prop} (h:p) (a:A):if decide p=true then A else B:=by rw [decide_eq_true h];exact iteT a
noncomputable def B40 (n:Int):Prop := -(10 ^ 40)<n∧n<10 ^ 40
noncomputable def B30 (n:Int):Prop := -(10 ^ 30)<n∧n<10 ^ 30
noncomputable def dots (ns:List Int):Str:=Txt.join "." (ns.map λ n=>Str.ofString (toString n))
noncomputable def dotL (z:Str) (m:Int):Option (List Int):=if ((Txt.split z ".").length:Int)=m then zxa (λ p:Str=>zue p.cps.toList) (Txt.split z ".") else none
noncomputable def zoc (z:Str) (k:Int):Option Int:=match zue z.cps.toList with
 | some n=>if n<k then none else some n
 | none=>none
noncomputable def za3 (A:Adr):Sp:=zqc (λ (a:Str×Int) vs _=>vs=[.str a.1,.int a.2]∧a.1.length≤640)
 (λ a v H=>∃ l ns,v = .ref l∧H l=some (.lst (ns.map V.int))∧dotL a.1 a.2=some ns) (λ a C=>C=A.NoText∧dotL a.1 a.2=none)
noncomputable def za4 (A:Adr):Sp:=zqc (λ (a:Int×Int) vs _=>vs=[.int a.1,.int a.2]) (λ a v _=>¬ (a.1<0 ∨ a.2<1)∧v = .non) (λ a C=>C=A.NoText∧(a.1<0 ∨ a.2<1))
theorem zkg {α:Type} {f:α→Str} {k:Nat}:∀ {xs:List α},(∀ x∈xs,(f x).length≤k)→((xs.map f).map (·.length)).sum≤xs.length * k:=by
 intro xs
 induction xs with
 | nil=>intro _;exact Nat.zero_le _
 | cons x xs ih =>
  intro h
  have h1:=h x List.mem_cons_self
  have h2:=ih λ y hy=>h y (List.mem_cons_of_mem _ hy)
  simp only [List.map_cons,List.sum_cons,List.length_cons,Nat.succ_mul]
  omega
theorem zne {α β:Type} {f:α→Option β}:∀ {xs:List α} {ys:List β},zxa f xs=some ys→ys.length=xs.length:=by
 intro xs
 induction xs with
 | nil=>intro ys e;cases e;rfl
 | cons a xs ih =>
  intro ys e
  unfold zxa at e
  cases h1:f a with
  | none=>rw [h1] at e;cases e
  | some y =>
   rw [h1] at e
   cases h2:zxa f xs with
   | none=>rw [h2] at e;cases e
   | some zs=>rw [h2] at e;cases e;simp [ih h2]
noncomputable def S40 (s:Stp):Prop:=B40 s.1∧B40 s.2.1∧B40 s.2.2
noncomputable def S30 (s:Stp):Prop:=B30 s.1∧B30 s.2.1∧B30 s.2.2
noncomputable def sL (s:Stp):List Int:=[s.1,s.2.1,s.2.2]
noncomputable def zvc (ss:List Stp):Str:=Txt.join "/" (ss.map λ s=>dots (sL s))
noncomputable def zdk (z:Str):Option Stp:=match dotL z 3 with
 | some [r,w,c]=>if w<0 ∨ c<1 then none else some (r,w,c)
 | _=>none
noncomputable def zjh (z:Str):Option (List Stp):=zxa zdk (Txt.split z "/")
noncomputable def zi4 (A:Adr):Sp:=zqc (λ (z:Str) vs _=>vs=[.str z]∧z.length≤640) (λ z v H=>∃ t s,v = .ref t∧H t=some (.tup (sV s))∧zdk z=some s) (λ z C=>C=A.NoText∧zdk z=none)
noncomputable def ze3 (K:W.Frag) (A:Adr):Sp:=zqc (λ (z:Str) vs _=>vs=[.str z]∧z.length≤640) (λ z v H=>∃ ss,DV K H (plc ss) v∧zjh z=some ss) (λ z C=>C=A.NoText∧zjh z=none)
theorem zar {P:Int→Prop} {s:Stp} (h:P s.1∧P s.2.1∧P s.2.2):∀ n∈sL s,P n:=by
 intro n hn
 unfold sL at hn
 simp only [List.mem_cons,List.not_mem_nil,or_false] at hn
 rcases hn with rfl | rfl | rfl
 ·exact h.1
 ·exact h.2.1
 ·exact h.2.2
theorem zlu {P:Int→Prop} {s:Stp} (h:∀ n∈sL s,P n):P s.1∧P s.2.1∧P s.2.2:=⟨h _ (by simp [sL]),h _ (by simp [sL]),h _ (by simp [sL])⟩
theorem zcn {s:Stp} (h:S40 s):(dots (sL s)).length≤125:=by
 have e:dots (sL s)=(((Str.ofString (toString s.1) ++ ".")++Str.ofString (toString s.2.1)) ++ ".")++Str.ofString (toString s.2.2):=rfl
 have l1:(Str.ofString ".").length=1:=rfl
 have h1:=zsk h.1.1 h.1.2
 have h2:=zsk h.2.1.1 h.2.1.2
 have h3:=zsk h.2.2.1 h.2.2.2
 rw [e,zja,zja,zja,zja,l1]
 omega
theorem len3 {α:Type} {l:List α} (h:l.length=3):∃ a b c,l=[a,b,c]:=by
 match l,h with
 | [a,b,c],_=>exact ⟨a,b,c,rfl⟩
theorem zbr {z:Str} {ns:List Int} (h:dotL z 3=some ns):∃ a b c,ns=[a,b,c]:=by
 unfold dotL at h
 split at h
 ·rename_i e
  have:=zne h
  exact len3 (by omega)
 ·cases h
theorem zhs (g:Array Nat):∀ (ps:List Str) (a:Array Nat),(ps.foldl (λ acc p=>acc++g++p.cps) a).size=a.size+(ps.map (·.length)).sum+ps.length * g.size:=by
 intro ps
 induction ps with
 | nil=>intro a;simp
 | cons p ps ih =>
  intro a
  rw [List.foldl_cons,ih]
  simp only [Array.size_append,List.map_cons,List.sum_cons,List.length_cons,Nat.succ_mul]
  have:p.length=p.cps.size:=rfl
  omega
theorem zzf (g:Str) (ps:List Str):(Txt.join g ps).length≤(ps.map (·.length)).sum+ps.length * g.length:=by
 show ((ps.drop 1).foldl (λ acc p=>acc++g.cps++p.cps) (ps.headD Str.empty).cps).size≤_
 rw [zhs]
 cases ps with
 | nil=>simp [Str.empty]
 | cons p ps =>
  have e1:((p::ps).drop 1)=ps:=rfl
  have e2:((p::ps).headD Str.empty)=p:=rfl
  rw [e1,e2]
  simp only [List.map_cons,List.sum_cons,List.length_cons,Nat.succ_mul]
  have h1:p.length=p.cps.size:=rfl
  have h2:ps.length * g.length=ps.length * g.cps.size:=rfl
  have h3:g.length=g.cps.size:=rfl
  omega
noncomputable def zdj (z:Str):Option (Int×Int):=match dotL z 2 with
 | some [a,b]=>if a<0 ∨ b<1 then none else some (a,b)
 | _=>none
noncomputable def zj3 (A:Adr):Sp:=zqc (λ (z:Str) vs _=>vs=[.str z]∧z.length≤640) (λ z v H=>∃ t a b,v = .ref t∧H t=some (.tup [.int a,.int b])∧zdj z=some (a,b)) (λ z C=>C=A.NoText∧zdj z=none)
theorem zp1 {z:Str} {ns:List Int} (h:dotL z 2=some ns):∃ a b,ns=[a,b]:=by
 unfold dotL at h
 split at h
 ·rename_i e
  have:=zne h
  match ns,(show ns.length=2 by omega) with
  | [a,b],_=>exact ⟨a,b,rfl⟩
 ·cases h
noncomputable def sp_law (K:W.Frag):Sp:=λ vs H Q _=>∃ (a:Addr) (ns:List Int),vs=[.ref a]∧SqL K H a (ns.map V.int)∧ns.length≤63∧(∀ H',Q (.bl true) H')∧Plain H
theorem zvf {K:W.Frag} {H:Hp} {t:Addr} (h:H t=some (.tup [])):DV K H (plc []) (.ref t):=⟨t,[],rfl,SqT.of h,rfl⟩
noncomputable def zyb (z:Str):Bool:=(!hasS "\n" z) && (!hasS "\t" z)
noncomputable def zny:Sp:=zwm (λ (z:Str) vs=>vs=[.str z]) (λ z v=>v = .bl (zyb z))
theorem zwq (c:Nat) (z:Str):hasS ⟨#[c]⟩ z=decide (c∈z.cps.toList):=znv c z
theorem zkp (z:Str):zyb z=(!decide (10∈z.cps.toList) && !decide (9∈z.cps.toList)):=by
 unfold zyb
 rw [show (Str.ofString "\n")=⟨#[10]⟩ from rfl,show (Str.ofString "\t")=⟨#[9]⟩ from rfl,zwq,zwq]
noncomputable def znt (b:Int) (r:Str):Option Ver:=match zjh (Txt.partition r " ").1 with
 | none=>none
 | some ss=>if (Txt.partition r " ").2.1 = "" ∨ zyb (Txt.partition r " ").2.2=false then none else some (b,ss,(Txt.partition r " ").2.2)
noncomputable def verL (z:Str):Option Ver:=match zoc (Txt.partition z " ").1 1 with
 | none=>none
 | some b=>if (Txt.partition z " ").2.2 = "-" then some (b,[], "") else znt b (Txt.partition z " ").2.2
noncomputable def zpy (K:W.Frag):Sp:=zqc (λ (b:Int) vs _=>vs=[.int b]) (λ b r H=>DV K H (ver (b,[], "")) r) (λ _ _=>False)
noncomputable def zf4 (K:W.Frag) (A:Adr):Sp:=zqc (λ (z:Str) vs _=>vs=[.str z]∧z.length≤640) (λ z r H=>∃ v,DV K H (ver v) r∧verL z=some v) (λ z C=>C=A.NoText∧verL z=none)
theorem zif {z:Str} (h:zoc (Txt.partition z " ").1 1=none):verL z=none:=by
 unfold verL
 rw [h]
theorem zum {z:Str} {b:Int} (h:zoc (Txt.partition z " ").1 1=some b) (e:(Txt.partition z " ").2.2 = "-"):verL z=some ((b,[], ""):Ver):=by
 unfold verL
 rw [h]
 exact if_pos e
theorem zyp {z:Str} {b:Int} (h:zoc (Txt.partition z " ").1 1=some b) (e:¬ (Txt.partition z " ").2.2 = "-"):verL z=znt b (Txt.partition z " ").2.2:=by
 unfold verL
 rw [h]
 exact if_neg e
theorem zqn:32∉(Str.ofString "-").cps.toList:=by decide
theorem at0 {x:V} {xs:List V}:atI (x::xs) 0=some x:=zfg (j:=0) rfl
theorem at1 {x y:V} {xs:List V}:atI (x::y::xs) 1=some y:=zfg (j:=1) rfl
theorem zds:¬ ((⟨#[32]⟩:Str)=Str.ofString ""):=λ e=>by
 have:(1:Nat)=0:=congrArg Str.length e
 cases this
noncomputable def zb3 (A:Adr):Sp:=zqc (λ (a:Int×Str) vs _=>vs=[.int a.1,.str a.2]∧a.2.length≤640) (λ a r _=>∃ n,r = .int n∧zoc a.2 a.1=some n) (λ a C=>C=A.NoText∧zoc a.2 a.1=none)
noncomputable def zpt:List Str:=["beat", "window", "save", "behind", "words", "mark", "many", "count", "clash", "choice", "version"]
noncomputable def zdd (k:Str):Int:=if k = "save" ∨ k = "count" then 0 else 1
noncomputable def zib (k z:Str):Option PyData :=
 if k = "mark" then (zdj z).map markD
 else if k = "behind" then (if z = "-" then some .none else (zdj z).map markD)
 else if k = "version" then (verL z).map ver
 else if k = "words" then (if zyb z=true then some (.str z) else none)
 else if k = "choice" then (if z∈(["stay", "turn", "both"]:List Str) then some (.str z) else none)
 else if k = "many" then (zue z.cps.toList).map PyData.int
 else (zoc z (zdd k)).map PyData.int
noncomputable def SHAPES:List (Str×List Str):=[("begin",["beat", "window", "save"]),("put",["beat", "behind", "words"]),("take",["beat", "mark"]),("move",["beat", "mark", "behind"]),("write",["beat", "mark", "words"]),("part",["beat", "mark", "many"]),("join",["beat", "mark"]),("carry",["beat", "mark", "mark", "behind"]),("undo",["beat"]),("again",["beat"]),("reload",["beat", "save"]),("save",["beat", "window", "count"]),("back",["beat", "save"]),("settle",["beat", "clash", "choice"]),("piece",["mark", "version"]),("clash",["mark", "version"])]
noncomputable def zob (w:Str):Option (List Str):=(SHAPES.find? λ p=>p.1=w).map (·.2)
noncomputable def rowL (z:Str):Option (Str×List PyData):=match zob (Txt.partition z " ").1 with
 | none=>none
 | some ks=>match cutK 32 (Txt.split z " ") ks.length with
  | []=>none
  | w::fs=>if fs.length=ks.length then (zxa (λ p:Str×Str=>zib p.1 p.2) (ks.zip fs)).map λ ds=>(w,ds) else none
noncomputable def zw2 (A:Adr):Sp:=zqc (λ (z:Str) vs _=>vs=[.str z]) (λ z r _=>r = .str z∧zyb z=true) (λ z C=>C=A.NoText∧zyb z=false)
noncomputable def zyz (A:Adr):Sp:=zqc (λ (z:Str) vs _=>vs=[.str z]) (λ z r _=>r = .str z∧z∈(["stay", "turn", "both"]:List Str)) (λ z C=>C=A.NoText∧z∉(["stay", "turn", "both"]:List Str))
noncomputable def zoy (K:W.Frag) (A:Adr):Sp:=zqc (λ (a:Str×Str) vs _=>vs=[.str a.1,.str a.2]∧a.2.length≤640∧a.1∈zpt) (λ a r H=>∃ d,DV K H d r∧zib a.1 a.2=some d) (λ a C=>C=A.NoText∧zib a.1 a.2=none)
noncomputable def zcz (K:W.Frag) (A:Adr):Sp:=zqc (λ (z:Str) vs _=>vs=[.str z]∧z.length≤640) (λ z r H=>∃ w ds,DV K H (.tuple [.str w,.tuple ds]) r∧rowL z=some (w,ds)) (λ z C=>C=A.NoText∧rowL z=none)
theorem zvg (z:Str):∀ l:List Str,inV (.str z) (l.map V.str)=decide (z∈l)
 | []=>rfl
 | a::l=>by
  have ih:=zvg z l
  unfold inV at ih ⊢
  rw [List.map_cons,List.any_cons,ih]
  show ((a == z) || decide (z∈l))=decide (z∈a::l)
  by_cases h:z=a
  ·subst h
   rw [beq_self_eq_true,Bool.true_or,decide_eq_true List.mem_cons_self]
  ·rw [beq_eq_false_iff_ne.mpr (Ne.symm h),Bool.false_or]
   exact decide_eq_decide.mpr ⟨List.mem_cons_of_mem _,λ x=>(List.mem_cons.mp x).resolve_left h⟩
theorem ztq (z:Str):zib "mark" z=(zdj z).map markD:=by unfold zib;rw [if_pos rfl]
theorem zpi (z:Str):zib "behind" z=(if z = "-" then some .none else (zdj z).map markD):=by
 unfold zib
 rw [if_neg (show ¬ ("behind" : Str) = "mark" by decide),if_pos rfl]
theorem zlg (z:Str):zib "version" z=(verL z).map ver:=by
 unfold zib
 rw [if_neg (show ¬ ("version" : Str) = "mark" by decide),if_neg (show ¬ ("version" : Str) = "behind" by decide),if_pos rfl]
theorem zsm (z:Str):zib "words" z=(if zyb z=true then some (.str z) else none):=by
 unfold zib
 rw [if_neg (show ¬ ("words" : Str) = "mark" by decide),if_neg (show ¬ ("words" : Str) = "behind" by decide),if_neg (show ¬ ("words" : Str) = "version" by decide),if_pos rfl]
theorem zmj (z:Str):zib "choice" z=(if z∈(["stay", "turn", "both"]:List Str) then some (.str z) else none):=by
 unfold zib
 rw [if_neg (show ¬ ("choice" : Str) = "mark" by decide),if_neg (show ¬ ("choice" : Str) = "behind" by decide),if_neg (show ¬ ("choice" : Str) = "version" by decide),if_neg (show ¬ ("choice" : Str) = "words" by decide),if_pos rfl]
theorem zwp (z:Str):zib "many" z=(zue z.cps.toList).map PyData.int:=by
 unfold zib
 rw [if_neg (show ¬ ("many" : Str) = "mark" by decide),if_neg (show ¬ ("many" : Str) = "behind" by decide),if_neg (show ¬ ("many" : Str) = "version" by decide),if_neg (show ¬ ("many" : Str) = "words" by decide),if_neg (show ¬ ("many" : Str) = "choice" by decide),if_pos rfl]
theorem zwl {k:Str} (h:k∈(["beat", "window", "clash", "save", "count"]:List Str)) (z:Str):zib k z=(zoc z (zdd k)).map PyData.int:=by
 have hn:∀ x∈(["beat", "window", "clash", "save", "count"]:List Str),¬ x = "mark" ∧ ¬ x = "behind" ∧ ¬ x = "version" ∧ ¬ x = "words" ∧ ¬ x = "choice" ∧ ¬ x = "many" := by decide
 obtain ⟨h1,h2,h3,h4,h5,h6⟩:=hn k h
 unfold zib
 rw [if_neg h1,if_neg h2,if_neg h3,if_neg h4,if_neg h5,if_neg h6]
theorem zfu {α:Type} {K:W.Frag} {H:Hp} {f:α→Option PyData}:∀ {xs:List α} {ys:List V},ys.length=xs.length→(∀ (i:Nat) y,ys[i]? = some y→∃ x d,xs[i]? = some x∧f x=some d∧DV K H d y)→∃ ds,zxa f xs=some ds∧DVs K H ds ys:=by
 intro xs
 induction xs with
 | nil =>
  intro ys hl _
  cases ys with
  | nil=>exact ⟨[],rfl,rfl⟩
  | cons _ _=>simp at hl
 | cons x xs ih =>
  intro ys hl h
  cases ys with
  | nil=>simp at hl
  | cons y ys =>
   obtain ⟨x',d,e1,e2,e3⟩:=h 0 y rfl
   cases (show some x=some x' from e1)
   obtain ⟨ds,h1,h2⟩:=ih (ys:=ys) (by simpa using hl) λ i z hz=>h (i+1) z hz
   refine ⟨d::ds,?_,y,ys,rfl,e3,h2⟩
   unfold zxa
   rw [e2,h1]
theorem zxt {k z:Str} {d:PyData} (h:zib k z=some d):noL d=true:=by
 unfold zib at h
 split at h
 ·obtain ⟨m,_,rfl⟩:=Option.map_eq_some_iff.mp h;rfl
 split at h
 ·split at h
  ·cases h;rfl
  ·obtain ⟨m,_,rfl⟩:=Option.map_eq_some_iff.mp h;rfl
 split at h
 ·obtain ⟨m,_,rfl⟩:=Option.map_eq_some_iff.mp h;exact zli m
 split at h
 ·split at h
  ·cases h;rfl
  ·cases h
 split at h
 ·split at h
  ·cases h;rfl
  ·cases h
 split at h
 ·obtain ⟨m,_,rfl⟩:=Option.map_eq_some_iff.mp h;rfl
 ·obtain ⟨m,_,rfl⟩:=Option.map_eq_some_iff.mp h;rfl
theorem zri {K:W.Frag} {H:Hp}:∀ {kvs:List (Str×Value)} {shs:List (Str×List Str)},Paired (λ (kv:Str×Value) (sh:Str×List Str)=>kv.1=sh.1∧∃ a,kv.2 = .ref a∧SqT K H a (sh.2.map V.str)) kvs shs→∀ k:Str,(valueAt kvs k=none∧(shs.find? λ p=>p.1=k)=none) ∨ ∃ a p,valueAt kvs k=some (.ref a)∧(shs.find? λ p=>p.1=k)=some p∧SqT K H a (p.2.map V.str)
 | _,_,.nil,k=>.inl ⟨rfl,rfl⟩
 | kv::kvs,sh::shs,.cons r rr,k=>by
  unfold valueAt
  rw [List.find?_cons,List.find?_cons,r.1]
  by_cases h:sh.1=k
  ·rw [decide_eq_true h]
   obtain ⟨a,e,hq⟩:=r.2
   exact .inr ⟨a,sh,by rw [← e];rfl,rfl,hq⟩
  ·rw [decide_eq_false h]
   exact zri rr k
theorem zog:∀ p∈SHAPES,(1≤p.2.length∧p.2.length≤4)∧∀ x∈p.2,x∈zpt:=by decide +kernel
noncomputable abbrev KVS (A:Adr):List (Str×Value):=[("begin",Value.ref A.v_SHAPES_begin),("put",Value.ref A.v_SHAPES_put),("take",Value.ref A.v_SHAPES_take),("move",Value.ref A.v_SHAPES_move),("write",Value.ref A.v_SHAPES_write),("part",Value.ref A.v_SHAPES_part),("join",Value.ref A.v_SHAPES_join),("carry",Value.ref A.v_SHAPES_carry),("undo",Value.ref A.v_SHAPES_undo),("again",Value.ref A.v_SHAPES_again),("reload",Value.ref A.v_SHAPES_reload),("save",Value.ref A.v_SHAPES_save),("back",Value.ref A.v_SHAPES_back),("settle",Value.ref A.v_SHAPES_settle),("piece",Value.ref A.v_SHAPES_piece),("clash",Value.ref A.v_SHAPES_clash)]
theorem zdm {w:World} {K:W.Frag} {mg:Str→Option Value} {A:Adr} (T:Txt w K mg A) (H:Hp) (k:Str):(valueAt (KVS A) k=none∧zob k=none) ∨
  ∃ a ks,valueAt (KVS A) k=some (.ref a)∧zob k=some ks∧SqT K H a (ks.map V.str)∧(1≤ks.length∧ks.length≤4)∧∀ x∈ks,x∈zpt:=by
 have pr:Paired (λ (kv:Str×Value) (sh:Str×List Str)=>kv.1=sh.1∧∃ a,kv.2 = .ref a∧SqT K H a (sh.2.map V.str)) (KVS A) SHAPES:=(.cons ⟨rfl,_,rfl,T.q_SHAPES_begin H⟩ (.cons ⟨rfl,_,rfl,T.q_SHAPES_put H⟩ (.cons ⟨rfl,_,rfl,T.q_SHAPES_take H⟩ (.cons ⟨rfl,_,rfl,T.q_SHAPES_move H⟩ (.cons ⟨rfl,_,rfl,T.q_SHAPES_write H⟩ (.cons ⟨rfl,_,rfl,T.q_SHAPES_part H⟩ (.cons ⟨rfl,_,rfl,T.q_SHAPES_join H⟩ (.cons ⟨rfl,_,rfl,T.q_SHAPES_carry H⟩ (.cons ⟨rfl,_,rfl,T.q_SHAPES_undo H⟩ (.cons ⟨rfl,_,rfl,T.q_SHAPES_again H⟩ (.cons ⟨rfl,_,rfl,T.q_SHAPES_reload H⟩ (.cons ⟨rfl,_,rfl,T.q_SHAPES_save H⟩ (.cons ⟨rfl,_,rfl,T.q_SHAPES_back H⟩ (.cons ⟨rfl,_,rfl,T.q_SHAPES_settle H⟩ (.cons ⟨rfl,_,rfl,T.q_SHAPES_piece H⟩ (.cons ⟨rfl,_,rfl,T.q_SHAPES_clash H⟩ .nil))))))))))))))))
 unfold zob
 rcases zri pr k with ⟨h1,h2⟩ | ⟨a,p,h1,h2,h3⟩
 ·exact .inl ⟨h1,by rw [h2];rfl⟩
 ·have hm:=zog p (List.mem_of_find?_eq_some h2)
  exact .inr ⟨a,p.2,h1,by rw [h2];rfl,h3,hm.1,hm.2⟩
theorem zdu (z:Str) (n:Nat):∃ w fs,cutK 32 (Txt.split z " ") n=w::fs:=by
 have hne:Txt.split z " " ≠ []:=zdc z 32
 unfold cutK
 split
 ·cases e:Txt.split z " " with
  | nil=>exact absurd e hne
  | cons a l=>exact ⟨a,l,rfl⟩
 ·cases e:(Txt.split z " ").take n with
  | nil=>exact ⟨_,[],rfl⟩
  | cons a l=>exact ⟨a,_,rfl⟩
theorem zef {z p:Str} (h:p∈Txt.split z " "):p.length≤z.length:=part_short h
theorem ztd (g:Str):∀ (ps:List Str) (n:Nat),(Str.join g (ps.drop n)).length≤(Str.join g ps).length
 | ps,0=>by rw [List.drop_zero];exact Nat.le_refl _
 | [],n+1=>by rw [List.drop_nil];exact Nat.le_refl _
 | [q],n+1=>by rw [List.drop_succ_cons,List.drop_nil];exact Nat.zero_le _
 | q::q2::r,n+1=>by
  have h:=ztd g (q2::r) n
  rw [List.drop_succ_cons]
  show _≤((q++g)++Str.join g (q2::r)).length
  rw [zja]
  omega
theorem zul (z:Str) (n:Nat):(Str.join ⟨#[32]⟩ ((Txt.split z " ").drop n)).length≤z.length:=by
 have h:=ztd ⟨#[32]⟩ (Txt.split z " ") n
 have e:Str.join ⟨#[32]⟩ (Txt.split z " ")=z:=StrLaws.join_split z ⟨#[32]⟩
 rw [e] at h
 exact h
theorem zgm {z p:Str} {n:Nat} (h:p∈cutK 32 (Txt.split z " ") n):p.length≤z.length:=by
 unfold cutK at h
 split at h
 ·exact zef h
 ·rcases List.mem_append.mp h with h | h
  ·exact zef (List.mem_of_mem_take h)
  ·rw [List.mem_singleton.mp h]
   exact zul z n
theorem zjr (xs:List V):cutV xs none (some (-1))=xs.take (xs.length - 1):=by
 unfold cutV
 have h1:HT.sIx xs.length 0 none=0:=rfl
 have h2:HT.sIx xs.length xs.length (some (-1))=xs.length - 1:=by
  simp only [HT.sIx]
  rw [if_pos (by decide)]
  omega
 rw [h1,h2,List.drop_zero,Nat.sub_zero]
noncomputable abbrev HDS:List Str:=["save", "back", "settle"]
noncomputable abbrev Row:=Str×List PyData
noncomputable def rowD (r:Row):PyData := .tuple [.str r.1,.tuple r.2]
noncomputable def ofW (w:Str) (rs:List Row):List Row:=rs.filter λ r=>decide (r.1=w)
noncomputable def zjs (rs:List Row):Option PyData:=match rs with
 | []=>none
 | r::rest=>if r.1∉HDS then none else if rest.map (·.1)=List.replicate (ofW "piece" (r::rest)).length ("piece" : Str)++List.replicate (ofW "clash" (r::rest)).length ("clash" : Str) then
   some (.tuple [.tuple (.str r.1::r.2),.list ((ofW "piece" (r::rest)).map λ x:Row=>.tuple x.2),.list ((ofW "clash" (r::rest)).map λ x:Row=>.tuple x.2)]) else none
noncomputable def zuh (zs:List Str):Option PyData:=if zs.getLast? = some ("end" : Str) then (zxa rowL zs.dropLast).bind zjs else none
noncomputable def okZ (z:Str):Prop:=z.length≤640∧PyData.strOk z=true
theorem zub {α β:Type} {f:α→Option β}:∀ {xs:List α} {ys:List β},zxa f xs=some ys→∀ y∈ys,∃ x∈xs,f x=some y
 | [],ys,h,y,hy=>by cases h;cases hy
 | x::xs,ys,h,y,hy=>by
  unfold zxa at h
  cases e1:f x with
  | none=>rw [e1] at h;cases h
  | some b =>
   cases e2:zxa f xs with
   | none=>rw [e1,e2] at h;cases h
   | some bs =>
    rw [e1,e2] at h
    cases h
    rcases List.mem_cons.mp hy with rfl | hy
    ·exact ⟨x,List.mem_cons_self,e1⟩
    ·obtain ⟨x',hx,e⟩:=zub e2 y hy
     exact ⟨x',List.mem_cons_of_mem _ hx,e⟩
theorem znh:∀ {ds:List PyData},(∀ d∈ds,noL d=true)→noLs ds=true
 | [],_=>rfl
 | d::ds,h=>by
  show (noL d && noLs ds)=true
  rw [h d List.mem_cons_self,znh λ x hx=>h x (List.mem_cons_of_mem _ hx)]
  rfl
theorem zxf {z w:Str} {ds:List PyData} (h:rowL z=some (w,ds)):∃ ks fs,zob (Txt.partition z " ").1=some ks∧cutK 32 (Txt.split z " ") ks.length=w::fs∧fs.length=ks.length∧zxa (λ p:Str×Str=>zib p.1 p.2) (ks.zip fs)=some ds:=by
 unfold rowL at h
 split at h
 ·cases h
 ·rename_i ks hks
  split at h
  ·cases h
  ·rename_i w' fs hc
   split at h
   ·rename_i hl
    obtain ⟨ds',h1,h2⟩:=Option.map_eq_some_iff.mp h
    cases h2
    exact ⟨ks,fs,hks,hc,hl,h1⟩
   ·cases h
theorem zuq {z:Str} {r:Row} (h:rowL z=some r):noL (rowD r)=true:=by
 obtain ⟨w,ds⟩:=r
 obtain ⟨ks,fs,_,_,_,ho⟩:=zxf h
 have:noLs ds=true:=znh λ d hd=>by
  obtain ⟨p,_,e⟩:=zub ho d hd
  exact zxt e
 show (true && ((noLs ds) && true))=true
 rw [this]
 rfl
theorem zln {z w:Str} {n:Nat} {fs:List Str} (h:cutK 32 (Txt.split z " ") (n+1)=w::fs):∃ l,Txt.split z " " = w::l:=by
 have hne:Txt.split z " " ≠ []:=zdc z 32
 cases e:Txt.split z " " with
 | nil=>exact absurd e hne
 | cons a l =>
  rw [e] at h
  unfold cutK at h
  split at h
  ·cases h;exact ⟨_,rfl⟩
  ·rw [List.take_succ_cons,List.cons_append] at h
   cases h
   exact ⟨_,rfl⟩
theorem zae {w:Str} {ks:List Str} (h:zob w=some ks):(1≤ks.length∧ks.length≤4)∧∀ x∈ks,x∈zpt:=by
 unfold zob at h
 obtain ⟨p,h1,rfl⟩:=Option.map_eq_some_iff.mp h
 exact zog p (List.mem_of_find?_eq_some h1)
theorem zer {z:Str} {r:Row} (h:rowL z=some r):∃ l,Txt.split z " " = r.1::l:=by
 obtain ⟨w,ds⟩:=r
 obtain ⟨ks,fs,h1,h2,_,_⟩:=zxf h
 obtain ⟨n,e⟩:∃ n,ks.length=n+1:=⟨ks.length - 1,by have:=(zae h1).1.1;omega⟩
 rw [e] at h2
 exact zln h2
theorem zf0 {z:Str} {r:Row} (h:rowL z=some r) (ok:PyData.strOk z=true):PyData.strOk r.1=true:=by
 obtain ⟨l,e⟩:=zer h
 exact zrv (c:=32) ok (by show r.1∈Txt.split z " ";rw [e];exact List.mem_cons_self)
theorem zst {z:Str} {r:Row} (h:rowL z=some r):r.2.length≤4:=by
 obtain ⟨w,ds⟩:=r
 obtain ⟨ks,fs,h1,_,hl,ho⟩:=zxf h
 have h4:=(zae h1).1.2
 have:=zne ho
 rw [List.length_zip] at this
 show ds.length≤4
 omega
theorem zlh {α:Type} {K:W.Frag} {H:Hp} {f:α→PyData}:∀ {is:List α} {ys:List V},Paired (λ i y=>DV K H (f i) y) is ys→DVs K H (is.map f) ys
 | _,_,.nil=>rfl
 | _,_,.cons r rr=>⟨_,_,rfl,r,zlh rr⟩
noncomputable instance:Inhabited Row:=⟨("",[])⟩
theorem zks {α β:Type} {K:W.Frag} {H:Hp} {f:α→Option β} {g:β→PyData}:∀ {xs:List α} {ys:List V},ys.length=xs.length→(∀ (i:Nat) y,ys[i]? = some y→∃ x d,xs[i]? = some x∧f x=some d∧DV K H (g d) y)→∃ ds,zxa f xs=some ds∧DVs K H (ds.map g) ys:=by
 intro xs
 induction xs with
 | nil =>
  intro ys hl _
  cases ys with
  | nil=>exact ⟨[],rfl,rfl⟩
  | cons _ _=>simp at hl
 | cons x xs ih =>
  intro ys hl h
  cases ys with
  | nil=>simp at hl
  | cons y ys =>
   obtain ⟨x',d,e1,e2,e3⟩:=h 0 y rfl
   cases (show some x=some x' from e1)
   obtain ⟨ds,h1,h2⟩:=ih (ys:=ys) (by simpa using hl) λ i z hz=>h (i+1) z hz
   refine ⟨d::ds,?_,y,ys,rfl,e3,h2⟩
   unfold zxa
   rw [e2,h1]
theorem zth (v:V):∀ n:Nat,(List.replicate n [v]).flatten=List.replicate n v
 | 0=>rfl
 | n+1=>by rw [List.replicate_succ,List.replicate_succ,List.flatten_cons,zth v n];rfl
theorem zrq {K:W.Frag} {H:Hp} {r:Row} {y:V} (h:DV K H (rowD r) y):∃ t x,y = .ref t∧SqT K H t [.str r.1,x]∧DV K H (.tuple r.2) x:=by
 obtain ⟨t,vs,rfl,hq,v,vr,rfl,hv,x,xr,rfl,hx,e⟩:=h
 cases e
 have hv:v = .str r.1:=hv
 subst hv
 exact ⟨t,x,rfl,hq,hx⟩
theorem zws {K:W.Frag} {H:Hp} {rs:List Row} {vs:List V} (h:DVs K H (rs.map rowD) vs) {i:Nat} (hi:i<rs.length):∃ t x,vs.getD i .non = .ref t∧SqT K H t [.str rs[i].1,x]∧DV K H (.tuple rs[i].2) x:=by
 obtain ⟨y,hy,hd⟩:=h.get (i:=i) (d:=rowD rs[i]) (by rw [List.getElem?_map,List.getElem?_eq_getElem hi];rfl)
 obtain ⟨t,x,rfl,h1,h2⟩:=zrq hd
 exact ⟨t,x,by rw [List.getD_eq_getElem?_getD,hy];rfl,h1,h2⟩
noncomputable def okN (n:Nat) (z:Str):Prop:=z.length≤n∧PyData.strOk z=true
noncomputable def zk3:Sp:=zwm (λ (a:Int×Int) vs=>vs=[.int a.1,.int a.2]∧0≤a.2∧a.2≤100) (λ _ v=>∃ n:Int,v = .int n)
theorem zlw {zs:List Str} {m n:Nat} {k:Int} (hz:∀ z∈zs,okN n z) (h0:0≤k) (h1:k<m) (hm:m≤zs.length):∃ z,atI (zs.map V.str) k=some (.str z)∧okN n z∧z∈zs:=by
 obtain ⟨v,hv,hmem⟩:=zhq (xs:=zs.map V.str) (i:=k) h0 (by rw [List.length_map];omega)
 obtain ⟨z,hzm,rfl⟩:=List.mem_map.mp hmem
 exact ⟨z,hv,hz z hzm,hzm⟩
theorem zqp {n:Nat} {zs:List Str} (h:(zs.all λ z=>decide (z.length≤n) && PyData.strOk z)=true):∀ z∈zs,okN n z:=λ z hz=>by
 have:=List.all_eq_true.mp h z hz
 rw [Bool.and_eq_true] at this
 exact ⟨of_decide_eq_true this.1,this.2⟩
theorem zbo {z w:Str} {l:List Str} (h:Txt.split z " " = w::l):(Txt.partition z " ").1=w:=by
 rcases zfh z 32 with ⟨hp,hs⟩ | ⟨a,r,hp,hs,_,_⟩
 ·have hp:Txt.partition z " " = (z,Str.empty,Str.empty):=hp
  have hs:Txt.split z " " = [z]:=hs
  rw [hs] at h
  cases h
  rw [hp]
 ·have hp:Txt.partition z " " = (a,⟨#[32]⟩,r):=hp
  have hs:Txt.split z " " = a::Txt.split r " " := hs
  rw [hs] at h
  cases h
  rw [hp]
theorem zoh {w:Str} (h:w = "piece" ∨ w = "clash"):zob w=some (["mark", "version"]:List Str):=by
 rcases h with rfl | rfl
 ·decide +kernel
 ·decide +kernel
theorem znr (ps:List Str):Txt.join " " ps=Str.join ⟨#[32]⟩ ps:=StrLaws.glued_eq_join _ _
theorem zns {ys:List Str}:zuh (ys++[Str.ofString "end"])=(zxa rowL ys).bind zjs:=by
 unfold zuh
 rw [List.getLast?_concat,List.dropLast_concat,if_pos rfl]
noncomputable def zs3 (A:Adr):Sp:=λ vs H Q E=>Plain H∧∃ n:Int,vs=[.int n] ∧ -(10 ^ 40)<n∧n<10 ^ 40∧(-(10 ^ 30)<n→n<10 ^ 30→Q (.str (toString n)) H)∧(¬ (-(10 ^ 30)<n∧n<10 ^ 30)→E (.ref A.NoText) none H)
noncomputable def zo2 (K:W.Frag) (A:Adr):Sp:=zqc (λ (a:Addr×List Int) vs H=>vs=[.ref a.1]∧SqT K H a.1 (a.2.map V.int)∧a.2.length≤10∧∀ n∈a.2,B40 n)
 (λ a v _=>(∀ n∈a.2,B30 n)∧v = .str (dots a.2)) (λ a C=>C=A.NoText∧∃ n∈a.2,¬ B30 n)
noncomputable def zm4 (K:W.Frag) (A:Adr):Sp:=zqc (λ (a:Addr×List Stp) vs H=>vs=[.ref a.1]∧DV K H (plc a.2) (.ref a.1)∧a.2.length≤10∧∀ s∈a.2,S40 s)
 (λ a v _=>(∀ s∈a.2,S30 s)∧v = .str (zvc a.2)) (λ a C=>C=A.NoText∧∃ s∈a.2,¬ S30 s)
noncomputable def zi3 (K:W.Frag):Sp:=zqc (λ (v:Ver) vs H=>∃ x,vs=[x]∧DV K H (ver v) x) (λ v r _=>r = .bl (!decide (v.2.1=[]))) (λ _ _=>False)
noncomputable def zsb (v:Ver):Str:=if v.2.1=[] then Str.ofString (toString v.1) ++ " -" else (((Str.ofString (toString v.1) ++ " ")++zvc v.2.1) ++ " ")++v.2.2
noncomputable def G40 (v:Ver):Prop:=B40 v.1∧v.2.1.length≤6∧(∀ s∈v.2.1,S40 s)∧v.2.2.length≤20
noncomputable def zf3 (K:W.Frag) (A:Adr):Sp:=zqc (λ (v:Ver) vs H=>∃ x,vs=[x]∧DV K H (ver v) x∧G40 v) (λ v r _=>(B30 v.1∧∀ s∈v.2.1,S30 s)∧r = .str (zsb v)) (λ v C=>C=A.NoText∧¬ (B30 v.1∧∀ s∈v.2.1,S30 s))
noncomputable abbrev numT (n:Int):Str:=Str.ofString (toString n)
theorem zqs:∀ m:Nat,0<m→∀ c r,Nat.toDigits 10 m=c::r→c ≠ '0':=λ m=>by
 induction m using Nat.strongRecOn with
 | _ m ih =>
  intro h0 c r e
  by_cases h:m<10
  ·rw [Nat.toDigits_of_lt_base h] at e
   cases e
   have al:∀ d:Nat,d<10→0<d→Nat.digitChar d ≠ '0':=by decide
   exact al m h h0
  ·have hm:m % 10<10:=Nat.mod_lt m (by decide)
   have t:Nat.toDigits 10 (m / 10)++Nat.toDigits 10 (m % 10)=Nat.toDigits 10 (10 * (m / 10)+m % 10):=Nat.toDigits_append_toDigits (by decide) (by omega) hm
   rw [Nat.div_add_mod] at t
   cases ed:Nat.toDigits 10 (m / 10) with
   | nil=>exact absurd ed Nat.toDigits_ne_nil
   | cons a b =>
    rw [ed,List.cons_append,e] at t
    have:=ih (m / 10) (by omega) (by omega) a b ed
    rw [(List.cons.inj t).1] at this
    exact this
theorem zqh (m:Nat):((Nat.toDigits 10 m).map Char.toNat).all zvj=true:=by
 rw [List.all_eq_true]
 intro c hc
 obtain ⟨ch,hch,e⟩:=List.mem_map.mp hc
 have r:=digit_range (Nat.isDigit_of_mem_toDigits (by decide) (by decide) hch)
 rw [← e]
 unfold zvj
 rw [decide_eq_true r.1,decide_eq_true r.2]
 rfl
theorem zpj {m:Nat} (h:0<m):¬ ((Nat.toDigits 10 m).map Char.toNat).head? = some 48:=λ e=>by
 cases ed:Nat.toDigits 10 m with
 | nil=>exact Nat.toDigits_ne_nil ed
 | cons a b =>
  rw [ed] at e
  have e:a.toNat=48:=Option.some.inj e
  have:=zqs m h a b ed
  exact this (Char.toNat_inj.mp (by rw [e];rfl))
theorem zrf (m:Nat):((Nat.toDigits 10 m).map Char.toNat).length≤30↔m<10 ^ 30:=by
 rw [List.length_map]
 exact Nat.length_toDigits_le_iff (by decide) (by decide)
theorem zal (m:Nat):0<((Nat.toDigits 10 m).map Char.toNat).length:=by
 rw [List.length_map]
 exact Nat.length_toDigits_pos
theorem zfp (m:Nat):(numT (Int.negSucc m)).cps.toList=45::(Nat.toDigits 10 (m+1)).map Char.toNat:=by
 rw [signs_ofString]
 show ("-" ++ Nat.repr (m+1)).toList.map Char.toNat=_
 rw [String.toList_append,Nat.toList_repr]
 rfl
theorem zgi (n:Int):(B30 n∧zue (numT n).cps.toList=some n) ∨ (¬ B30 n∧zue (numT n).cps.toList=none):=by
 cases n with
 | ofNat m =>
  have e:(numT (Int.ofNat m)).cps.toList=(Nat.toDigits 10 m).map Char.toNat:=W.KIN.signs_num m
  rw [e]
  have h45:¬ ((Nat.toDigits 10 m).map Char.toNat).head? = some 45:=λ x=>by
   have:=List.all_eq_true.mp (zqh m) 45 (List.mem_of_head? x)
   exact absurd this (by decide)
  unfold zue
  rw [if_neg h45]
  by_cases hl:m<10 ^ 30
  ·refine .inl ⟨by unfold B30;show -(10 ^ 30)<(m:Int)∧(m:Int)<10 ^ 30;omega,?_⟩
   have h1:=(zrf m).mpr hl
   have h2:=zal m
   rw [if_neg]
   ·rw [W.KIN.val_back]
    rfl
   ·rintro (x | x | x | ⟨x,y⟩)
    ·omega
    ·omega
    ·rw [zqh] at x;cases x
    ·by_cases h0:0<m
     ·exact zpj h0 x
     ·have:m=0:=by omega
      subst this
      exact absurd y (by decide)
  ·refine .inr ⟨λ x=>hl (by unfold B30 at x;have x : -(10 ^ 30)<(m:Int)∧(m:Int)<10 ^ 30:=x;omega),?_⟩
   have h1:¬ ((Nat.toDigits 10 m).map Char.toNat).length≤30:=λ x=>hl ((zrf m).mp x)
   exact if_pos (.inr (.inl (by omega)))
 | negSucc m =>
  rw [zfp]
  unfold zue
  rw [if_pos (show (45::(Nat.toDigits 10 (m+1)).map Char.toNat).head? = some 45 from rfl)]
  show (_∧(if ((Nat.toDigits 10 (m+1)).map Char.toNat).length<1 ∨ 30<((Nat.toDigits 10 (m+1)).map Char.toNat).length ∨ ((Nat.toDigits 10 (m+1)).map Char.toNat).all zvj=false ∨ ((Nat.toDigits 10 (m+1)).map Char.toNat).head? = some 48 then none else some (-((digitsVal ((Nat.toDigits 10 (m+1)).map Char.toNat):Nat):Int)))=_) ∨ (_∧(if ((Nat.toDigits 10 (m+1)).map Char.toNat).length<1 ∨ 30<((Nat.toDigits 10 (m+1)).map Char.toNat).length ∨ ((Nat.toDigits 10 (m+1)).map Char.toNat).all zvj=false ∨ ((Nat.toDigits 10 (m+1)).map Char.toNat).head? = some 48 then none else some (-((digitsVal ((Nat.toDigits 10 (m+1)).map Char.toNat):Nat):Int)))=_)
  by_cases hl:m+1<10 ^ 30
  ·refine .inl ⟨by unfold B30;omega,?_⟩
   have h1:=(zrf (m+1)).mpr hl
   have h2:=zal (m+1)
   rw [if_neg]
   ·rw [W.KIN.val_back]
    congr 1
   ·rintro (x | x | x | x)
    ·omega
    ·omega
    ·rw [zqh] at x;cases x
    ·exact zpj (Nat.succ_pos m) x
  ·refine .inr ⟨λ x=>hl (by unfold B30 at x;omega),?_⟩
   have h1:¬ ((Nat.toDigits 10 (m+1)).map Char.toNat).length≤30:=λ x=>hl ((zrf (m+1)).mp x)
   exact if_pos (.inr (.inl (by omega)))
theorem zge {n k:Int} (h:k≤n):(B30 n∧zoc (numT n) k=some n) ∨ (¬ B30 n∧zoc (numT n) k=none):=by
 unfold zoc
 rcases zgi n with ⟨h1,h2⟩ | ⟨h1,h2⟩
 ·rw [h2]
  exact .inl ⟨h1,if_neg (by omega)⟩
 ·rw [h2]
  exact .inr ⟨h1,rfl⟩
theorem zwf (n:Int) (k:Nat) (hk:k≠45∧(k<48 ∨ 57<k)):k∉(numT n).cps.toList:=int_text_free' k hk n
theorem zwg {c:Nat} {ps:List Str} (h0:ps≠[]) (h:∀ p∈ps,c∉p.cps.toList):Txt.split (Txt.join ⟨#[c]⟩ ps) ⟨#[c]⟩=ps :=
 zlc _ _ (zdc _ c) h0 (StrLaws.split_free _ c) h (by rw [StrLaws.join_split];exact StrLaws.glued_eq_join _ _)
theorem zxe:∀ ns:List Int,((∀ n∈ns,B30 n)∧zxa (λ p:Str=>zue p.cps.toList) (ns.map λ n=>numT n)=some ns) ∨ (¬ (∀ n∈ns,B30 n)∧zxa (λ p:Str=>zue p.cps.toList) (ns.map λ n=>numT n)=none)
 | []=>.inl ⟨λ _ h=>(nomatch h),rfl⟩
 | n::ns=>by
  rw [List.map_cons]
  unfold zxa
  rcases zgi n with ⟨h1,h2⟩ | ⟨h1,h2⟩
  ·rw [h2]
   rcases zxe ns with ⟨g1,g2⟩ | ⟨g1,g2⟩
   ·rw [g2]
    exact .inl ⟨λ x hx=>(List.mem_cons.mp hx).elim (λ e=>e ▸ h1) (g1 x),rfl⟩
   ·rw [g2]
    exact .inr ⟨λ x=>g1 λ y hy=>x y (List.mem_cons_of_mem _ hy),rfl⟩
  ·rw [h2]
   exact .inr ⟨λ x=>h1 (x n List.mem_cons_self),rfl⟩
theorem zyi {ns:List Int} (h0:ns≠[]) {k:Int} (hk:k=ns.length):((∀ n∈ns,B30 n)∧dotL (dots ns) k=some ns) ∨ (¬ (∀ n∈ns,B30 n)∧dotL (dots ns) k=none):=by
 have e:Txt.split (dots ns) "." = ns.map λ n=>numT n:=zwg (c:=46) (by simpa using h0) λ p hp=>by
  obtain ⟨n,_,rfl⟩:=List.mem_map.mp hp
  exact zwf n 46 (by decide)
 unfold dotL
 rw [e,List.length_map,if_pos hk.symm]
 exact zxe ns
noncomputable abbrev mFit (m:Mark):Prop:=B30 m.1∧B30 m.2
theorem zgg {m:Mark} (h:0≤m.1∧1≤m.2):(mFit m∧zdj (dots [m.1,m.2])=some m) ∨ (¬ mFit m∧zdj (dots [m.1,m.2])=none):=by
 unfold zdj
 rcases zyi (ns:=[m.1,m.2]) (by simp) (k:=2) rfl with ⟨h1,h2⟩ | ⟨h1,h2⟩
 ·rw [h2]
  refine .inl ⟨⟨h1 _ (by simp),h1 _ (by simp)⟩,?_⟩
  show (if m.1<0 ∨ m.2<1 then none else some (m.1,m.2))=some m
  rw [if_neg (by omega)]
 ·rw [h2]
  exact .inr ⟨λ x=>h1 λ n hn=>by
   simp only [List.mem_cons,List.not_mem_nil,or_false] at hn
   rcases hn with rfl | rfl
   ·exact x.1
   ·exact x.2,rfl⟩
noncomputable abbrev zik (s:Stp):Prop:=0≤s.2.1∧1≤s.2.2
theorem zzm {s:Stp} (h:zik s):(S30 s∧zdk (dots (sL s))=some s) ∨ (¬ S30 s∧zdk (dots (sL s))=none):=by
 unfold zdk
 rcases zyi (ns:=sL s) (by simp [sL]) (k:=3) rfl with ⟨h1,h2⟩ | ⟨h1,h2⟩
 ·rw [h2]
  refine .inl ⟨zlu h1,?_⟩
  show (if s.2.1<0 ∨ s.2.2<1 then none else some (s.1,s.2.1,s.2.2))=some s
  rw [if_neg (by have:=h.1;have:=h.2;omega)]
 ·rw [h2]
  exact .inr ⟨λ x=>h1 (zar x),rfl⟩
theorem zaf (g:Str) (ps:List Str) (c:Nat) (h:c∈(Txt.join g ps).cps.toList):c∈g.cps.toList ∨ ∃ p∈ps,c∈p.cps.toList:=by
 rw [show Txt.join g ps=Str.join g ps from StrLaws.glued_eq_join _ _] at h
 exact zuc g ps c h
theorem zbe {ns:List Int} {c:Nat} (hc:c≠45∧c≠46∧(c<48 ∨ 57<c)):c∉(dots ns).cps.toList:=λ h=>by
 rcases zaf _ _ c h with x | ⟨p,hp,x⟩
 ·have x:c∈([46]:List Nat):=x
  simp at x
  exact hc.2.1 x
 ·obtain ⟨n,_,rfl⟩:=List.mem_map.mp hp
  exact zwf n c ⟨hc.1,hc.2.2⟩ x
theorem zhe:∀ {ss:List Stp},(∀ s∈ss,zik s)→((∀ s∈ss,S30 s)∧zxa zdk (ss.map λ s=>dots (sL s))=some ss) ∨ (¬ (∀ s∈ss,S30 s)∧zxa zdk (ss.map λ s=>dots (sL s))=none)
 | [],_=>.inl ⟨λ _ h=>(nomatch h),rfl⟩
 | s::ss,h=>by
  rw [List.map_cons]
  unfold zxa
  rcases zzm (h s List.mem_cons_self) with ⟨h1,h2⟩ | ⟨h1,h2⟩
  ·rw [h2]
   rcases zhe (λ x hx=>h x (List.mem_cons_of_mem _ hx)) with ⟨g1,g2⟩ | ⟨g1,g2⟩
   ·rw [g2]
    exact .inl ⟨λ x hx=>(List.mem_cons.mp hx).elim (λ e=>e ▸ h1) (g1 x),rfl⟩
   ·rw [g2]
    exact .inr ⟨λ x=>g1 λ y hy=>x y (List.mem_cons_of_mem _ hy),rfl⟩
  ·rw [h2]
   exact .inr ⟨λ x=>h1 (x s List.mem_cons_self),rfl⟩
theorem zgl {ss:List Stp} (h0:ss≠[]) (h:∀ s∈ss,zik s):((∀ s∈ss,S30 s)∧zjh (zvc ss)=some ss) ∨ (¬ (∀ s∈ss,S30 s)∧zjh (zvc ss)=none):=by
 have e:Txt.split (zvc ss) "/" = ss.map λ s=>dots (sL s):=zwg (c:=47) (by simpa using h0) λ p hp=>by
  obtain ⟨s,_,rfl⟩:=List.mem_map.mp hp
  exact zbe (by decide)
 unfold zjh
 rw [e]
 exact zhe h
theorem zmk {ss:List Stp} {c:Nat} (hc:c≠45∧c≠46∧c≠47∧(c<48 ∨ 57<c)):c∉(zvc ss).cps.toList:=λ h=>by
 rcases zaf _ _ c h with x | ⟨p,hp,x⟩
 ·have x:c∈([47]:List Nat):=x
  simp at x
  exact hc.2.2.1 x
 ·obtain ⟨s,_,rfl⟩:=List.mem_map.mp hp
  exact zbe ⟨hc.1,hc.2.1,hc.2.2.2⟩ x
theorem zvh {a r:Str} {c:Nat} (h:c∉a.cps.toList):Txt.partition (a++(⟨#[c]⟩:Str)++r) ⟨#[c]⟩=(a,⟨#[c]⟩,r):=by
 have hs:=zce (r:=r) h
 rcases zfh (a++(⟨#[c]⟩:Str)++r) c with ⟨_,h2⟩ | ⟨a',r',h1,h2,h3,h4⟩
 ·rw [hs] at h2
  exact absurd (List.cons.inj h2).2 (zdc r c)
 ·rw [hs] at h2
  obtain ⟨e1,e2⟩:=List.cons.inj h2
  subst e1
  have e3:r=r':=by
   have:=congrArg (Str.join ⟨#[c]⟩) e2
   rw [StrLaws.join_split,StrLaws.join_split] at this
   exact this
  subst e3
  exact h1
noncomputable abbrev vFit (v:Ver):Prop:=B30 v.1∧∀ s∈v.2.1,S30 s
structure vGood (v:Ver):Prop where
 b:1≤v.1
 s:∀ s∈v.2.1,zik s
 w:zyb v.2.2=true
 o:v.2.1=[]→v.2.2 = ""
theorem zrb (a b c:Str):(a++b)++c=a++(b++c):=ext_toList (by rw [zwa,zwa,zwa,zwa,List.append_assoc])
theorem znp {v:Ver} (h:vGood v):(vFit v∧verL (zsb v)=some v) ∨ (¬ vFit v∧verL (zsb v)=none):=by
 obtain ⟨b,ss,w⟩:=v
 obtain ⟨hb,hs,hw,ho⟩:=h
 dsimp only at hb hs hw ho
 have f32:32∉(numT b).cps.toList:=zwf b 32 (by decide)
 by_cases h0:ss=[]
 ·subst h0
  have hw0:=ho rfl
  subst hw0
  have e:zsb (b,[], "")=numT b++(⟨#[32]⟩:Str)++(Str.ofString "-"):=by
   show numT b++(Str.ofString " -")=_
   rw [zrb]
   rfl
  have ep:Txt.partition (zsb (b,[], "")) " " = (numT b,⟨#[32]⟩,Str.ofString "-"):=by rw [e];exact zvh f32
  rcases zge (k:=1) hb with ⟨h1,h2⟩ | ⟨h1,h2⟩
  ·refine .inl ⟨⟨h1,λ _ h=>(nomatch h)⟩,zum (by rw [ep];exact h2) (by rw [ep])⟩
  ·refine .inr ⟨λ x=>h1 x.1,zif (by rw [ep];exact h2)⟩
 ·have e:zsb (b,ss,w)=numT b++(⟨#[32]⟩:Str)++(zvc ss++(⟨#[32]⟩:Str)++w):=by
   unfold zsb
   rw [if_neg h0]
   show (((numT b++(⟨#[32]⟩:Str))++zvc ss)++(⟨#[32]⟩:Str))++w=_
   rw [zrb,zrb,zrb,zrb,zrb]
  have ep:Txt.partition (zsb (b,ss,w)) " " = (numT b,⟨#[32]⟩,zvc ss++(⟨#[32]⟩:Str)++w):=by rw [e];exact zvh f32
  have hd:¬ (zvc ss++(⟨#[32]⟩:Str)++w)=Str.ofString "-" := λ x=>by
   have:32∈(zvc ss++(⟨#[32]⟩:Str)++w).cps.toList:=by
    rw [zwa,zwa]
    exact List.mem_append_left _ (List.mem_append_right _ List.mem_cons_self)
   rw [x] at this
   exact zqn this
  have ep2:Txt.partition (zvc ss++(⟨#[32]⟩:Str)++w) " " = (zvc ss,⟨#[32]⟩,w):=zvh (zmk (by decide))
  rcases zge (k:=1) hb with ⟨h1,h2⟩ | ⟨h1,h2⟩
  ·have ev:verL (zsb (b,ss,w))=znt b (zvc ss++(⟨#[32]⟩:Str)++w):=by rw [zyp (b:=b) (by rw [ep];exact h2) (by rw [ep];exact hd),ep]
   rw [ev]
   unfold znt
   rw [ep2]
   dsimp only
   rcases zgl h0 hs with ⟨g1,g2⟩ | ⟨g1,g2⟩
   ·rw [g2]
    refine .inl ⟨⟨h1,g1⟩,if_neg ?_⟩
    rintro (x | x)
    ·exact zds x
    ·rw [hw] at x;cases x
   ·rw [g2]
    exact .inr ⟨λ x=>g1 x.2,rfl⟩
  ·exact .inr ⟨λ x=>h1 x.1,zif (by rw [ep];exact h2)⟩
inductive Fld
 | mk (m:Mark)
 | bh (o:Option Mark)
 | vr (v:Ver)
 | tx (z:Str)
 | nm (n:Int)
noncomputable def Fld.data:Fld→PyData
 | .mk m=>L2.markD m
 | .bh none=>.none
 | .bh (some m)=>L2.markD m
 | .vr v=>ver v
 | .tx z=>.str z
 | .nm n=>.int n
noncomputable def Fld.text:Fld→Str
 | .mk m=>dots [m.1,m.2]
 | .bh none => "-"
 | .bh (some m)=>dots [m.1,m.2]
 | .vr v=>zsb v
 | .tx z=>z
 | .nm n=>numT n
noncomputable def Fld.fits:Fld→Prop
 | .mk m=>mFit m
 | .bh none=>True
 | .bh (some m)=>mFit m
 | .vr v=>vFit v
 | .tx _=>True
 | .nm n=>B30 n
noncomputable abbrev NKN:List Str:=["beat", "window", "save", "many", "count", "clash"]
noncomputable def Fld.isK (k:Str):Fld→Prop
 | .mk _=>k = "mark"
 | .bh _=>k = "behind"
 | .vr _=>k = "version"
 | .tx _=>k = "words" ∨ k = "choice"
 | .nm _=>k∈NKN
noncomputable def zxx (m:Mark):Prop:=0≤m.1∧1≤m.2
noncomputable def Fld.good (k:Str):Fld→Prop
 | .mk m=>zxx m
 | .bh o=>∀ m,o=some m→zxx m
 | .vr v=>vGood v
 | .tx z=>(k = "words" → zyb z=true)∧(k = "choice" → z∈(["stay", "turn", "both"]:List Str))
 | .nm n=>k = "many" ∨ zdd k≤n
theorem ztr {k:Str} {f:Fld} (hk:f.isK k) (hg:f.good k):(f.fits∧zib k f.text=some f.data) ∨ (¬ f.fits∧zib k f.text=none):=by
 cases f with
 | mk m =>
  have hk:k = "mark" := hk
  subst hk
  rw [ztq]
  rcases zgg hg with ⟨h1,h2⟩ | ⟨h1,h2⟩
  ·exact .inl ⟨h1,by show (zdj (dots [m.1,m.2])).map L2.markD=_;rw [h2];rfl⟩
  ·exact .inr ⟨h1,by show (zdj (dots [m.1,m.2])).map L2.markD=_;rw [h2];rfl⟩
 | bh o =>
  have hk:k = "behind" := hk
  subst hk
  rw [zpi]
  cases o with
  | none=>exact .inl ⟨trivial,if_pos rfl⟩
  | some m =>
   have hd:¬ dots [m.1,m.2]=Str.ofString "-" := λ x=>by
    have h46:46∈(dots [m.1,m.2]).cps.toList:=by
     show 46∈((numT m.1++(⟨#[46]⟩:Str))++numT m.2).cps.toList
     rw [zwa,zwa]
     exact List.mem_append_left _ (List.mem_append_right _ List.mem_cons_self)
    rw [x] at h46
    exact absurd h46 (by decide)
   have e:Fld.text (.bh (some m))=dots [m.1,m.2]:=rfl
   rw [e,if_neg hd]
   rcases zgg (hg m rfl) with ⟨h1,h2⟩ | ⟨h1,h2⟩
   ·exact .inl ⟨h1,by rw [h2];rfl⟩
   ·exact .inr ⟨h1,by rw [h2];rfl⟩
 | vr v =>
  have hk:k = "version" := hk
  subst hk
  rw [zlg]
  rcases znp hg with ⟨h1,h2⟩ | ⟨h1,h2⟩
  ·exact .inl ⟨h1,by show (verL (zsb v)).map ver=_;rw [h2];rfl⟩
  ·exact .inr ⟨h1,by show (verL (zsb v)).map ver=_;rw [h2];rfl⟩
 | tx z =>
  rcases (show k = "words" ∨ k = "choice" from hk) with rfl | rfl
  ·rw [zsm]
   exact .inl ⟨trivial,if_pos (hg.1 rfl)⟩
  ·rw [zmj]
   exact .inl ⟨trivial,if_pos (hg.2 rfl)⟩
 | nm n =>
  have hk:k∈NKN:=hk
  have hg:k = "many" ∨ zdd k≤n:=hg
  by_cases hm:k = "many"
  ·subst hm
   rw [zwp]
   rcases zgi n with ⟨h1,h2⟩ | ⟨h1,h2⟩
   ·exact .inl ⟨h1,by show (zue (numT n).cps.toList).map PyData.int=_;rw [h2];rfl⟩
   ·exact .inr ⟨h1,by show (zue (numT n).cps.toList).map PyData.int=_;rw [h2];rfl⟩
  ·have hk5:k∈(["beat", "window", "clash", "save", "count"]:List Str):=by
    have al:∀ k∈NKN,k = "many" ∨ k∈(["beat", "window", "clash", "save", "count"]:List Str):=by decide
    exact (al k hk).resolve_left hm
   rw [zwl hk5]
   rcases zge (hg.resolve_left hm) with ⟨h1,h2⟩ | ⟨h1,h2⟩
   ·exact .inl ⟨h1,by show (zoc (numT n) (zdd k)).map PyData.int=_;rw [h2];rfl⟩
   ·exact .inr ⟨h1,by show (zoc (numT n) (zdd k)).map PyData.int=_;rw [h2];rfl⟩
theorem zbf:∀ {ks:List Str} {fs:List Fld},Paired (λ k f=>f.isK k∧f.good k) ks fs→((∀ f∈fs,f.fits)∧zxa (λ p:Str×Str=>zib p.1 p.2) (ks.zip (fs.map Fld.text))=some (fs.map Fld.data)) ∨ (¬ (∀ f∈fs,f.fits)∧zxa (λ p:Str×Str=>zib p.1 p.2) (ks.zip (fs.map Fld.text))=none)
 | _,_,.nil=>.inl ⟨λ _ h=>(nomatch h),rfl⟩
 | k::ks,f::fs,.cons r rr=>by
  rw [List.map_cons,List.zip_cons_cons]
  unfold zxa
  dsimp only
  rcases ztr r.1 r.2 with ⟨h1,h2⟩ | ⟨h1,h2⟩
  ·rw [h2]
   rcases zbf rr with ⟨g1,g2⟩ | ⟨g1,g2⟩
   ·rw [g2]
    exact .inl ⟨λ x hx=>(List.mem_cons.mp hx).elim (λ e=>e ▸ h1) (g1 x),rfl⟩
   ·rw [g2]
    exact .inr ⟨λ x=>g1 λ y hy=>x y (List.mem_cons_of_mem _ hy),rfl⟩
  ·rw [h2]
   exact .inr ⟨λ x=>h1 (x f List.mem_cons_self),rfl⟩
noncomputable def Fld.bare:Fld→Prop
 | .mk _=>True
 | .bh _=>True
 | .nm _=>True
 | _=>False
theorem zjp {f:Fld} (h:f.bare):32∉f.text.cps.toList:=by
 cases f with
 | mk m=>exact zbe (by decide)
 | bh o =>
  cases o with
  | none=>decide
  | some m=>exact zbe (by decide)
 | vr v=>exact h.elim
 | tx z=>exact h.elim
 | nm n=>exact zwf n 32 (by decide)
noncomputable def rowT (w:Str) (fs:List Fld):Str:=Txt.join " " (w::fs.map Fld.text)
theorem zsg {x:Str}:∀ {ps:List Str},(∀ p∈ps,32∉p.cps.toList)→Txt.split (Str.join ⟨#[32]⟩ (ps++[x])) " " = ps++Txt.split x " "
 | [],_=>rfl
 | [p],h=>by
  show Txt.split ((p++(⟨#[32]⟩:Str))++x) ⟨#[32]⟩=_
  rw [zce (h p List.mem_cons_self)]
  rfl
 | p::p2::ps,h=>by
  have ih:=zsg (x:=x) (ps:=p2::ps) λ q hq=>h q (List.mem_cons_of_mem _ hq)
  show Txt.split ((p++(⟨#[32]⟩:Str))++Str.join ⟨#[32]⟩ ((p2::ps)++[x])) ⟨#[32]⟩=_
  rw [zce (h p List.mem_cons_self)]
  exact congrArg (p :: ·) ih
theorem zeo {x:Str} {ps:List Str}:cutK 32 (ps++Txt.split x " ") ps.length=ps++[x]:=by
 have hne:Txt.split x " " ≠ []:=zdc x 32
 unfold cutK
 split
 ·rename_i h
  rw [List.length_append] at h
  match e:Txt.split x " ",hne with
  | [y],_ =>
   have:Str.join ⟨#[32]⟩ (Txt.split x " ")=x:=StrLaws.join_split x ⟨#[32]⟩
   rw [e] at this
   have this:y=x:=this
   rw [this]
  | y::y2::r,_ =>
   rw [e] at h
   simp at h
 ·rw [List.take_left' rfl,List.drop_left' rfl]
  rw [show Str.join ⟨#[32]⟩ (Txt.split x " ")=x from StrLaws.join_split x ⟨#[32]⟩]
theorem zaj {w:Str} {ks:List Str} {fs:List Fld} (hw:zob w=some ks) (hw2:32∉w.cps.toList) (hp:Paired (λ k f=>f.isK k∧f.good k) ks fs) (hb:∀ f∈fs.dropLast,f.bare):((∀ f∈fs,f.fits)∧rowL (rowT w fs)=some (w,fs.map Fld.data)) ∨ (¬ (∀ f∈fs,f.fits)∧rowL (rowT w fs)=none):=by
 have hl:=Paired.length hp
 have h1:=(zae hw).1.1
 obtain ⟨f0,fl,rfl⟩:∃ f0 fl,fs=f0++[fl]:=by
  have h0:fs≠[]:=λ e=>by rw [e] at hl;simp at hl;rw [hl] at h1;exact absurd h1 (by decide)
  exact ⟨fs.dropLast,fs.getLast h0,(List.dropLast_concat_getLast h0).symm⟩
 rw [List.dropLast_concat] at hb
 have es:Txt.split (rowT w (f0++[fl])) " " = (w::f0.map Fld.text)++Txt.split fl.text " " := by
  unfold rowT
  rw [znr,List.map_append,← List.cons_append]
  exact zsg λ p hp=>by
   rcases List.mem_cons.mp hp with rfl | hp
   ·exact hw2
   ·obtain ⟨f,hf,rfl⟩:=List.mem_map.mp hp
    exact zjp (hb f hf)
 unfold rowL
 rw [zbo (l:=f0.map Fld.text++Txt.split fl.text " ") es,hw]
 dsimp only
 have ek:ks.length=(w::f0.map Fld.text).length:=by
  rw [hl,List.length_cons,List.length_map,List.length_append]
  rfl
 rw [es]
 have ec:cutK 32 ((w::f0.map Fld.text)++Txt.split fl.text " ") ks.length=w::(f0++[fl]).map Fld.text:=by
  rw [ek,zeo,List.map_append]
  rfl
 rw [ec]
 dsimp only
 rw [if_pos (by rw [List.length_map,hl])]
 rcases zbf hp with ⟨g1,g2⟩ | ⟨g1,g2⟩
 ·rw [g2]
  exact .inl ⟨g1,rfl⟩
 ·rw [g2]
  exact .inr ⟨g1,rfl⟩
noncomputable def B31 (n:Int):Prop := -(10 ^ 31)<n∧n<10 ^ 31
theorem ztc {n:Int} (h:B31 n):B40 n:=by unfold B31 B40 at *;omega
noncomputable def ztj (m:Mark):Prop:=B31 m.1∧B31 m.2
structure vSmall (v:Ver):Prop where
 b:B31 v.1
 n:v.2.1.length≤5
 s:∀ s∈v.2.1,B31 s.1∧B31 s.2.1∧B31 s.2.2
 w:v.2.2.length≤13
theorem v40 {v:Ver} (h:vSmall v):G40 v:=⟨ztc h.b,by have:=h.n;omega,λ s hs=>let ⟨a,b,c⟩:=h.s s hs; ⟨ztc a,ztc b,ztc c⟩,by have:=h.w;omega⟩
noncomputable def Fld.small:Fld→Prop
 | .mk m=>ztj m
 | .bh o=>∀ m,o=some m→ztj m
 | .vr v=>vSmall v
 | .tx z=>z.length≤13
 | .nm n=>B31 n
theorem zwb {n:Int} (h:B31 n):(numT n).length≤32:=zpp (k:=31) (by decide) (by unfold B31 at h;omega)
theorem zsi {a b:Int} (ha:B31 a) (hb:B31 b):(dots [a,b]).length≤65:=by
 have h1:=zwb ha
 have h2:=zwb hb
 show ((numT a++(⟨#[46]⟩:Str))++numT b).length≤65
 rw [zja,zja]
 show (numT a).length+1+(numT b).length≤65
 omega
theorem zsf {s:Stp} (h:B31 s.1∧B31 s.2.1∧B31 s.2.2):(dots (sL s)).length≤98:=by
 have h1:=zwb h.1
 have h2:=zwb h.2.1
 have h3:=zwb h.2.2
 show ((((numT s.1++(⟨#[46]⟩:Str))++numT s.2.1)++(⟨#[46]⟩:Str))++numT s.2.2).length≤98
 rw [zja,zja,zja,zja]
 show (numT s.1).length+1+(numT s.2.1).length+1+(numT s.2.2).length≤98
 omega
theorem zdw {v:Ver} (h:vSmall v):(zsb v).length≤542:=by
 have h1:=zwb h.b
 have hn:=h.n
 have hw:=h.w
 unfold zsb
 split
 ·rw [zja]
  show (numT v.1).length+2≤542
  omega
 ·have sl:(zvc v.2.1).length≤495:=by
   have h1:=zzf "/" (v.2.1.map λ s=>dots (sL s))
   have h2:((v.2.1.map λ s=>dots (sL s)).map (·.length)).sum≤v.2.1.length * 98:=zkg λ s hs=>zsf (h.s s hs)
   have h3:(Str.ofString "/").length=1:=rfl
   rw [h3,List.length_map] at h1
   unfold zvc
   omega
  rw [zja,zja,zja,zja]
  show (numT v.1).length+1+(zvc v.2.1).length+1+v.2.2.length≤542
  omega
noncomputable def Fld.most:Fld→Nat
 | .vr _=>542
 | _=>65
theorem zfl {f:Fld} (h:f.small):f.text.length≤f.most:=by
 cases f with
 | mk m=>exact zsi h.1 h.2
 | bh o =>
  cases o with
  | none=>decide
  | some m=>exact zsi (h m rfl).1 (h m rfl).2
 | vr v=>exact zdw h
 | tx z=>exact Nat.le_trans h (show 13≤65 by decide)
 | nm n=>exact Nat.le_trans (zwb h) (show 32≤65 by decide)
noncomputable def Fld.okT:Fld→Prop
 | .vr v=>PyData.strOk v.2.2=true
 | .tx z=>PyData.strOk z=true
 | _=>True
theorem zwh (ns:List Int):PyData.strOk (dots ns)=true:=zol (zec _) λ p hp=>by
 obtain ⟨n,_,rfl⟩:=List.mem_map.mp hp
 exact zec _
theorem znx {f:Fld} (h:f.okT):PyData.strOk f.text=true:=by
 cases f with
 | mk m=>exact zwh _
 | bh o =>
  cases o with
  | none=>exact zec _
  | some m=>exact zwh _
 | vr v =>
  show PyData.strOk (zsb v)=true
  unfold zsb
  split
  ·exact zml (zec _) (zec _)
  ·exact zml (zml (zml (zml (zec _) (zec _)) (zol (zec _) λ p hp=>by
    obtain ⟨s,_,rfl⟩:=List.mem_map.mp hp
    exact zwh _)) (zec _)) h
 | tx z=>exact h
 | nm n=>exact zec _
theorem ziq {w:Str} {fs:List Fld} (h:∀ f∈fs,f.small):(rowT w fs).length≤w.length+1+(fs.map λ f=>f.most+1).sum:=by
 have h1:=zzf " " (w::fs.map Fld.text)
 have e:(Str.ofString " ").length=1:=rfl
 rw [e,List.map_cons,List.sum_cons,List.length_cons,List.length_map,List.map_map] at h1
 have h2:∀ fs:List Fld,(∀ f∈fs,f.small)→(fs.map ((·.length) ∘ Fld.text)).sum+fs.length≤(fs.map λ f=>f.most+1).sum:=λ fs=>by
  induction fs with
  | nil=>intro _;exact Nat.le_refl _
  | cons f fs ih =>
   intro h
   have:=ih λ x hx=>h x (List.mem_cons_of_mem _ hx)
   have:=zfl (h f List.mem_cons_self)
   rw [List.map_cons,List.map_cons,List.sum_cons,List.sum_cons,List.length_cons]
   show f.text.length+_+_≤_
   omega
 have:=h2 fs h
 unfold rowT
 omega
noncomputable def zh4 (K:W.Frag) (A:Adr):Sp:=zqc (λ (a:Str×Fld) vs H=>∃ x,vs=[.str a.1,x]∧DV K H a.2.data x∧a.2.isK a.1∧a.2.small) (λ a r _=>a.2.fits∧r = .str a.2.text) (λ a C=>C=A.NoText∧¬ a.2.fits)
noncomputable def zey (K:W.Frag) (A:Adr):Sp:=zqc (λ (a:Str×List Fld) vs H=>∃ x,vs=[.str a.1,x]∧DV K H (.tuple (a.2.map Fld.data)) x∧a.1.length≤20∧a.2.length≤4∧(∃ ks,zob a.1=some ks∧Paired (λ k f=>Fld.isK k f) ks a.2)∧∀ f∈a.2,f.small) (λ a r _=>(∀ f∈a.2,f.fits)∧r = .str (rowT a.1 a.2)) (λ a C=>C=A.NoText∧¬ ∀ f∈a.2,f.fits)
theorem Paired.at_ {α β:Type} {R:α→β→Prop}:∀ {xs:List α} {ys:List β},Paired R xs ys→∀ {i:Nat} {x:α} {y:β},xs[i]? = some x→ys[i]? = some y→R x y
 | _,_,.nil,i,x,y,h,_=>by simp at h
 | _,_,.cons r rr,0,x,y,h,g=>by
  cases h
  cases g
  exact r
 | _,_,.cons r rr,i+1,x,y,h,g=>Paired.at_ rr (i:=i) (by simpa using h) (by simpa using g)
noncomputable def zvz (d:PyData):Prop:=d = .none ∨ (∃ n,d = .int n) ∨ (∃ m,d=L2.markD m) ∨ ∃ s,d = .str s∧PyData.strOk s=true
theorem zui:∀ {ds:List PyData},(∀ d∈ds,zvz d)→PyData.canLayAll0 ds=true∧PyData.depthAll ds≤1
 | [],_=>⟨rfl,Nat.zero_le _⟩
 | d::ds,h=>by
  obtain ⟨h1,h2⟩:=zui λ x hx=>h x (List.mem_cons_of_mem _ hx)
  rw [PyData.canLayAll0,PyData.depthAll,h1]
  rcases h d List.mem_cons_self with rfl | ⟨n,rfl⟩ | ⟨m,rfl⟩ | ⟨s,rfl,hs⟩
  ·exact ⟨rfl,by show max 0 _≤1;omega⟩
  ·exact ⟨rfl,by show max 0 _≤1;omega⟩
  ·exact ⟨rfl,by show max 1 _≤1;omega⟩
  ·exact ⟨by rw [Bool.and_true];exact hs,by show max 0 _≤1;omega⟩
noncomputable def Fld.plain:Fld→Prop
 | .vr _=>False
 | _=>True
structure FOk (j:Str) (f:Fld):Prop where
 k:f.isK j
 g:f.good j
 s:f.small
 p:f.plain
 t:f.okT
theorem zsj {b:Int} (h:1≤b) (h2:B31 b):FOk "beat" (.nm b):=⟨by show (Str.ofString "beat")∈NKN;decide,.inr (by show (1:Int)≤b;exact h),h2,trivial,trivial⟩
theorem zhc {α β:Type} {R:α→β→Prop}:∀ {xs:List α} {ys:List β},Paired R xs ys→∀ y∈ys,∃ x,R x y
 | _,_,.nil,y,h=>nomatch h
 | _,_,.cons r rr,y,h=>by
  rcases List.mem_cons.mp h with rfl | h
  ·exact ⟨_,r⟩
  ·exact zhc rr y h
theorem zjl {f:Fld} (h:f.plain):f.most=65:=by
 cases f with
 | vr v=>exact h.elim
 | _=>rfl
theorem zfm {f:Fld} (h:f.plain) (h2:f.okT):zvz f.data:=by
 cases f with
 | vr v=>exact h.elim
 | mk m=>exact .inr (.inr (.inl ⟨m,rfl⟩))
 | bh o =>
  cases o with
  | none=>exact .inl rfl
  | some m=>exact .inr (.inr (.inl ⟨m,rfl⟩))
 | tx z=>exact .inr (.inr (.inr ⟨z,rfl,h2⟩))
 | nm n=>exact .inr (.inl ⟨n,rfl⟩)
theorem zjd {n:Int} (h:B30 n):B31 n:=by unfold B30 B31 at *;omega
noncomputable def S94:Str := " !\"#$&'()*+,-./0123456789:;<=>?@ABCDEFGHIJKLMNOPQRSTUVWXYZ[\\]^_`abcdefghijklmnopqrstuvwxyz{|}~"
theorem zku:S94.cps.toList.length=94:=by decide +kernel
noncomputable def okS (z:Str):Prop:=∀ c∈z.cps.toList,c∈S94.cps.toList
theorem zii {z:Str} (h:okS z):zyb z=true∧PyData.strOk z=true:=by
 have al:∀ c∈S94.cps.toList,c≠10∧c≠9∧PyData.strOk ⟨#[c]⟩=true:=by decide +kernel
 constructor
 ·rw [zkp,decide_eq_false (λ x=>(al 10 (h 10 x)).1 rfl),decide_eq_false (λ x=>(al 9 (h 9 x)).2.1 rfl)]
  rfl
 ·rw [ok_iff]
  intro n hn
  have:=(al n (h n hn)).2.2
  rw [ok_iff] at this
  exact this n List.mem_cons_self
noncomputable def zzx:Sp:=zqc (λ (n:Int) vs _=>vs=[.int n]) (λ _ v _=>∃ z,v = .str z∧z.length≤13∧okS z) (λ _ _=>False)
noncomputable def zt3:Sp:=zwm (λ (a:Int×Int) vs=>vs=[.int a.1,.int a.2]∧0≤a.2∧a.2≤1) (λ a v=>∃ m:Int,v = .int m∧a.2≤m∧B30 m)
theorem fwn {n:Int} (h0:1≤n) (h:B31 n):FOk "window" (.nm n):=⟨by show (Str.ofString "window")∈NKN;decide,.inr (by show (1:Int)≤n;exact h0),h,trivial,trivial⟩
theorem fsv {n:Int} (h0:0≤n) (h:B31 n):FOk "save" (.nm n):=⟨by show (Str.ofString "save")∈NKN;decide,.inr (by show (0:Int)≤n;exact h0),h,trivial,trivial⟩
theorem all1 {P:Fld→Prop} {a:Fld} (h:P a):∀ f∈[a],P f:=λ f hf=>by rw [List.mem_singleton.mp hf];exact h
theorem all2 {P:Fld→Prop} {a b:Fld} (h:P a) (h2:P b):∀ f∈[a,b],P f:=λ f hf=>by
 simp only [List.mem_cons,List.not_mem_nil,or_false] at hf
 rcases hf with rfl | rfl
 ·exact h
 ·exact h2
theorem all3 {P:Fld→Prop} {a b c:Fld} (h:P a) (h2:P b) (h3:P c):∀ f∈[a,b,c],P f:=λ f hf=>by
 simp only [List.mem_cons,List.not_mem_nil,or_false] at hf
 rcases hf with rfl | rfl | rfl
 ·exact h
 ·exact h2
 ·exact h3
theorem at2 {x y z:V} {xs:List V}:atI (x::y::z::xs) 2=some z:=zfg (j:=2) rfl
noncomputable abbrev Pr:=Mark×Ver
structure POk (p:Pr):Prop where
 mg:zxx p.1
 ms:ztj p.1
 vg:vGood p.2
 vs:vSmall p.2
 ok:okV p.2
noncomputable def pFit (p:Pr):Prop:=mFit p.1∧vFit p.2
noncomputable def pFs (p:Pr):List Fld:=[.mk p.1,.vr p.2]
structure BRec where
 w:Str
 fs:List Fld
 ps:List Pr
 cs:List Pr
noncomputable def hdD (r:BRec):PyData := .tuple (.str r.w::r.fs.map Fld.data)
noncomputable def brD (r:BRec):PyData := .tuple [hdD r,.list (r.ps.map prD),.list (r.cs.map prD)]
noncomputable def zin (r:BRec):List Str:=(rowT r.w r.fs::r.ps.map λ p=>rowT "piece" (pFs p))++r.cs.map λ p=>rowT "clash" (pFs p)
noncomputable def zrd (r:BRec):List Str:=zin r++[Str.ofString "end"]
structure BrOk (r:BRec):Prop where
 h:r.w∈HDS
 f:∃ ks,zob r.w=some ks∧Paired FOk ks r.fs
 b:∀ f∈r.fs.dropLast,f.bare
 p:∀ p∈r.ps,POk p
 c:∀ p∈r.cs,POk p
 pn:r.ps.length≤6
 cn:r.cs.length≤6
noncomputable def zke (r:BRec):Prop:=(∀ f∈r.fs,f.fits)∧(∀ p∈r.ps,pFit p)∧∀ p∈r.cs,pFit p
theorem zhp {w:Str} (hw:w = "piece" ∨ w = "clash") {p:Pr} (h:POk p):(pFit p∧rowL (rowT w (pFs p))=some (w,(pFs p).map Fld.data)) ∨ (¬ pFit p∧rowL (rowT w (pFs p))=none):=by
 have h32:32∉w.cps.toList:=by rcases hw with rfl | rfl <;> decide
 rcases zaj (zoh hw) h32 (fs:=pFs p) (.cons ⟨rfl,h.mg⟩ (.cons ⟨rfl,h.vg⟩ .nil)) (all1 trivial) with ⟨a,b⟩ | ⟨a,b⟩
 ·exact .inl ⟨⟨a (.mk p.1) (by simp [pFs]),a (.vr p.2) (by simp [pFs])⟩,b⟩
 ·refine .inr ⟨λ x=>a ?_,b⟩
  exact all2 x.1 x.2
theorem zrc {w:Str} (hw:w = "piece" ∨ w = "clash"):∀ {ps:List Pr},(∀ p∈ps,POk p)→((∀ p∈ps,pFit p)∧zxa rowL (ps.map λ p=>rowT w (pFs p))=some (ps.map λ p=>(w,(pFs p).map Fld.data))) ∨ (¬ (∀ p∈ps,pFit p)∧zxa rowL (ps.map λ p=>rowT w (pFs p))=none)
 | [],_=>.inl ⟨λ _ h=>(nomatch h),rfl⟩
 | p::ps,h=>by
  rw [List.map_cons]
  unfold zxa
  rcases zhp hw (h p List.mem_cons_self) with ⟨h1,h2⟩ | ⟨h1,h2⟩
  ·rw [h2]
   rcases zrc hw (λ x hx=>h x (List.mem_cons_of_mem _ hx)) with ⟨g1,g2⟩ | ⟨g1,g2⟩
   ·rw [g2]
    exact .inl ⟨λ x hx=>(List.mem_cons.mp hx).elim (λ e=>e ▸ h1) (g1 x),rfl⟩
   ·rw [g2]
    exact .inr ⟨λ x=>g1 λ y hy=>x y (List.mem_cons_of_mem _ hy),rfl⟩
  ·rw [h2]
   exact .inr ⟨λ x=>h1 (x p List.mem_cons_self),rfl⟩
theorem zqd {α β:Type} (f:α→Option β) (x:α) (xs:List α):zxa f (x::xs)=(f x).bind λ a=>(zxa f xs).map λ b=>a::b:=by
 rw [zxa]
 cases f x with
 | none=>rfl
 | some a=>cases zxa f xs <;> rfl
theorem zbh {α β:Type} {f:α→Option β}:∀ (xs ys:List α),zxa f (xs++ys)=(zxa f xs).bind λ a=>(zxa f ys).map λ b=>a++b
 | [],ys=>by
  show zxa f ys=(zxa f ys).map λ b=>[]++b
  cases zxa f ys <;> rfl
 | x::xs,ys=>by
  rw [List.cons_append,zqd,zqd,zbh xs ys]
  cases f x with
  | none=>rfl
  | some a =>
   cases zxa f xs with
   | none=>rfl
   | some as =>
    cases zxa f ys with
    | none=>rfl
    | some bs=>rfl
theorem zpd {w:Str} (h:w∈HDS):32∉w.cps.toList∧w.length≤6∧PyData.strOk w=true∧¬ w = "piece" ∧ ¬ w = "clash" := by
 have al:∀ w∈HDS,32∉w.cps.toList∧w.length≤6∧PyData.strOk w=true∧¬ w = "piece" ∧ ¬ w = "clash" := by decide +kernel
 exact al w h
theorem zkj (w v:Str) (ps:List Pr) (f:Pr→List PyData):ofW w (ps.map λ p=>(v,f p))=if v=w then ps.map λ p=>(v,f p) else []:=by
 unfold ofW
 by_cases h:v=w
 ·rw [if_pos h]
  exact List.filter_eq_self.mpr λ r hr=>by
   obtain ⟨p,_,rfl⟩:=List.mem_map.mp hr
   exact decide_eq_true h
 ·rw [if_neg h]
  exact List.filter_eq_nil_iff.mpr λ r hr=>by
   obtain ⟨p,_,rfl⟩:=List.mem_map.mp hr
   rw [decide_eq_false h]
   exact Bool.false_ne_true
theorem zqi {r:BRec} (h:BrOk r):(zke r∧zuh (zrd r)=some (brD r)) ∨ (¬ zke r∧zuh (zrd r)=none):=by
 obtain ⟨ks,hks,hp⟩:=h.f
 have hw:=zpd h.h
 have e:zuh (zrd r)=(zxa rowL (zin r)).bind zjs:=zns
 rw [e]
 unfold zin
 rw [zbh,zqd]
 rcases zaj hks hw.1 (Paired.mono (λ _ _ o=>⟨o.k,o.g⟩) hp) h.b with ⟨a1,a2⟩ | ⟨a1,a2⟩
 ·rcases zrc (.inl rfl) h.p with ⟨b1,b2⟩ | ⟨b1,b2⟩
  ·rcases zrc (.inr rfl) h.c with ⟨c1,c2⟩ | ⟨c1,c2⟩
   ·refine .inl ⟨⟨a1,b1,c1⟩,?_⟩
    rw [a2,b2,c2]
    show zjs ((r.w,r.fs.map Fld.data)::((r.ps.map λ p=>(Str.ofString "piece",(pFs p).map Fld.data))++r.cs.map λ p=>(Str.ofString "clash",(pFs p).map Fld.data)))=_
    have o1:∀ v:Str,v = "piece" ∨ v = "clash" → ofW v ((r.w,r.fs.map Fld.data)::((r.ps.map λ p=>(Str.ofString "piece",(pFs p).map Fld.data))++r.cs.map λ p=>(Str.ofString "clash",(pFs p).map Fld.data)))=ofW v (r.ps.map λ p=>(Str.ofString "piece",(pFs p).map Fld.data))++ofW v (r.cs.map λ p=>(Str.ofString "clash",(pFs p).map Fld.data)):=λ v hv=>by
     unfold ofW
     rw [List.filter_cons_of_neg (by
      intro x
      have x:=of_decide_eq_true x
      rcases hv with rfl | rfl
      ·exact hw.2.2.2.1 x
      ·exact hw.2.2.2.2 x),List.filter_append]
    unfold zjs
    dsimp only
    rw [if_neg (λ x=>x h.h),o1 "piece" (.inl rfl),o1 "clash" (.inr rfl),zkj,zkj,zkj,zkj,if_pos (show Str.ofString "piece" = Str.ofString "piece" from rfl),if_neg (show ¬ Str.ofString "clash" = Str.ofString "piece" by decide),if_neg (show ¬ Str.ofString "piece" = Str.ofString "clash" by decide),if_pos (show Str.ofString "clash" = Str.ofString "clash" from rfl),List.append_nil,List.nil_append,if_pos]
    ·rw [List.map_map,List.map_map]
     rfl
    ·rw [List.map_append,List.map_map,List.map_map,List.length_map,List.length_map]
     congr 1
     ·exact List.eq_replicate_iff.mpr ⟨by rw [List.length_map],λ b hb=>by obtain ⟨p,_,rfl⟩:=List.mem_map.mp hb;rfl⟩
     ·exact List.eq_replicate_iff.mpr ⟨by rw [List.length_map],λ b hb=>by obtain ⟨p,_,rfl⟩:=List.mem_map.mp hb;rfl⟩
   ·refine .inr ⟨λ x=>c1 x.2.2,?_⟩
    rw [a2,b2,c2]
    rfl
  ·refine .inr ⟨λ x=>b1 x.2.1,?_⟩
   rw [a2,b2]
   rfl
 ·refine .inr ⟨λ x=>a1 x.1,?_⟩
  rw [a2]
  rfl
theorem zrh {p:Pr} (h:POk p):∀ f∈pFs p,f.small:=all2 h.ms h.vs
theorem zcv {w:Str} (hw:w.length≤6) {p:Pr} (h:POk p):(rowT w (pFs p)).length≤640:=by
 have h5:=ziq (w:=w) (zrh h)
 have e:((pFs p).map λ f=>f.most+1).sum=66+(543+0):=rfl
 rw [e] at h5
 omega
theorem zap {r:BRec} (h:BrOk r):(rowT r.w r.fs).length≤640∧r.fs.length≤4∧∀ f∈r.fs,f.small:=by
 obtain ⟨ks,h1,h2⟩:=h.f
 have hl:=Paired.length h2
 have h4:=(zae h1).1.2
 have hs:∀ f∈r.fs,f.small:=λ f hf=>let ⟨k,o⟩:=zhc h2 f hf;o.s
 have hm:∀ fs:List Fld,(∀ f∈fs,f.plain)→(fs.map λ f=>f.most+1).sum=fs.length * 66:=λ fs=>by
  induction fs with
  | nil=>intro _;rfl
  | cons f fs ih =>
   intro h
   rw [List.map_cons,List.sum_cons,ih λ x hx=>h x (List.mem_cons_of_mem _ hx),zjl (h f List.mem_cons_self),List.length_cons]
   omega
 have h5:=ziq (w:=r.w) hs
 rw [hm _ λ f hf=>let ⟨k,o⟩:=zhc h2 f hf;o.p] at h5
 have h6:=(zpd h.h).2.1
 exact ⟨by omega,by omega,hs⟩
theorem zvk {w:Str} {fs:List Fld} (hw:PyData.strOk w=true) (h:∀ f∈fs,f.okT):PyData.strOk (rowT w fs)=true:=zol (zec _) λ p hp=>by
 rcases List.mem_cons.mp hp with rfl | hp
 ·exact hw
 ·obtain ⟨f,hf,rfl⟩:=List.mem_map.mp hp
  exact znx (h f hf)
theorem zzl {r:BRec} (h:BrOk r):∀ z∈zrd r,okZ z:=λ z hz=>by
 obtain ⟨ks,h1,h2⟩:=h.f
 unfold zrd zin at hz
 rcases List.mem_append.mp hz with hz | hz
 ·rcases List.mem_append.mp hz with hz | hz
  ·rcases List.mem_cons.mp hz with rfl | hz
   ·exact ⟨(zap h).1,zvk (zpd h.h).2.2.1 λ f hf=>let ⟨k,o⟩:=zhc h2 f hf;o.t⟩
   ·obtain ⟨p,hp,rfl⟩:=List.mem_map.mp hz
    exact ⟨zcv (by decide) (h.p p hp),zvk (zec _) (all2 trivial (h.p p hp).ok)⟩
  ·obtain ⟨p,hp,rfl⟩:=List.mem_map.mp hz
   exact ⟨zcv (by decide) (h.c p hp),zvk (zec _) (all2 trivial (h.c p hp).ok)⟩
 ·rw [List.mem_singleton.mp hz]
  exact ⟨by decide,zec _⟩
theorem zkf {r:BRec} (h:BrOk r):(zrd r).length≤40:=by
 have:=h.pn
 have:=h.cn
 unfold zrd zin
 rw [List.length_append,List.length_append,List.length_cons,List.length_map,List.length_map]
 show _+1≤40
 omega
theorem zho {r:BRec} (h:BrOk r):SeqAt.shaped (brD r)=true:=by
 obtain ⟨ks,h1,h2⟩:=h.f
 have hf:∀ d∈r.fs.map Fld.data,zvz d:=λ d hd=>by
  obtain ⟨f,hf,rfl⟩:=List.mem_map.mp hd
  obtain ⟨k,o⟩:=zhc h2 f hf
  exact zfm o.p o.t
 obtain ⟨a1,a2⟩:=zui hf
 have lay:∀ ps:List Pr,(∀ p∈ps,POk p)→PyData.canLayAll0 (ps.map prD)=true∧PyData.depthAll (ps.map prD)≤62:=λ ps=>by
  induction ps with
  | nil=>intro _;exact ⟨rfl,Nat.zero_le _⟩
  | cons p ps ih =>
   intro h
   obtain ⟨h1,h2⟩:=ih λ x hx=>h x (List.mem_cons_of_mem _ hx)
   rw [List.map_cons,PyData.canLayAll0,PyData.depthAll,h1,SeqAt.canLay_of_shaped (zjm (h p List.mem_cons_self).ok)]
   refine ⟨rfl,?_⟩
   have h3:PyData.depth (prD p)=max 1 (max (max 0 (max (PyData.depthAll (p.2.2.1.map stp)+1) (max 0 0))+1) 0)+1:=rfl
   have:=zbd p.2.2.1
   omega
 obtain ⟨b1,b2⟩:=lay r.ps h.p
 obtain ⟨c1,c2⟩:=lay r.cs h.c
 have hw:=(zpd h.h).2.2.1
 unfold SeqAt.shaped
 rw [show PyData.canLay0 (brD r)=true by
  show ((PyData.strOk r.w && PyData.canLayAll0 (r.fs.map Fld.data)) && (PyData.canLayAll0 (r.ps.map prD) && (PyData.canLayAll0 (r.cs.map prD) && true)))=true
  rw [hw,a1,b1,c1]
  rfl,Bool.true_and]
 refine decide_eq_true ?_
 show max (max 0 (PyData.depthAll (r.fs.map Fld.data))+1) (max (PyData.depthAll (r.ps.map prD)+1) (max (PyData.depthAll (r.cs.map prD)+1) 0))+1≤64
 omega
noncomputable def zov (K:W.Frag) (A:Adr):Sp:=zqc (λ (a:Addr×List Str×Hp) vs H=>vs=[.ref a.1]∧SqL K H a.1 (a.2.1.map V.str)∧a.2.1.length≤40∧(∀ z∈a.2.1,okZ z)∧a.2.2=H) (λ a r H=>∃ t x0 l1 l2 u1 u2 d0 d1 d2,r = .ref t∧SqT K H t [x0,.ref l1,.ref l2]∧H l1=some (.lst u1)∧H l2=some (.lst u2)∧a.2.2 l1=none∧a.2.2 l2=none∧DV K H d0 x0∧DVs K H d1 u1∧DVs K H d2 u2∧zuh a.2.1=some (.tuple [d0,.list d1,.list d2])) (λ a C=>C=A.NoText∧zuh a.2.1=none)
noncomputable def BrAt (K:W.Frag) (H:Hp) (r:BRec) (x:V):Prop:=DV K H (brD r) x∧BrOk r
noncomputable def zox (K:W.Frag) (A:Adr):Sp:=zqc (λ (a:BRec×Hp) vs H=>∃ x,vs=[x]∧BrAt K H a.1 x∧a.2=H) (λ a v H=>zke a.1∧∃ l,v = .ref l∧H l=some (.lst ((zrd a.1).map V.str))∧a.2 l=none) (λ a C=>C=A.NoText∧¬ zke a.1)
noncomputable def HdOk (w:Str) (fs:List Fld):Prop:=w∈HDS∧(∃ ks,zob w=some ks∧Paired FOk ks fs)∧∀ f∈fs.dropLast,f.bare
noncomputable def zfz (K:W.Frag):Sp:=zqc (λ (n:Int) vs _=>vs=[.int n]) (λ _ v H=>∃ ss:List Stp,DV K H (plc ss) v∧ss≠[]∧ss.length≤5∧∀ s∈ss,zik s∧S30 s) (λ _ _=>False)
noncomputable def zc1 (K:W.Frag):Sp:=zqc (λ (n:Int) vs _=>vs=[.int n]) (λ _ v H=>∃ u:Ver,DV K H (ver u) v∧vGood u∧vSmall u∧okV u∧vFit u) (λ _ _=>False)
noncomputable def zry (K:W.Frag):Sp:=zqc (λ (a:Int×Int) vs _=>vs=[.int a.1,.int a.2]∧0≤a.2∧a.2≤4) (λ _ v H=>∃ ps:List Pr,(∃ l us,v = .ref l∧H l=some (.lst us)∧DVs K H (ps.map prD) us)∧(∀ p∈ps,POk p∧pFit p)∧ps.length≤4) (λ _ _=>False)
noncomputable def zdx (K:W.Frag):Sp:=zqc (λ (n:Int) vs _=>vs=[.int n]) (λ _ v H=>∃ w fs,DV K H (.tuple (.str w::fs.map Fld.data)) v∧HdOk w fs∧∀ f∈fs,f.fits) (λ _ _=>False)
noncomputable def S31 (s:Stp):Prop:=B31 s.1∧B31 s.2.1∧B31 s.2.2
noncomputable def zu0 (K:W.Frag):Sp:=zqc (λ (ss:List Stp) vs H=>∃ x,vs=[x]∧DV K H (plc ss) x∧ss.length≤5∧∀ s∈ss,S31 s) (λ ss v _=>v = .str (zvc ss)) (λ _ _=>False)
noncomputable def zy1 (K:W.Frag):Sp:=zqc (λ (a:Str×Pr) vs H=>∃ x y,vs=[.str a.1,x,y]∧DV K H (L2.markD a.2.1) x∧DV K H (ver a.2.2) y∧POk a.2∧a.1.length≤6) (λ a v _=>v = .str (rowT a.1 (pFs a.2))) (λ _ _=>False)
noncomputable def zby (K:W.Frag):Sp:=zqc (λ (r:BRec) vs H=>∃ x,vs=[x]∧BrAt K H r x) (λ r v H=>∃ l,v = .ref l∧H l=some (.lst ((zrd r).map V.str))) (λ _ _=>False)
noncomputable def BrIn (K:W.Frag) (H:Hp) (r:BRec) (x:V):Prop:=∃ t xh lp la us ws,x = .ref t∧SqT K H t [xh,.ref lp,.ref la]∧DV K H (hdD r) xh∧H lp=some (.lst us)∧DVs K H (r.ps.map prD) us∧H la=some (.lst ws)∧DVs K H (r.cs.map prD) ws
noncomputable def zbz (K:W.Frag):Sp:=zqc (λ (a:BRec×Int) vs H=>∃ x,vs=[x,.int a.2]∧(BrIn K H a.1 x∧BrOk a.1)∧a.1.ps.length≤4∧a.1.cs.length≤4) (λ _ v H=>∃ r,BrAt K H r v∧¬ zke r) (λ _ _=>False)
noncomputable def zg1 (K:W.Frag):Sp:=zqc (λ (a:Option BRec×Addr×List Str) vs H=>∃ x,vs=[x,.ref a.2.1]∧SqL K H a.2.1 (a.2.2.map V.str)∧((a.1=none∧x = .non∧a.2.2.length≤40∧(∀ z∈a.2.2,okZ z)∧zuh a.2.2=none) ∨ ∃ r,a.1=some r∧BrAt K H r x∧¬ zke r)) (λ _ v _=>v = .bl true) (λ _ _=>False)
noncomputable def zh1 (K:W.Frag):Sp:=zqc (λ (a:BRec×Addr) vs H=>∃ x,vs=[x,.ref a.2]∧BrAt K H a.1 x∧zke a.1∧H a.2=some (.lst ((zrd a.1).map V.str))) (λ _ v _=>v = .bl true) (λ _ _=>False)
theorem zmy {s:Stp} (h:S30 s):S31 s:=⟨zjd h.1,zjd h.2.1,zjd h.2.2⟩
theorem zbq (w:Str) (p:Pr):rowT w (pFs p)=((((w++(⟨#[32]⟩:Str))++((numT p.1.1++(⟨#[46]⟩:Str))++numT p.1.2))++(⟨#[32]⟩:Str))++zsb p.2):=rfl
theorem fct {n:Int} (h0:0≤n) (h:B31 n):FOk "count" (.nm n):=⟨by show (Str.ofString "count")∈NKN;decide,.inr (by show (0:Int)≤n;exact h0),h,trivial,trivial⟩
theorem fcl {n:Int} (h0:1≤n) (h:B31 n):FOk "clash" (.nm n):=⟨by show (Str.ofString "clash")∈NKN;decide,.inr (by show (1:Int)≤n;exact h0),h,trivial,trivial⟩
theorem fch {z:Str} (h:z∈(["stay", "turn", "both"]:List Str)):FOk "choice" (.tx z):=by
 have al:∀ z∈(["stay", "turn", "both"]:List Str),z.length≤13∧PyData.strOk z=true:=by decide +kernel
 exact ⟨.inr rfl,⟨λ e=>absurd e (by decide),λ _=>h⟩,(al z h).1,trivial,(al z h).2⟩
theorem zmt {es:List Ent} {m:Mark} {q:Addr} {v:V} {e:Ent} (h:e∈putM es m q v):e∈es ∨ (e.1=m∧e.2.2=v):=by
 unfold putM at h
 split at h
 ·obtain ⟨e',he',rfl⟩:=List.mem_map.mp h
  by_cases hm:e'.1=m
  ·rw [if_pos hm]
   exact .inr ⟨hm,rfl⟩
  ·rw [if_neg hm]
   exact .inl he'
 ·rcases List.mem_append.mp h with h | h
  ·exact .inl h
  ·rw [List.mem_singleton.mp h]
   exact .inr ⟨rfl,rfl⟩
theorem zxl {m:Mark}:∀ {es:List Ent},m∈es.map (·.1)→∃ e∈es,e.1=m∧zfn es m=some e.2.2
 | [],h=>nomatch h
 | e::es,h=>by
  by_cases h1:e.1=m
  ·exact ⟨e,List.mem_cons_self,h1,if_pos h1⟩
  ·obtain ⟨e',he,h2,h3⟩:=zxl ((List.mem_cons.mp h).resolve_left λ x=>h1 x.symm)
   exact ⟨e',List.mem_cons_of_mem _ he,h2,(if_neg h1).trans h3⟩
theorem zvu {es:List Ent} {m:Mark} (h:(zfn es m).isSome=false):m∉es.map (·.1):=λ hm=>by
 obtain ⟨e,_,_,e1⟩:=zxl hm
 rw [e1] at h
 cases h
theorem zi0 {es:List Ent} {m:Mark} {q:Addr} {v:V} (h:(es.map (·.1)).Nodup):((putM es m q v).map (·.1)).Nodup:=by
 rw [zrk]
 split
 ·exact h
 ·rename_i hf
  refine List.nodup_append.mpr ⟨h,List.pairwise_singleton _ _,?_⟩
  intro a ha b hb e
  rw [List.mem_singleton.mp hb] at e
  exact zvu (Bool.eq_false_iff.mpr hf) (e ▸ ha)
theorem zyx (p:Pr):noL (prD p)=true:=by
 have:=zli p.2
 show (noL (L2.markD p.1) && (noL (ver p.2) && true))=true
 rw [this]
 rfl
theorem zzg {K:W.Frag} {H:Hp} {C:Pr→Prop}:∀ {ys:List V},(∀ (i:Nat) y,ys[i]? = some y→∃ p:Pr,C p∧DV K H (prD p) y)→∃ ps:List Pr,ps.length=ys.length∧(∀ p∈ps,C p)∧DVs K H (ps.map prD) ys
 | [],_=>⟨[],rfl,λ _ h=>(nomatch h),rfl⟩
 | y::ys,h=>by
  obtain ⟨p,h1,h2⟩:=h 0 y rfl
  obtain ⟨ps,q1,q2,q3⟩:=zzg (ys:=ys) λ i z hz=>h (i+1) z hz
  refine ⟨p::ps,by rw [List.length_cons,List.length_cons,q1],λ x hx=>?_,y,ys,rfl,h2,q3⟩
  rcases List.mem_cons.mp hx with rfl | hx
  ·exact h1
  ·exact q2 x hx
theorem zqz {r:BRec} (h:BrOk r):(∀ f∈r.fs,(∃ n,f = .nm n∧B31 n) ∨ ∃ z,f = .tx z∧z.length≤13)∧2≤r.fs.length:=by
 obtain ⟨ks,h1,h2⟩:=h.f
 have al:∀ w∈HDS,(∀ k∈(zob w).getD [],k∈NKN ∨ k = "choice")∧2≤((zob w).getD []).length:=by decide +kernel
 have a:=al r.w h.h
 rw [h1] at a
 refine ⟨λ f hf=>?_,by have:=Paired.length h2;have:=a.2;dsimp only [Option.getD] at this;omega⟩
 obtain ⟨i,hi⟩:=List.getElem?_of_mem hf
 have hl:=Paired.length h2
 have hik:i<ks.length:=by have:=(List.getElem?_eq_some_iff.mp hi).1;omega
 have o:=Paired.at_ h2 (List.getElem?_eq_getElem hik) hi
 have hk:=a.1 ks[i] (List.getElem_mem hik)
 have nk:¬ ks[i] = "mark" ∧ ¬ ks[i] = "behind" ∧ ¬ ks[i] = "version" := by
  have al2:∀ k∈NKN++[Str.ofString "choice"],¬ k = "mark" ∧ ¬ k = "behind" ∧ ¬ k = "version" := by decide
  refine al2 _ ?_
  rcases hk with h | h
  ·exact List.mem_append_left _ h
  ·rw [h];exact List.mem_append_right _ List.mem_cons_self
 cases f with
 | mk m=>exact absurd o.k nk.1
 | bh x=>exact absurd o.k nk.2.1
 | vr v=>exact absurd o.k nk.2.2
 | tx z=>exact .inr ⟨z,rfl,o.s⟩
 | nm n=>exact .inl ⟨n,rfl,o.s⟩
theorem zr2 {x a b:V} {ys:List V}:cutV (x::a::b::ys) (some 1) (some 3)=[a,b]:=by
 unfold cutV
 rw [show HT.sIx (x::a::b::ys).length 0 (some 1)=min 1 _ from HT.sIx_nat (k:=1) ..,show HT.sIx (x::a::b::ys).length (x::a::b::ys).length (some 3)=min 3 _ from HT.sIx_nat (k:=3) ..,Nat.min_eq_left (by simp),Nat.min_eq_left (by simp)]
 rfl
theorem zhu {w:Str} {ks:List Str} (h:w∈HDS) (hs:zob w=some ks):∃ kr,ks=Str.ofString "beat" :: kr:=by
 have al:∀ w∈HDS,((zob w).getD []).head? = some (Str.ofString "beat"):=by decide +kernel
 have:=al w h
 rw [hs] at this
 cases ks with
 | nil=>cases this
 | cons a b=>exact ⟨b,by rw [Option.some.inj this]⟩
theorem g_facts (n:Int):1≤(10:Int) ^ 30+n % 100∧B31 (10 ^ 30+n % 100)∧¬ B30 (10 ^ 30+n % 100)∧B31 (0 - (10 ^ 30+n % 100))∧¬ B30 (0 - (10 ^ 30+n % 100)):=by
 unfold B31 B30
 omega
theorem zup {n:Int} (h0:0≤n) (h:n≤5):B31 n:=by unfold B31;omega
theorem zao {a c b:Int} {ss:List Stp} (ha:0≤a∧B31 a) (hc:1≤c∧B31 c) (hb:1≤b∧B31 b) (hn:ss≠[]) (hl:ss.length≤5) (hs:∀ s∈ss,zik s∧S31 s):POk ((a,c),(b,ss,Str.ofString "a")) :=
 ⟨⟨ha.1,hc.1⟩,⟨ha.2,hc.2⟩,⟨hb.1,λ s h=>(hs s h).1,by show zyb (Str.ofString "a")=true;decide +kernel,λ e=>(hn e).elim⟩,⟨hb.2,hl,λ s h=>(hs s h).2,by show (Str.ofString "a").length≤13;decide⟩,by show PySem.PyData.strOk (Str.ofString "a")=true;decide +kernel⟩
theorem stl2 {P:Stp→Prop} {a b:Stp} (h:P a) (g:P b):∀ s∈[a,b],P s:=λ s hs=>by
 rcases List.mem_cons.mp hs with rfl | hs
 ·exact h
 ·rw [List.mem_singleton.mp hs];exact g
theorem stl3 {P:Stp→Prop} {a b c:Stp} (h:P a) (g:P b) (i:P c):∀ s∈[a,b,c],P s:=λ s hs=>by
 rcases List.mem_cons.mp hs with rfl | hs
 ·exact h
 ·exact stl2 g i s hs
theorem zbx {a b c:Int} (ha:B31 a) (hb:0≤b∧B31 b) (hc:1≤c∧B31 c):zik (a,b,c)∧S31 (a,b,c):=⟨⟨hb.1,hc.1⟩,ha,hb.2,hc.2⟩
theorem l5 {n:Int} (h0:1≤n) (h:n≤5):1≤n∧B31 n:=⟨h0,zup (by omega) h⟩
theorem l50 {n:Int} (h0:0≤n) (h:n≤5):0≤n∧B31 n:=⟨h0,zup h0 h⟩
theorem zx3 (n:Int):let g:Int:=10 ^ Int.toNat 30+n % 100
  (POk ((5,5),(g,[(1,1,1),(0,2,2)],Str.ofString "a"))∧¬ pFit ((5,5),(g,[(1,1,1),(0,2,2)],Str.ofString "a"))) ∧
  (POk ((5,g),(4,[(1,1,1),(0,2,2)],Str.ofString "a"))∧¬ pFit ((5,g),(4,[(1,1,1),(0,2,2)],Str.ofString "a"))) ∧
  (POk ((5,5),(4,[(1,1,1),(0,2,2),(0 - g,1,1)],Str.ofString "a"))∧¬ pFit ((5,5),(4,[(1,1,1),(0,2,2),(0 - g,1,1)],Str.ofString "a"))) ∧
  (POk ((5,5),(4,[(1,g,1),(1,1,1),(0,2,2)],Str.ofString "a"))∧¬ pFit ((5,5),(4,[(1,g,1),(1,1,1),(0,2,2)],Str.ofString "a")))∧1≤g∧B31 g∧¬ B30 g:=by
 have e30:(10:Int) ^ Int.toNat 30=10 ^ 30:=rfl
 rw [e30]
 intro g
 obtain ⟨g1,g2,g3,g4,g5⟩:=g_facts n
 have u5:=l5 (n:=5) (by decide) (by decide)
 have z5:=l50 (n:=5) (by decide) (by decide)
 have u4:=l5 (n:=4) (by decide) (by decide)
 have u1:=l5 (n:=1) (by decide) (by decide)
 have z1:=l50 (n:=1) (by decide) (by decide)
 have u2:=l5 (n:=2) (by decide) (by decide)
 have z2:=l50 (n:=2) (by decide) (by decide)
 have z0:=l50 (n:=0) (by decide) (by decide)
 have s1:zik (1,1,1)∧S31 (1,1,1):=zbx u1.2 z1 u1
 have s2:zik (0,2,2)∧S31 (0,2,2):=zbx z0.2 z2 u2
 have s3:zik (0 - g,1,1)∧S31 (0 - g,1,1):=zbx g4 z1 u1
 have s4:zik (1,g,1)∧S31 (1,g,1):=zbx u1.2 ⟨Int.le_trans (by decide) g1,g2⟩ u1
 refine ⟨⟨zao z5 u5 ⟨g1,g2⟩ (List.cons_ne_nil _ _) (by show 2≤5;decide) (stl2 s1 s2),λ h=>g3 h.2.1⟩,
  ⟨zao z5 ⟨g1,g2⟩ u4 (List.cons_ne_nil _ _) (by show 2≤5;decide) (stl2 s1 s2),λ h=>g3 h.1.2⟩,
  ⟨zao z5 u5 u4 (List.cons_ne_nil _ _) (by show 3≤5;decide) (stl3 s1 s2 s3),λ h=>g5 (h.2.2 (0 - g,1,1) (List.mem_cons_of_mem _ (List.mem_cons_of_mem _ List.mem_cons_self))).1⟩,
  ⟨zao z5 u5 u4 (List.cons_ne_nil _ _) (by show 3≤5;decide) (stl3 s4 s1 s2),λ h=>g3 (h.2.2 (1,g,1) List.mem_cons_self).2.1⟩,g1,g2,g3⟩
theorem znq {α:Type} {P:α→Prop} {xs:List α} {x:α} (h:∀ y∈xs,P y) (hx:P x):∀ y∈xs++[x],P y:=λ y hy=>(List.mem_append.mp hy).elim (h y) λ e=>by rw [List.mem_singleton.mp e];exact hx
theorem ztw {w:Str} {fs:List Fld} {ps cs:List Pr} {p:Pr} (ho:BrOk ⟨w,fs,ps,cs⟩) (hl:ps.length≤4) (hp:POk p∧¬ pFit p):BrOk ⟨w,fs,ps++[p],cs⟩∧¬ zke ⟨w,fs,ps++[p],cs⟩ :=
 ⟨⟨ho.h,ho.f,ho.b,znq ho.p hp.1,ho.c,by show (ps++[p]).length≤6;rw [List.length_append];show ps.length+1≤6;omega,ho.cn⟩,λ h=>hp.2 (h.2.1 p (List.mem_append_right _ List.mem_cons_self))⟩
theorem zzw {w:Str} {fs:List Fld} {ps cs:List Pr} {p:Pr} (ho:BrOk ⟨w,fs,ps,cs⟩) (hl:cs.length≤4) (hp:POk p∧¬ pFit p):BrOk ⟨w,fs,ps,cs++[p]⟩∧¬ zke ⟨w,fs,ps,cs++[p]⟩ :=
 ⟨⟨ho.h,ho.f,ho.b,ho.p,znq ho.c hp.1,ho.pn,by show (cs++[p]).length≤6;rw [List.length_append];show cs.length+1≤6;omega⟩,λ h=>hp.2 (h.2.2 p (List.mem_append_right _ List.mem_cons_self))⟩
theorem zd2 {w:Str} {f:Fld} {fs:List Fld} {ps cs:List Pr} {g:Int} {kr:List Str} (ho:BrOk ⟨w,f::fs,ps,cs⟩) (hs:zob w=some (Str.ofString "beat" :: kr)) (hp:Paired FOk kr fs) (h1:1≤g) (h2:B31 g) (h3:¬ B30 g):BrOk ⟨w,.nm g::fs,ps,cs⟩∧¬ zke ⟨w,.nm g::fs,ps,cs⟩:=by
 refine ⟨⟨ho.h,⟨_,hs,.cons (zsj h1 h2) hp⟩,?_,ho.p,ho.c,ho.pn,ho.cn⟩,λ h=>h3 (h.1 (.nm g) List.mem_cons_self)⟩
 have hb:=ho.b
 cases fs with
 | nil=>intro x hx;cases hx
 | cons a b =>
  intro x hx
  rcases List.mem_cons.mp hx with rfl | hx
  ·trivial
  ·exact hb x (List.mem_cons_of_mem _ hx)
theorem zhj {K:W.Frag} {H:Hp} {ps:List Pr} {p:Pr} {us:List V} {v:V} (h:DVs K H (ps.map prD) us) (hv:DV K H (prD p) v):DVs K H ((ps++[p]).map prD) (us++[v]):=by
 rw [List.map_append]
 exact h.append ⟨v,[],rfl,hv,rfl⟩
section
variable (P:Program) (w:World) (K:W.Frag) (mg:Str→Option Value) (B:Heap) (A:Adr)
noncomputable abbrev zsr:Prop:=FnOk P w K mg B (CX1 P w B) 1 A.f_q34 A.d_q34 ["text"] zny
noncomputable abbrev zou:Prop:=FnOk P w K mg B (CX1 P w B) 1 A.f_q36 A.d_q36 ["text", "signs"] zpw
noncomputable abbrev znn:Prop:=FnOk P w K mg B (CX1 P w B) 2 A.f_q11 A.d_q11 ["text"] (zm3 A)
noncomputable abbrev zvs:Prop:=FnOk P w K mg B (CX1 P w B) 3 A.f_q29 A.d_q29 ["least", "text"] (zb3 A)
noncomputable abbrev zps:Prop:=FnOk P w K mg B (CX1 P w B) 1 A.f_q12 A.d_q12 ["window", "count"] (za4 A)
noncomputable abbrev zrz:Prop:=FnOk P w K mg B (CX1 P w B) 3 A.f_q6 A.d_q6 ["text", "many"] (za3 A)
noncomputable abbrev zft:Prop:=FnOk P w K mg B (CX1 P w B) 4 A.f_q31 A.d_q31 ["text"] (zj3 A)
noncomputable abbrev zlv:Prop:=FnOk P w K mg B (CX1 P w B) 4 A.f_q26 A.d_q26 ["text"] (zi4 A)
noncomputable abbrev zct:Prop:=FnOk P w K mg B (CX1 P w B) 5 A.f_q19 A.d_q19 ["text"] (ze3 K A)
noncomputable abbrev zjv:Prop:=FnOk P w K mg B (CX1 P w B) 1 A.f_q10 A.d_q10 ["beat"] (zpy K)
noncomputable abbrev ze2:Prop:=FnOk P w K mg B (CX1 P w B) 6 A.f_q4 A.d_q4 ["text"] (zf4 K A)
noncomputable abbrev zut:Prop:=FnOk P w K mg B (CX1 P w B) 2 A.f_q20 A.d_q20 ["text"] (zw2 A)
noncomputable abbrev zl2:Prop:=FnOk P w K mg B (CX1 P w B) 1 A.f_q9 A.d_q9 ["text"] (zyz A)
noncomputable abbrev zwv:Prop:=FnOk P w K mg B (CX1 P w B) 7 A.f_q22 A.d_q22 ["kind", "text"] (zoy K A)
noncomputable abbrev zbt:Prop:=FnOk P w K mg B (CX1 P w B) 8 A.f_q32 A.d_q32 ["row"] (zcz K A)
noncomputable abbrev zay:Prop:=FnOk P w K mg B (CX1 P w B) 9 A.f_q0 A.d_q0 ["rows"] (zov K A)
noncomputable abbrev zxn:Prop:=FnOk P w K mg B (CX1 P w B) 1 A.f_q13 A.d_q13 ["number"] (zs3 A)
noncomputable abbrev zty:Prop:=FnOk P w K mg B (CX1 P w B) 2 A.f_q5 A.d_q5 ["numbers"] (zo2 K A)
noncomputable abbrev zwt:Prop:=FnOk P w K mg B (CX1 P w B) 3 A.f_q30 A.d_q30 ["mark"] (zo2 K A)
noncomputable abbrev ztt:Prop:=FnOk P w K mg B (CX1 P w B) 3 A.f_q15 A.d_q15 ["place"] (zm4 K A)
noncomputable abbrev zxv:Prop:=FnOk P w K mg B (CX1 P w B) 1 A.f_q37 A.d_q37 ["version"] (zi3 K)
noncomputable abbrev zh2:Prop:=FnOk P w K mg B (CX1 P w B) 4 A.f_q2 A.d_q2 ["version"] (zf3 K A)
noncomputable abbrev zru:Prop:=FnOk P w K mg B (CX1 P w B) 5 A.f_q16 A.d_q16 ["kind", "value"] (zh4 K A)
noncomputable abbrev zhv:Prop:=FnOk P w K mg B (CX1 P w B) 6 A.f_q35 A.d_q35 ["word", "values"] (zey K A)
noncomputable abbrev zis:Prop:=FnOk P w K mg B (CX1 P w B) 7 A.f_q27 A.d_q27 ["record"] (zox K A)
noncomputable abbrev zyv:Prop:=FnOk P w K mg B (CX1 P w B) 1 A.f_q18 A.d_q18 ["_law_number_here"] zzx
noncomputable abbrev zwu:Prop:=FnOk P w K mg B (CX1 P w B) 1 A.f_q8 A.d_q8 ["_law_number_here", "_law_least"] zt3
noncomputable abbrev zzt:Prop:=FnOk P w K mg B (CX1 P w B) 2 A.f_q17 A.d_q17 ["_law_number_here"] (zfz K)
noncomputable abbrev zi2:Prop:=FnOk P w K mg B (CX1 P w B) 3 A.f_q3 A.d_q3 ["_law_number_here"] (zc1 K)
noncomputable abbrev zbu:Prop:=FnOk P w K mg B (CX1 P w B) 4 A.f_q23 A.d_q23 ["_law_number_here", "_law_many"] (zry K)
noncomputable abbrev zvt:Prop:=FnOk P w K mg B (CX1 P w B) 2 A.f_q28 A.d_q28 ["_law_number_here"] (zdx K)
noncomputable abbrev zzv:Prop:=FnOk P w K mg B (CX1 P w B) 1 A.f_q14 A.d_q14 ["_law_place_here"] (zu0 K)
noncomputable abbrev zgu:Prop:=FnOk P w K mg B (CX1 P w B) 2 A.f_q33 A.d_q33 ["_law_word", "_law_mark", "_law_version_here"] (zy1 K)
noncomputable abbrev zkw:Prop:=FnOk P w K mg B (CX1 P w B) 3 A.f_q25 A.d_q25 ["_law_record"] (zby K)
noncomputable abbrev zmv:Prop:=FnOk P w K mg B (CX1 P w B) 1 A.f_q21 A.d_q21 ["_law_record", "_law_number_here"] (zbz K)
noncomputable abbrev zp2:Prop:=FnOk P w K mg B (CX1 P w B) 10 A.f_q1 A.d_q1 ["_law_record", "_law_rows_here"] (zg1 K)
noncomputable abbrev zc2:Prop:=FnOk P w K mg B (CX1 P w B) 10 A.f_q7 A.d_q7 ["_law_record", "_law_rows_here"] (zh1 K)
noncomputable abbrev zit:Prop:=FnOk P w K mg B (CX1 P w B) 1 A.f_q24 A.d_q24 ["_law_cell", "_law_k"] zk3
noncomputable abbrev zo0:Prop:=FnOk P w K mg B (CX1 P w B) 11 A.f_law A.d_law ["_law_script"] (sp_law K)
end
set_option maxHeartbeats 4000000
section
variable {P:Program} {w:World} {K:W.Frag} {mg:Str→Option Value} {B:Heap} {A:Adr}
theorem zt0:FnScope ["text"] ["text"] (zha zx0):=by walk_at "sc"
theorem zvx (T:Txt w K mg A)  : zsr P w K mg B A:=by
 refine FnOk.pure (T.F_q34.okN zt0 (λ vs H Q E h=>?_) (λ _ _ _ _ H vs Q E hr h=>?_))
 ·obtain ⟨_,a,rfl,_⟩:=h
  rfl
 ·obtain ⟨hp,z,rfl,q⟩:=h
  refine ⟨_,(zfa (zoa (ziv (zgf zje zla (pv 0) (by rfl)) (zev (zgf zje zla (pv 0) (by rfl)))))),?_⟩
  refine ⟨_,rfl,_,_,rfl,rfl,_,rfl,?_⟩
  refine zy2 (λ h1=>?_) (λ h1=>?_)
  ·refine ⟨_,rfl,_,_,rfl,rfl,?_⟩
   exact q _ _ (congrArg V.bl (by unfold zyb hasS;rw [h1,Bool.true_and])) (Same.refl _)
  ·exact q _ _ (congrArg V.bl (by unfold zyb hasS;rw [h1,Bool.false_and])) (Same.refl _)
theorem zmx:FnScope ["text", "signs"] ["text", "signs"] (zha zb1):=by walk_at "sc"
theorem zhz (T:Txt w K mg A)  : zou P w K mg B A:=by
 refine FnOk.pure (T.F_q36.okN zmx (λ vs H Q E h=>?_) (λ _ _ _ _ H vs Q E hr h=>?_))
 ·obtain ⟨_,a,⟨rfl,_⟩,_⟩:=h
  rfl
 ·obtain ⟨hp,⟨z,t⟩,⟨rfl,hz⟩,q⟩:=h
  refine ⟨_,(zfa (zoa (zmb (zqr rfl) rfl T.n_all (by decide +kernel) (zaa (zde ["sign", "signs"] 1 [1] rfl (zex (pv 0)) gk1 (λ _ _ _ _ _=>zka (i:=0) (show List.Nodup (["sign", "signs"]:List Str) by decide +kernel) rfl (Or.inl rfl)) (λ _ _ _ _ _=>zpb) (λ _ _ _ _ _=>(zgf zyn (pv 0) (pv 1) (by rfl)))) zda)))),?_⟩
  refine ⟨_,rfl,_,rfl,λ D hD=>zzq (λ i=>.bl (hasS ⟨#[z.cps.toList.getD i 0]⟩ t)) (sm1 (hz)) ?_ ?_⟩
  ·intro i c H2 R hc hR
   refine ⟨_,rfl,_,rfl,_,_,rfl,rfl,hR _ ?_⟩
   have:z.cps.toList.getD i 0=c:=by rw [List.getD_eq_getElem?_getD];simp [hc]
   rw [this]
   rfl
  ·exact ⟨D,(List.range z.cps.size).map λ i=>hasS ⟨#[z.cps.toList.getD i 0]⟩ t,rfl,SqL.of (by rw [upd_same,List.map_map];rfl),q _ _ rfl (zba hD)⟩
theorem sc_q11:FnScope ["text", "figures"] ["text"] (zha zu1):=by walk_at "sc"
theorem zcy (T:Txt w K mg A) (G_q36:zou P w K mg B A):znn P w K mg B A:=by
 have B_q36:=T.b_q36
 obtain ⟨t_FIGURES,g_FIGURES⟩:=T.u_FIGURES
 obtain ⟨t_MOST_FIGURES,g_MOST_FIGURES⟩:=T.u_MOST_FIGURES
 refine T.F_q11.okX sc_q11 (λ vs H Q E h=>?_) (λ _ _ _ _ H vs Q E hr h=>?_)
 ·obtain ⟨_,z,rfl,_⟩:=h
  rfl
 ·obtain ⟨hp,z,rfl,hz,q1,q2⟩:=h
  refine ⟨_,(zca (zya (i:=1) sc_q11.nd rfl (Or.inl rfl) (zsh (zwe (zxi PySem.F.plainAttrs_str PySem.F.slot_str_startswith PySem.F.type_str_startswith zdh (pv 0) (zaa zla zda))) (zxb zdz (pv 0) (zpc zea) zud) (pv 0)))
   (zca (ztb (PW.pt (zjn (zna zvd (pv 1) zla (zva _)) (zjn (zna zy3 (zmb zph rfl T.n_len (by decide +kernel) (zaa (pv 1) zda)) (zgb (v := .int (30)) rfl g_MOST_FIGURES ⟨t_MOST_FIGURES,rfl⟩) (zva _)) (zcg (zpf (zwe (zga G_q36 (hr.mono (by decide)) rfl T.g_q36 T.k_q36 B_q36 .nil zac (zaa (pv 1) (zaa (zgb (v := .str "0123456789") rfl g_FIGURES ⟨t_FIGURES,rfl⟩) zda))))))))) (zfa (zfb T.x_NoText zia rfl rfl T.g_NoText (zaa zla zda))) zpa)
   (zca (ztb (PW.pt (zp0 (zna zvd (zld zcu (pv 1) zea (λ _ _=>rfl)) zla (zva _)) (znu (zna zuw (pv 0) zla (zva _))))) (zfa (zfb T.x_NoText zia rfl rfl T.g_NoText (zaa zla zda))) zpa)
   (zfa (zoa (zza zyh rfl T.n_int (by decide +kernel) (zaa (pv 0) zda))))))),?_⟩
  have sz:z.length≤sizeLine:=sm1 ((by omega))
  have hlz:z.cps.toList.length=z.length:=Array.length_toList
  apply join (α:=Str) (ok:=λ y=>y.cps.toList=(if z.cps.toList.head? = some 45 then z.cps.toList.tail else z.cps.toList))
  ·intro R
   refine ⟨_,rfl,rfl,⟨_,_,rfl,rfl,_,rfl,?_⟩⟩
   rw [zek]
   refine zwc (λ h=>?_) (λ h=>?_)
   ·refine ⟨_,rfl,_,rfl,_,rfl,sz,?_⟩
    have e:=znl z
    generalize Txt.slice z (some 1) none=y at e ⊢
    exact R y (by rw [if_pos h,e])
   ·refine ⟨_,rfl,?_⟩
    exact R z (by rw [if_neg h])
  intro y hy
  have hly:y.cps.toList.length=y.length:=Array.length_toList
  have hle:y.length≤z.length:=by
   rw [← hly,← hlz,hy]
   split
   ·simp
   ·exact Nat.le_refl _
  refine ⟨_,rfl,rfl,_,rfl,zwc (λ h1=>iteT ?_) (λ h1=>⟨_,rfl,_,rfl,Nat.le_trans hle sz,_,_,rfl,rfl,_,rfl,zwc (λ h2=>iteT ?_) (λ h2=>?_)⟩)⟩
  ·refine ⟨by decide,q2 ?_⟩
   have e:y.cps.toList=[]:=(zic _ _).mp h1
   rw [e] at hy
   unfold zue
   split
   ·rename_i hh
    rw [if_pos hh] at hy
    rw [← hy,if_pos (.inl (by decide))]
   ·rename_i hh
    rw [if_neg hh] at hy
    rw [← hy,if_pos (.inl (by decide))]
  ·refine ⟨by decide,q2 ?_⟩
   have h2':30<y.cps.toList.length:=by rw [hly];omega
   unfold zue
   split
   ·rename_i hh
    rw [if_pos hh] at hy
    rw [← hy,if_pos (.inr (.inl h2'))]
   ·rename_i hh
    rw [if_neg hh] at hy
    rw [← hy,if_pos (.inr (.inl h2'))]
  refine ⟨_,rfl,hp,(y,DIG),⟨rfl,by show y.length≤1000;omega⟩,λ v hv=>⟨_,hv,?_⟩⟩
  rw [zas]
  cases hd:y.cps.toList.all zvj with
  | false =>
   refine iteT ⟨by decide,q2 ?_⟩
   unfold zue
   split
   ·rename_i hh
    rw [if_pos hh] at hy
    rw [← hy,if_pos (.inr (.inr (.inl hd)))]
   ·rename_i hh
    rw [if_neg hh] at hy
    rw [← hy,if_pos (.inr (.inr (.inl hd)))]
  | true =>
   refine iteF ?_
   obtain ⟨c,cs,hc⟩:∃ c cs,y.cps.toList=c::cs:=by
    cases e:y.cps.toList with
    | nil=>exact absurd ((zic _ _).mpr e) h1
    | cons c cs=>exact ⟨c,cs,rfl⟩
   have AD:AllDigits y.cps.toList:=(zpk _).mp hd
   have len30:¬ 30<y.cps.toList.length:=by rw [hly];omega
   have c48:(V.str ⟨#[c]⟩=V.str "0")↔c=48:=by
    rw [zic]
    have:("0" : Str).cps.toList=[48]:=rfl
    rw [this]
    simp
   refine ⟨_,rfl,_,_,_,rfl,rfl,Nat.le_trans hle sz,zxo hc,rfl,_,rfl,zwc (λ h3=>⟨_,rfl,rfl,_,rfl,zmw (λ h4=>?_) (λ h4=>?_)⟩) (λ h3=>?_)⟩
   ·refine ⟨by decide,q2 ?_⟩
    have hc48:=c48.mp h3
    subst hc48
    unfold zue
    split
    ·rename_i hh
     rw [if_pos hh] at hy
     rw [← hy,if_pos (.inr (.inr (.inr (by rw [hc];rfl))))]
    ·rename_i hh
     rw [if_neg hh] at hy
     have l1:1<y.cps.toList.length:=by
      rw [hc]
      cases cs with
      | nil =>
       exfalso
       apply h4
       rw [zic,← hy,hc]
       rfl
      | cons _ _=>simp
     rw [← hy,if_pos (.inr (.inr (.inr ⟨by rw [hc];rfl,l1⟩)))]
   ·-- text is "0"
    have e0:z.cps.toList=[48]:=(zic _ _).mp h4
    have AZ:AllDigits z.cps.toList:=by rw [e0];intro d hd';simp at hd';omega
    refine ⟨_,rfl,_,_,rfl,by omega,PySem.intText_digits AZ (by rw [e0];simp) (by omega),q1 _ ?_⟩
    rw [e0]
    rfl
   ·have c48':c≠48:=λ e=>h3 (c48.mpr e)
    by_cases hh:z.cps.toList.head? = some 45
    ·rw [if_pos hh] at hy
     obtain ⟨ds,hz45⟩:∃ ds,z.cps.toList=45::ds:=by
      cases e:z.cps.toList with
      | nil=>rw [e] at hh;cases hh
      | cons a b=>rw [e] at hh;simp at hh;exact ⟨b,by rw [hh]⟩
     have hyd:y.cps.toList=ds:=by rw [hy,hz45];rfl
     refine ⟨_,rfl,_,_,rfl,by omega,PySem.intText_neg hz45 (by rw [← hyd];exact AD) (by rw [← hyd,hc];simp) (by omega),q1 _ ?_⟩
     unfold zue
     rw [if_pos hh,← hy,if_neg,hyd]
     rintro (z1 | z1 | z1 | z1)
     ·rw [hc] at z1;simp at z1
     ·exact len30 z1
     ·rw [hd] at z1;cases z1
     ·rw [hc] at z1;simp at z1;exact c48' z1
    ·rw [if_neg hh] at hy
     refine ⟨_,rfl,_,_,rfl,by omega,PySem.intText_digits (by rw [← hy];exact AD) (by rw [← hy,hc];simp) (by omega),q1 _ ?_⟩
     unfold zue
     rw [if_neg hh,← hy,if_neg]
     rintro (z1 | z1 | z1 | z1)
     ·rw [hc] at z1;simp at z1
     ·exact len30 z1
     ·rw [hd] at z1;cases z1
     ·rw [hc] at z1;simp at z1;exact c48' z1.1
theorem sc_q29:FnScope ["least", "text", "number"] ["least", "text"] (zha zaz):=by walk_at "sc"
theorem zux (T:Txt w K mg A) (G_q11:znn P w K mg B A):zvs P w K mg B A:=by
 have B_q11:=T.b_q11
 refine T.F_q29.okX sc_q29 (λ vs H Q E h=>?_) (λ _ _ _ _ H vs Q E hr h=>?_)
 ·obtain ⟨_,a,⟨rfl,_⟩,_⟩:=h
  rfl
 ·obtain ⟨hp,⟨k,z⟩,⟨hv,hz⟩,q,qe⟩:=h
  obtain rfl:vs=[.int k,.str z]:=hv
  dsimp only at hz
  refine ⟨_,(zca (zya (i:=2) sc_q29.nd rfl (Or.inl rfl) (zga G_q11 (hr.mono (by decide)) rfl T.g_q11 T.k_q11 B_q11 .nil (Wants.passes zia) (zaa (pv 1) zda)))
   (zca (ztb (zna zax (pv 2) (pv 0) (zva _)) (zfa (zfb T.x_NoText zia rfl rfl T.g_NoText (zaa zla zda))) zpa)
   (zfa (zoa (pv 2))))),?_⟩
  refine ⟨_,rfl,hp,z,rfl,hz,λ n hn=>?_,λ hn=>qe _ _ ⟨rfl,?_⟩ (Same.refl _) hp⟩
  ·refine ⟨_,rfl,_,rfl,_,_,rfl,rfl,_,rfl,zwc (λ h1=>?_) (λ h1=>?_)⟩
   ·refine ⟨sz_1,qe _ _ ⟨rfl,?_⟩ (Same.refl _) hp⟩
    unfold zoc
    rw [hn]
    exact if_pos h1
   ·refine ⟨_,rfl,q _ _ ⟨n,rfl,?_⟩ (Same.refl _) hp⟩
    unfold zoc
    rw [hn]
    exact if_neg h1
  ·unfold zoc
   rw [hn]
theorem zn0:FnScope ["window", "count"] ["window", "count"] (zha zzz):=by walk_at "sc"
theorem zz0 (T:Txt w K mg A)  : zps P w K mg B A:=by
 refine T.F_q12.okX zn0 (λ vs H Q E h=>?_) (λ _ _ _ _ H vs Q E hr h=>?_)
 ·obtain ⟨_,a,rfl,_⟩:=h
  rfl
 ·obtain ⟨hp,⟨m,n⟩,hv,q,qe⟩:=h
  obtain rfl:vs=[.int m,.int n]:=hv
  dsimp only at q qe
  refine ⟨_,(zfa (ztb (PW.pt (zjn (zna zax (pv 0) zea (zva _)) (zcg (zna zax (pv 1) zea (zva _))))) (zfa (zfb T.x_NoText zia rfl rfl T.g_NoText (zaa zla zda))) zpa)),?_⟩
  refine ⟨_,rfl,_,_,rfl,rfl,_,rfl,zwc (λ h1=>iteT ?_) (λ h1=>⟨_,rfl,_,_,rfl,rfl,_,rfl,zwc (λ h2=>?_) (λ h2=>?_)⟩)⟩
  ·exact ⟨by decide,qe _ _ ⟨rfl,.inl h1⟩ (Same.refl _) hp⟩
  ·exact ⟨by decide,qe _ _ ⟨rfl,.inr h2⟩ (Same.refl _) hp⟩
  ·exact q _ _ ⟨by rintro (z | z) <;> contradiction,rfl⟩ (Same.refl _) hp
theorem sc_q6:FnScope ["text", "many", "parts"] ["text", "many"] (zha s_q6):=by walk_at "sc"
theorem zs2 (T:Txt w K mg A) (G_q11:znn P w K mg B A):zrz P w K mg B A:=by
 have B_q11:=T.b_q11
 refine T.F_q6.okX sc_q6 (λ vs H Q E h=>?_) (λ _ _ _ _ H vs Q E hr h=>?_)
 ·obtain ⟨_,a,⟨rfl,_⟩,_⟩:=h
  rfl
 ·obtain ⟨hp,⟨z,m⟩,⟨hv,hz⟩,q,qe⟩:=h
  obtain rfl:vs=[.str z,.int m]:=hv
  dsimp only at hz
  refine ⟨_,(zca (zya (i:=2) sc_q6.nd rfl (Or.inl rfl) (zxi PySem.F.plainAttrs_str PySem.F.slot_str_split PySem.F.type_str_split zrm (pv 0) (zaa zla zda)))
   (zca (ztb (zna zuw (zmb zjb rfl T.n_len (by decide +kernel) (zaa (pv 2) zda)) (pv 1) (zva _)) (zfa (zfb T.x_NoText zia rfl rfl T.g_NoText (zaa zla zda))) zpa)
   (zfa (zoa (zfc _ ["part"] 1 [] zia ⟨⟨_,_,_,rfl,rfl,rfl⟩⟩ rfl (zjc (pv 2)) gk1 (λ _ _ _ _ _=>zka (i:=0) (show List.Nodup (["part"]:List Str) by decide +kernel) rfl (Or.inl rfl)) (λ _ _ _ _ _=>zpb) (λ _ _ _ _ _ hW=>(zga G_q11 (hr.mono (by decide)) rfl T.g_q11 T.k_q11 B_q11 .nil (Wants.passes hW) (zaa (pv 0) zda)))))))),?_⟩
  refine ⟨_,rfl,rfl,z,_,rfl,rfl,by decide,by omega,λ l hl=>?_⟩
  have hlen:=split_le z "."
  refine ⟨_,rfl,l,_,rfl,.inl (SqL.of upd_same),_,rfl,rfl,_,rfl,zmw (λ hne=>?_) (λ heq=>?_)⟩
  ·rw [List.length_map] at hne
   refine ⟨by decide,qe _ _ ⟨rfl,?_⟩ (zba hl) hp.lst⟩
   show dotL z m=none
   unfold dotL
   rw [if_neg (λ e=>hne (by rw [e]))]
  ·rw [List.length_map] at heq
   have heq:=V.int.inj heq
   refine ⟨_,rfl,l,rfl,⟨_,SqL.of upd_same⟩,λ D hD=>zdb (n:=((Txt.split z ".").map V.str).length) (λ i=>((Txt.split z ".").map V.str).getD i .non) (λ i y _=>∃ n,y = .int n∧∃ p,(Txt.split z ".")[i]? = some p∧zue p.cps.toList=some n) hD hp.lst ?_ (zie (SqL.of upd_same)) (λ _ _ _ _ h _ _=>h) ?_ ?_⟩
   ·rw [List.length_map];exact sm1 ((by omega))
   ·intro i H2 R hi hP2 hs2 hR
    rw [List.length_map] at hi
    have hn:(Txt.split z ".")[i]? = some (Txt.split z ".")[i]:=List.getElem?_eq_getElem hi
    have hm:(Txt.split z ".")[i]∈Txt.split z "." := List.getElem_mem hi
    generalize (Txt.split z ".")[i]=p at hn hm
    have hpz:=part_short hm
    have ev:((Txt.split z ".").map V.str).getD i .non = .str p:=by rw [List.getD_eq_getElem?_getD,List.getElem?_map,hn];rfl
    rw [ev]
    refine ⟨_,rfl,hP2,p,rfl,by omega,λ n hn'=>hR _ _ ⟨n,rfl,p,hn,hn'⟩ (Same.refl _) hP2,λ hnb=>qe _ _ ⟨rfl,?_⟩ ((zba hl).trans hs2) hP2⟩
    show dotL z m=none
    unfold dotL
    rw [if_pos heq]
    exact zmc hm hnb
   ·intro ys H2 hl2 hr2 hd2 hs2 hP2
    rw [List.length_map] at hl2
    obtain ⟨ns,rfl,hns⟩:=zco (f:=V.int) (R:=λ i n=>∃ p,(Txt.split z ".")[i]? = some p∧zue p.cps.toList=some n) hr2
    rw [List.length_map] at hl2
    refine q _ _ ⟨D,ns,rfl,hd2,?_⟩ ((zba hl).trans hs2) hP2
    show dotL z m=some ns
    unfold dotL
    rw [if_pos heq]
    refine zze hl2.symm λ i p hp=>?_
    have hi:i<ns.length:=by rw [hl2];exact (List.getElem?_eq_some_iff.mp hp).1
    obtain ⟨p',e1,e2⟩:=hns i ns[i] (List.getElem?_eq_getElem hi)
    rw [hp] at e1
    cases e1
    exact ⟨ns[i],List.getElem?_eq_getElem hi,e2⟩
theorem sc_q31:FnScope ["text", "window", "count"] ["text"] (zha za1):=by walk_at "sc"
theorem ziy (T:Txt w K mg A) (G_q12:zps P w K mg B A) (G_q6:zrz P w K mg B A):zft P w K mg B A:=by
 have B_q12:=T.b_q12
 have B_q6:=T.b_q6
 refine T.F_q31.okX sc_q31 (λ vs H Q E h=>?_) (λ _ _ _ _ H vs Q E hr h=>?_)
 ·obtain ⟨_,a,⟨rfl,_⟩,_⟩:=h
  rfl
 ·obtain ⟨hp,z,⟨rfl,hz⟩,q,qe⟩:=h
  refine ⟨_,(zca (zmf (zga G_q6 (hr.mono (by decide)) rfl T.g_q6 T.k_q6 B_q6 .nil (Wants.passes zia) (zaa (pv 0) (zaa zea zda))) (zbv rfl (zma (zka (i:=1) sc_q31.nd rfl (Or.inl rfl)) (zma (zka (i:=2) sc_q31.nd rfl (Or.inl rfl)) zqb))))
   (zca (zid (zga G_q12 (hr.mono (by decide)) rfl T.g_q12 T.k_q12 B_q12 .nil (Wants.passes zia) (zaa (pv 1) (zaa (pv 2) zda))))
   (zfa (zoa (zsa (zaa (pv 1) (zaa (pv 2) zda))))))),?_⟩
  refine ⟨_,rfl,hp,(z,2),⟨rfl,hz⟩,λ v H1 hv hs1 hp1=>?_,λ C H1 hC hs1 hp1=>qe _ _ ⟨hC.1,?_⟩ hs1 hp1⟩
  ·obtain ⟨l,ns,rfl,hl,hd⟩:=hv
   dsimp only at hd
   obtain ⟨a,b,rfl⟩:∃ a b,ns=[a,b]:=zp1 hd
   refine ⟨l,_,rfl,SqL.of hl,rfl,_,_,rfl,_,_,rfl,rfl,?_⟩
   refine ⟨_,rfl,_,rfl,hp1,(a,b),rfl,λ v H2 hv hs2 hp2=>?_,λ C H2 hC hs2 hp2=>qe _ _ ⟨hC.1,?_⟩ (hs1.trans hs2) hp2⟩
   ·obtain ⟨hno,rfl⟩:=hv
    dsimp only at hno
    refine ⟨_,rfl,_,rfl,sz_2,λ t ht=>q _ _ ⟨t,a,b,rfl,upd_same,?_⟩ ((hs1.trans hs2).upd ((hs1.trans hs2).free ht)) hp2.tup⟩
    unfold zdj
    rw [hd]
    exact if_neg hno
   ·have h2:=hC.2
    dsimp only at h2
    unfold zdj
    rw [hd]
    exact if_pos h2
  ·have hd:dotL z 2=none:=hC.2
   unfold zdj
   rw [hd]
theorem sc_q26:FnScope ["text", "rank", "window", "count"] ["text"] (zha zd0):=by walk_at "sc"
theorem zsx (T:Txt w K mg A) (G_q12:zps P w K mg B A) (G_q6:zrz P w K mg B A):zlv P w K mg B A:=by
 have B_q12:=T.b_q12
 have B_q6:=T.b_q6
 refine T.F_q26.okX sc_q26 (λ vs H Q E h=>?_) (λ _ _ _ _ H vs Q E hr h=>?_)
 ·obtain ⟨_,a,⟨rfl,_⟩,_⟩:=h
  rfl
 ·obtain ⟨hp,z,⟨rfl,hz⟩,q,qe⟩:=h
  refine ⟨_,(zca (zmf (zga G_q6 (hr.mono (by decide)) rfl T.g_q6 T.k_q6 B_q6 .nil (Wants.passes zia) (zaa (pv 0) (zaa zea zda))) (zbv rfl (zma (zka (i:=1) sc_q26.nd rfl (Or.inl rfl)) (zma (zka (i:=2) sc_q26.nd rfl (Or.inl rfl)) (zma (zka (i:=3) sc_q26.nd rfl (Or.inl rfl)) zqb)))))
   (zca (zid (zga G_q12 (hr.mono (by decide)) rfl T.g_q12 T.k_q12 B_q12 .nil (Wants.passes zia) (zaa (pv 2) (zaa (pv 3) zda))))
   (zfa (zoa (zsa (zaa (pv 1) (zaa (pv 2) (zaa (pv 3) zda)))))))),?_⟩
  refine ⟨_,rfl,hp,(z,3),⟨rfl,hz⟩,λ v H1 hv hs1 hp1=>?_,λ C H1 hC hs1 hp1=>qe _ _ ⟨hC.1,?_⟩ hs1 hp1⟩
  ·obtain ⟨l,ns,rfl,hl,hd⟩:=hv
   dsimp only at hd
   obtain ⟨r,a,b,rfl⟩:=zbr hd
   refine ⟨l,_,rfl,SqL.of hl,rfl,_,_,rfl,_,_,rfl,_,_,rfl,rfl,?_⟩
   refine ⟨_,rfl,_,rfl,hp1,(a,b),rfl,λ v H2 hv hs2 hp2=>?_,λ C H2 hC hs2 hp2=>qe _ _ ⟨hC.1,?_⟩ (hs1.trans hs2) hp2⟩
   ·obtain ⟨hno,rfl⟩:=hv
    dsimp only at hno
    refine ⟨_,rfl,_,rfl,_,rfl,sz_3,λ t ht=>q _ _ ⟨t,(r,a,b),rfl,upd_same,?_⟩ ((hs1.trans hs2).upd ((hs1.trans hs2).free ht)) hp2.tup⟩
    unfold zdk
    rw [hd]
    exact if_neg hno
   ·have h2:=hC.2
    dsimp only at h2
    unfold zdk
    rw [hd]
    exact if_pos h2
  ·have hd:dotL z 3=none:=hC.2
   unfold zdk
   rw [hd]
theorem ztx:FnScope ["text"] ["text"] (zha ztz):=by walk_at "sc"
theorem zly (T:Txt w K mg A) (G_q26:zlv P w K mg B A):zct P w K mg B A:=by
 have B_q26:=T.b_q26
 refine T.F_q19.okX ztx (λ vs H Q E h=>?_) (λ _ _ _ _ H vs Q E hr h=>?_)
 ·obtain ⟨_,a,⟨rfl,_⟩,_⟩:=h
  rfl
 ·obtain ⟨hp,z,⟨rfl,hz⟩,q,qe⟩:=h
  refine ⟨_,(zfa (zoa (zza zkc rfl T.n_tuple (by decide +kernel) (zaa (zfc _ ["part"] 1 [] zia ⟨⟨_,_,_,rfl,rfl,rfl⟩⟩ rfl (zjc (zxi PySem.F.plainAttrs_str PySem.F.slot_str_split PySem.F.type_str_split zrm (pv 0) (zaa zla zda))) gk1 (λ _ _ _ _ _=>zka (i:=0) (show List.Nodup (["part"]:List Str) by decide +kernel) rfl (Or.inl rfl)) (λ _ _ _ _ _=>zpb) (λ _ _ _ _ _ hW=>(zga G_q26 (hr.mono (by decide)) rfl T.g_q26 T.k_q26 B_q26 .nil (Wants.passes hW) (zaa (pv 0) zda)))) zda)))),?_⟩
  refine ⟨_,rfl,rfl,z,_,rfl,rfl,by decide,by omega,λ l hl=>?_⟩
  have hlen:=split_le z "/"
  refine ⟨l,rfl,⟨_,SqL.of upd_same⟩,λ D hD=>zdb (n:=((Txt.split z "/").map V.str).length) (λ i=>((Txt.split z "/").map V.str).getD i .non) (λ i y H=>∃ s,DV K H (stp s) y∧∃ p,(Txt.split z "/")[i]? = some p∧zdk p=some s) hD hp.lst ?_ (zie (SqL.of upd_same)) ?_ ?_ ?_⟩
  ·rw [List.length_map];exact sm1 ((by omega))
  ·rintro i y H1 H2 ⟨s,hd,r⟩ k hz
   exact ⟨s,DV.mono k hz _ _ (zgq s) hd,r⟩
  ·intro i H2 R hi hP2 hs2 hR
   rw [List.length_map] at hi
   have hn:(Txt.split z "/")[i]? = some (Txt.split z "/")[i]:=List.getElem?_eq_getElem hi
   have hm:(Txt.split z "/")[i]∈Txt.split z "/" := List.getElem_mem hi
   generalize (Txt.split z "/")[i]=p at hn hm
   have hpz:=part_short hm
   have ev:((Txt.split z "/").map V.str).getD i .non = .str p:=by rw [List.getD_eq_getElem?_getD,List.getElem?_map,hn];rfl
   rw [ev]
   refine ⟨_,rfl,hP2,p,⟨rfl,by omega⟩,λ v H6 hv hs6 hp6=>?_,λ C H6 hC hs6 hp6=>qe _ _ ⟨hC.1,zmc hm hC.2⟩ (((zba hl).trans hs2).trans hs6) hp6⟩
   obtain ⟨t,s,rfl,ht,hs⟩:=hv
   exact hR _ _ ⟨s,zq0 (SqT.of ht),p,hn,hs⟩ hs6 hp6
  ·intro ys H2 hl2 hr2 hd2 hs2 hP2
   rw [List.length_map] at hl2
   obtain ⟨ss,hss,hdv,hr⟩:=zdp (R:=λ i s=>∃ p,(Txt.split z "/")[i]? = some p∧zdk p=some s) hr2
   refine ⟨D,ys,rfl,.inl ⟨SqL.of hd2,λ t ht=>q _ _ ⟨ss,⟨t,ys,rfl,SqT.of upd_same,DVs.same (zba ht) _ _ hdv⟩,?_⟩ (((zba hl).trans hs2).upd (((zba hl).trans hs2).free ht)) hP2.tup⟩⟩
   unfold zjh
   refine zze (by omega) λ i p hp=>?_
   have hi:i<ss.length:=by
    have:=(List.getElem?_eq_some_iff.mp hp).1
    omega
   obtain ⟨p',e1,e2⟩:=hr i ss[i] (List.getElem?_eq_getElem hi)
   rw [hp] at e1
   cases e1
   exact ⟨ss[i],List.getElem?_eq_getElem hi,e2⟩
theorem zv0:FnScope ["beat"] ["beat"] (zha zxy):=by walk_at "sc"
theorem zl1 (T:Txt w K mg A)  : zjv P w K mg B A:=by
 refine T.F_q10.okN zv0 (λ vs H Q E h=>?_) (λ _ _ _ _ H vs Q E hr h=>?_)
 ·obtain ⟨_,a,rfl,_⟩:=h
  rfl
 ·obtain ⟨hp,b,rfl,q,_⟩:=h
  refine ⟨_,(zfa (zoa (zsa (zaa (pv 0) (zaa (zsa zda) (zaa zla zda)))))),?_⟩
  refine ⟨_,rfl,sz_0,λ te hp1=>?_⟩
  generalize hH1:upd H te (HO.tup _)=H1
  have s1:Same H H1:=hH1 ▸ zba hp1
  have P1:Plain H1:=hH1 ▸ hp.tup
  have h1:=(congrFun hH1 te).symm.trans upd_same
  refine ⟨sz_3,λ t hp2=>?_⟩
  generalize hH2:upd H1 t (HO.tup _)=H2
  have s2:Same H1 H2:=hH2 ▸ zba hp2
  have P2:Plain H2:=hH2 ▸ P1.tup
  have h2:=(congrFun hH2 t).symm.trans upd_same
  exact q _ _ (zzn (v:=(b,[], "")) (SqT.of h2) (DV.same s2 _ _ (zvf h1))) (s1.trans s2) P2
theorem sc_q4:FnScope ["text", "beat_text", "blank", "rest", "beat", "where", "words", "place"] ["text"] (zha s_q4):=by walk_at "sc"
theorem zo3 (T:Txt w K mg A) (G_q34:zsr P w K mg B A) (G_q29:zvs P w K mg B A) (G_q19:zct P w K mg B A) (G_q10:zjv P w K mg B A):ze2 P w K mg B A:=by
 have B_q34:=T.b_q34
 have B_q29:=T.b_q29
 have B_q19:=T.b_q19
 have B_q10:=T.b_q10
 obtain ⟨t_OUT,g_OUT⟩:=T.u_OUT
 refine T.F_q4.okX sc_q4 (λ vs H Q E h=>?_) (λ _ _ _ _ H vs Q E hr h=>?_)
 ·obtain ⟨_,a,⟨rfl,_⟩,_⟩:=h
  rfl
 ·obtain ⟨hp,z,⟨rfl,hz⟩,q,qe⟩:=h
  refine ⟨_,(zca (zmf (zxi PySem.F.plainAttrs_str PySem.F.slot_str_partition PySem.F.type_str_partition zsc (pv 0) (zaa zla zda)) (zyc rfl (zma (zka (i:=1) sc_q4.nd rfl (Or.inl rfl)) (zma (zka (i:=2) sc_q4.nd rfl (Or.inl rfl)) (zma (zka (i:=3) sc_q4.nd rfl (Or.inl rfl)) zqb)))))
   (zca (zya (i:=4) sc_q4.nd rfl (Or.inl rfl) (zga G_q29 (hr.mono (by decide)) rfl T.g_q29 T.k_q29 B_q29 .nil (Wants.passes zia) (zaa zea (zaa (pv 1) zda))))
   (zca (ztb (zna zvd (pv 3) (zgb (v := .str "-") rfl g_OUT ⟨t_OUT,rfl⟩) (zva _)) (zfa (zoa (zga G_q10 (hr.mono (by decide)) rfl T.g_q10 T.k_q10 B_q10 .nil zac (zaa (pv 4) zda)))) zpa)
   (zca (zmf (zxi PySem.F.plainAttrs_str PySem.F.slot_str_partition PySem.F.type_str_partition zsc (pv 3) (zaa zla zda)) (zyc rfl (zma (zka (i:=5) sc_q4.nd rfl (Or.inl rfl)) (zma (zka (i:=2) sc_q4.nd rfl (Or.inl rfl)) (zma (zka (i:=6) sc_q4.nd rfl (Or.inl rfl)) zqb)))))
   (zca (zya (i:=7) sc_q4.nd rfl (Or.inl rfl) (zga G_q19 (hr.mono (by decide)) rfl T.g_q19 T.k_q19 B_q19 .nil (Wants.passes zia) (zaa (pv 5) zda)))
   (zca (ztb (PW.pt (zjn (zna zvd (pv 2) zla (zva _)) (zcg (zpf (zwe (zga G_q34 (hr.mono (by decide)) rfl T.g_q34 T.k_q34 B_q34 .nil zac (zaa (pv 6) zda))))))) (zfa (zfb T.x_NoText zia rfl rfl T.g_NoText (zaa zla zda))) zpa)
   (zfa (zoa (zsa (zaa (pv 4) (zaa (pv 7) (zaa (pv 6) zda)))))))))))),?_⟩
  have f1:=fact_partition z " "
  have vn:=zif (z:=z)
  have vo:=λ b=>zum (z:=z) (b:=b)
  have vi:=λ b=>zyp (z:=z) (b:=b)
  refine ⟨_,rfl,rfl,z,_,rfl,rfl,by decide,by omega,λ t1 hp1=>?_⟩
  generalize Txt.partition z " " = pt at f1 vn vo vi ⊢
  obtain ⟨a,bl,r⟩:=pt
  dsimp only at f1 vn vo vi ⊢
  generalize hH1:upd H t1 (HO.tup _)=H1
  have s1:Same H H1:=hH1 ▸ zba hp1
  have P1:Plain H1:=hH1 ▸ hp.tup
  have h1:=(congrFun hH1 t1).symm.trans upd_same
  refine ⟨t1,_,rfl,SqT.of h1,rfl,_,_,rfl,_,_,rfl,_,_,rfl,rfl,?_⟩
  refine ⟨_,rfl,P1,(1,a),⟨rfl,by show a.length≤640;omega⟩,λ v H2 hv s2 P2=>?_,λ C H2 hC s2 P2=>qe _ _ ⟨hC.1,vn hC.2⟩ (s1.trans s2) P2⟩
  obtain ⟨b,rfl,hb⟩:=hv
  have S2:=s1.trans s2
  refine ⟨_,rfl,rfl,_,rfl,zwc (λ he=>?_) (λ he=>?_)⟩
  ·refine ⟨_,rfl,P2,b,rfl,λ v H3 hv s3 P3=>q _ _ ⟨_,hv,vo b hb (V.str.inj he)⟩ (S2.trans s3) P3,λ _ _ h=>h.elim⟩
  have vi:=vi b hb (λ e=>he (by rw [e]))
  have f2:=fact_partition r " "
  unfold znt at vi
  refine ⟨_,rfl,rfl,r,_,rfl,rfl,by decide,by omega,λ t3 hp3=>?_⟩
  generalize Txt.partition r " " = pt at f2 vi ⊢
  obtain ⟨p,bl2,w⟩:=pt
  dsimp only at f2 vi ⊢
  generalize hH3:upd H2 t3 (HO.tup _)=H3
  have s3:Same H2 H3:=hH3 ▸ zba hp3
  have P3:Plain H3:=hH3 ▸ P2.tup
  have h3:=(congrFun hH3 t3).symm.trans upd_same
  have S3:=S2.trans s3
  refine ⟨t3,_,rfl,SqT.of h3,rfl,_,_,rfl,_,_,rfl,_,_,rfl,rfl,?_⟩
  refine ⟨_,rfl,P3,p,⟨rfl,by omega⟩,λ v H4 hv s4 P4=>?_,λ C H4 hC s4 P4=>qe _ _ ⟨hC.1,by rw [vi,hC.2]⟩ (S3.trans s4) P4⟩
  obtain ⟨ss,hd,hpl⟩:=hv
  rw [hpl] at vi
  dsimp only at vi
  have S4:=S3.trans s4
  have no:(bl2 = "" ∨ zyb w=false)→∀ H5,Same H4 H5→Plain H5→E (.ref A.NoText) none H5:=λ h H5 s5 P5=>qe _ _ ⟨rfl,by rw [vi];exact if_pos h⟩ (S4.trans s5) P5
  refine ⟨_,rfl,rfl,_,rfl,zwc (λ h1=>iteT ?_) (λ h1=>?_)⟩
  ·exact ⟨sz_1,no (.inl (V.str.inj h1)) _ (Same.refl _) P4⟩
  refine ⟨_,rfl,P4,w,rfl,λ v hv=>⟨_,hv,?_⟩⟩
  cases hw:zyb w with
  | false=>exact iteT ⟨sz_1,no (.inr hw) _ (Same.refl _) P4⟩
  | true =>
   refine iteF ⟨_,rfl,_,rfl,_,rfl,sz_3,λ t5 hp5=>?_⟩
   generalize hH5:upd H4 t5 (HO.tup _)=H5
   have s5:Same H4 H5:=hH5 ▸ zba hp5
   have P5:Plain H5:=hH5 ▸ P4.tup
   have h5:=(congrFun hH5 t5).symm.trans upd_same
   refine q _ _ ⟨(b,ss,w),zzn (v:=(b,ss,w)) (SqT.of h5) (DV.same s5 _ _ hd),?_⟩ (S4.trans s5) P5
   rw [vi]
   exact if_neg λ h=>h.elim (λ e=>h1 (by rw [e])) λ e=>by rw [hw] at e;cases e
theorem zl0:FnScope ["text"] ["text"] (zha zhx):=by walk_at "sc"
theorem zkz (T:Txt w K mg A) (G_q34:zsr P w K mg B A):zut P w K mg B A:=by
 have B_q34:=T.b_q34
 refine T.F_q20.okX zl0 (λ vs H Q E h=>?_) (λ _ _ _ _ H vs Q E hr h=>?_)
 ·obtain ⟨_,a,⟨rfl,_⟩,_⟩:=h
  rfl
 ·obtain ⟨hp,z,rfl,q,qe⟩:=h
  refine ⟨_,(zca (ztb (zpf (zwe (zga G_q34 (hr.mono (by decide)) rfl T.g_q34 T.k_q34 B_q34 .nil zac (zaa (pv 0) zda)))) (zfa (zfb T.x_NoText zia rfl rfl T.g_NoText (zaa zla zda))) zpa)
   (zfa (zoa (pv 0)))),?_⟩
  refine ⟨_,rfl,hp,z,rfl,λ v hv=>⟨_,hv,?_⟩⟩
  cases hw:zyb z with
  | false=>exact iteT ⟨sz_1,qe _ _ ⟨rfl,hw⟩ (Same.refl _) hp⟩
  | true=>exact iteF ⟨_,rfl,q _ _ ⟨rfl,hw⟩ (Same.refl _) hp⟩
theorem ze4:FnScope ["text"] ["text"] (zha s_q9):=by walk_at "sc"
theorem zr4 (T:Txt w K mg A)  : zl2 P w K mg B A:=by
 refine T.F_q9.okX ze4 (λ vs H Q E h=>?_) (λ _ _ _ _ H vs Q E hr h=>?_)
 ·obtain ⟨_,a,⟨rfl,_⟩,_⟩:=h
  rfl
 ·obtain ⟨hp,z,rfl,q,qe⟩:=h
  refine ⟨_,(zca (ztb (zna zee (pv 0) (zgb (v := .ref A.CHOICES) rfl T.g_CHOICES rfl) (by rfl)) (zfa (zfb T.x_NoText zia rfl rfl T.g_NoText (zaa zla zda))) zpa)
   (zfa (zoa (pv 0)))),?_⟩
  refine ⟨_,rfl,A.CHOICES,_,rfl,.inr (T.t_CHOICES _),rfl,rfl,_,rfl,?_⟩
  show if (!inV (.str z) ((["stay", "turn", "both"]:List Str).map V.str))=true then _ else _
  rw [zvg]
  by_cases hm:z∈(["stay", "turn", "both"]:List Str)
  ·rw [decide_eq_true hm]
   exact iteF ⟨_,rfl,q _ _ ⟨rfl,hm⟩ (Same.refl _) hp⟩
  ·rw [decide_eq_false hm]
   exact iteT ⟨sz_1,qe _ _ ⟨rfl,hm⟩ (Same.refl _) hp⟩
theorem zv1:FnScope ["kind", "text"] ["kind", "text"] (zha zvy):=by walk_at "sc"
theorem ze1 (T:Txt w K mg A) (G_q11:znn P w K mg B A) (G_q29:zvs P w K mg B A) (G_q31:zft P w K mg B A) (G_q4:ze2 P w K mg B A) (G_q20:zut P w K mg B A) (G_q9:zl2 P w K mg B A):zwv P w K mg B A:=by
 have B_q11:=T.b_q11
 have B_q29:=T.b_q29
 have B_q31:=T.b_q31
 have B_q4:=T.b_q4
 have B_q20:=T.b_q20
 have B_q9:=T.b_q9
 obtain ⟨t_HEAD_OF_ALL,g_HEAD_OF_ALL⟩:=T.u_HEAD_OF_ALL
 refine T.F_q22.okX zv1 (λ vs H Q E h=>?_) (λ _ _ _ _ H vs Q E hr h=>?_)
 ·obtain ⟨_,a,⟨rfl,_⟩,_⟩:=h
  rfl
 ·obtain ⟨hp,⟨k,z⟩,⟨hv,hz,hk⟩,q,qe⟩:=h
  obtain rfl:vs=[.str k,.str z]:=hv
  dsimp only at hz hk
  refine ⟨_,(zca (ztb (zna zvd (pv 0) zla (zva _)) (zfa (zoa (zga G_q31 (hr.mono (by decide)) rfl T.g_q31 T.k_q31 B_q31 .nil (Wants.passes zia) (zaa (pv 1) zda)))) zpa)
   (zca (ztb (zna zvd (pv 0) zla (zva _)) (zfa (zoa (zsh (zna zvd (pv 1) (zgb (v := .str "-") rfl g_HEAD_OF_ALL ⟨t_HEAD_OF_ALL,rfl⟩) (zva _)) zyj (zga G_q31 (hr.mono (by decide)) rfl T.g_q31 T.k_q31 B_q31 .nil (Wants.passes zia) (zaa (pv 1) zda))))) zpa)
   (zca (ztb (zna zvd (pv 0) zla (zva _)) (zfa (zoa (zga G_q4 (hr.mono (by decide)) rfl T.g_q4 T.k_q4 B_q4 .nil (Wants.passes zia) (zaa (pv 1) zda)))) zpa)
   (zca (ztb (zna zvd (pv 0) zla (zva _)) (zfa (zoa (zga G_q20 (hr.mono (by decide)) rfl T.g_q20 T.k_q20 B_q20 .nil (Wants.passes zia) (zaa (pv 1) zda)))) zpa)
   (zca (ztb (zna zvd (pv 0) zla (zva _)) (zfa (zoa (zga G_q9 (hr.mono (by decide)) rfl T.g_q9 T.k_q9 B_q9 .nil (Wants.passes zia) (zaa (pv 1) zda)))) zpa)
   (zca (ztb (zna zvd (pv 0) zla (zva _)) (zfa (zoa (zga G_q11 (hr.mono (by decide)) rfl T.g_q11 T.k_q11 B_q11 .nil (Wants.passes zia) (zaa (pv 1) zda)))) zpa)
   (zfa (zoa (zga G_q29 (hr.mono (by decide)) rfl T.g_q29 T.k_q29 B_q29 .nil (Wants.passes zia) (zaa (zld (ix_C T.t_LEAST) (zgb (v := .ref A.LEAST) rfl T.g_LEAST rfl) (pv 0) (λ _ _=>rfl)) (zaa (pv 1) zda))))))))))),?_⟩
  refine ⟨_,rfl,rfl,_,rfl,zwc (λ e=>?_) (λ n_mark=>?_)⟩
  ·obtain rfl:=V.str.inj e
   have fl:=ztq z
   refine ⟨_,rfl,hp,z,⟨rfl,hz⟩,λ v H1 hv s1 P1=>?_,λ C H1 hC s1 P1=>qe _ _ ⟨hC.1,by dsimp only;rw [fl,hC.2];rfl⟩ s1 P1⟩
   obtain ⟨t,a,b,rfl,ht,hm⟩:=hv
   exact q _ _ ⟨markD (a,b),zls (m:=(a,b)) (SqT.of ht),by dsimp only;rw [fl,hm];rfl⟩ s1 P1
  refine ⟨_,rfl,rfl,_,rfl,zwc (λ e=>?_) (λ n_behind=>?_)⟩
  ·obtain rfl:=V.str.inj e
   have fl:=zpi z
   refine ⟨_,rfl,rfl,_,rfl,zwc (λ h1=>?_) (λ h1=>?_)⟩
   ·exact q _ _ ⟨.none,rfl,by dsimp only;rw [fl,if_pos (V.str.inj h1)]⟩ (Same.refl _) hp
   rw [if_neg (λ x=>h1 (congrArg V.str x))] at fl
   refine ⟨_,rfl,hp,z,⟨rfl,hz⟩,λ v H1 hv s1 P1=>?_,λ C H1 hC s1 P1=>qe _ _ ⟨hC.1,by dsimp only;rw [fl,hC.2];rfl⟩ s1 P1⟩
   obtain ⟨t,a,b,rfl,ht,hm⟩:=hv
   exact q _ _ ⟨markD (a,b),zls (m:=(a,b)) (SqT.of ht),by dsimp only;rw [fl,hm];rfl⟩ s1 P1
  refine ⟨_,rfl,rfl,_,rfl,zwc (λ e=>?_) (λ n_version=>?_)⟩
  ·obtain rfl:=V.str.inj e
   have fl:=zlg z
   refine ⟨_,rfl,hp,z,⟨rfl,hz⟩,λ v H1 hv s1 P1=>?_,λ C H1 hC s1 P1=>qe _ _ ⟨hC.1,by dsimp only;rw [fl,hC.2];rfl⟩ s1 P1⟩
   obtain ⟨x,hx,hm⟩:=hv
   exact q _ _ ⟨ver x,hx,by dsimp only;rw [fl,hm];rfl⟩ s1 P1
  refine ⟨_,rfl,rfl,_,rfl,zwc (λ e=>?_) (λ n_words=>?_)⟩
  ·obtain rfl:=V.str.inj e
   have fl:=zsm z
   refine ⟨_,rfl,hp,z,rfl,λ v H1 hv s1 P1=>?_,λ C H1 hC s1 P1=>qe _ _ ⟨hC.1,by dsimp only;rw [fl,hC.2];rfl⟩ s1 P1⟩
   obtain ⟨rfl,hm⟩:=hv
   exact q _ _ ⟨.str z,rfl,by dsimp only;rw [fl,hm];rfl⟩ s1 P1
  refine ⟨_,rfl,rfl,_,rfl,zwc (λ e=>?_) (λ n_choice=>?_)⟩
  ·obtain rfl:=V.str.inj e
   have fl:=zmj z
   refine ⟨_,rfl,hp,z,rfl,λ v H1 hv s1 P1=>?_,λ C H1 hC s1 P1=>qe _ _ ⟨hC.1,by dsimp only;rw [fl,if_neg hC.2]⟩ s1 P1⟩
   obtain ⟨rfl,hm⟩:=hv
   exact q _ _ ⟨.str z,rfl,by dsimp only;rw [fl,if_pos hm]⟩ s1 P1
  refine ⟨_,rfl,rfl,_,rfl,zwc (λ e=>?_) (λ n_many=>?_)⟩
  ·obtain rfl:=V.str.inj e
   have fl:=zwp z
   refine ⟨_,rfl,hp,z,rfl,hz,λ n hn=>?_,λ hn=>qe _ _ ⟨rfl,by dsimp only;rw [fl,hn];rfl⟩ (Same.refl _) hp⟩
   exact q _ _ ⟨.int n,rfl,by dsimp only;rw [fl,hn];rfl⟩ (Same.refl _) hp
  have hk5:k∈(["beat", "window", "clash", "save", "count"]:List Str):=by
   have al:∀ x∈zpt,x = "mark" ∨ x = "behind" ∨ x = "version" ∨ x = "words" ∨ x = "choice" ∨ x = "many" ∨ x∈(["beat", "window", "clash", "save", "count"]:List Str):=by decide +kernel
   rcases al k hk with e | e | e | e | e | e | e
   ·exact absurd (congrArg V.str e) n_mark
   ·exact absurd (congrArg V.str e) n_behind
   ·exact absurd (congrArg V.str e) n_version
   ·exact absurd (congrArg V.str e) n_words
   ·exact absurd (congrArg V.str e) n_choice
   ·exact absurd (congrArg V.str e) n_many
   ·exact e
  have fl:=zwl hk5 z
  have at_k:∃ t,valueAt ([("beat",Value.int 1 A.v_LEAST_beat),("window",Value.int 1 A.v_LEAST_window),("clash",Value.int 1 A.v_LEAST_clash),("save",Value.int 0 A.v_LEAST_save),("count",Value.int 0 A.v_LEAST_count)]:List (Str×Value)) k=some (.int (zdd k) t):=by
   simp only [List.mem_cons,List.not_mem_nil,or_false] at hk5
   rcases hk5 with rfl | rfl | rfl | rfl | rfl <;> exact ⟨_,rfl⟩
  obtain ⟨tk,hat⟩:=at_k
  refine ⟨_,rfl,rfl,k,_,.int (zdd k),rfl,hat,rfl,_,rfl,hp,(zdd k,z),⟨rfl,hz⟩,λ v H1 hv s1 P1=>?_,λ C H1 hC s1 P1=>qe _ _ ⟨hC.1,by dsimp only at hC ⊢;rw [fl,hC.2];rfl⟩ s1 P1⟩
  obtain ⟨n,rfl,hn⟩:=hv
  dsimp only at hn
  exact q _ _ ⟨.int n,rfl,by dsimp only;rw [fl,hn];rfl⟩ s1 P1
theorem sc_q32:FnScope ["row", "shape", "word", "fields"] ["row"] (zha zuy):=by walk_at "sc"
theorem zk0 (T:Txt w K mg A) (G_q22:zwv P w K mg B A):zbt P w K mg B A:=by
 have B_q22:=T.b_q22
 refine T.F_q32.okX sc_q32 (λ vs H Q E h=>?_) (λ _ _ _ _ H vs Q E hr h=>?_)
 ·obtain ⟨_,a,⟨rfl,_⟩,_⟩:=h
  rfl
 ·obtain ⟨hp,z,⟨rfl,hz⟩,q,qe⟩:=h
  refine ⟨_,(zca (zya (i:=1) sc_q32.nd rfl (Or.inl rfl) (zcw T.t_SHAPES T.y_SHAPES (zgb (v := .ref A.SHAPES) rfl T.g_SHAPES rfl) (λ _ _ _ h=>h) (zld zhd (zxi PySem.F.plainAttrs_str PySem.F.slot_str_partition PySem.F.type_str_partition zsc (pv 0) (zaa zla zda)) zea (λ _ _=>rfl))))
   (zca (ztb (zna zfs (pv 1) zyj (zva _)) (zfa (zfb T.x_NoText zia rfl rfl T.g_NoText (zaa zla zda))) zpa)
   (zca (zmf (zxi PySem.F.plainAttrs_str PySem.F.slot_str_split PySem.F.type_str_split zmo (pv 0) (zaa zla (zaa (zmb zjb rfl T.n_len (by decide +kernel) (zaa (pv 1) zda)) zda))) (zrt rfl (zma (zka (i:=2) sc_q32.nd rfl (Or.inl rfl)) (zxs (zka (i:=3) sc_q32.nd rfl (Or.inl rfl))))))
   (zca (ztb (zna zuw (zmb zjb rfl T.n_len (by decide +kernel) (zaa (pv 3) zda)) (zmb zjb rfl T.n_len (by decide +kernel) (zaa (pv 1) zda)) (zva _)) (zfa (zfb T.x_NoText zia rfl rfl T.g_NoText (zaa zla zda))) zpa)
   (zfa (zoa (zsa (zaa (pv 2) (zaa (zza zkc rfl T.n_tuple (by decide +kernel) (zaa (zfc _ ["kind", "field"] 2 [] zia ⟨⟨_,_,_,rfl,rfl,rfl⟩⟩ rfl (zyt true false rfl T.n_zip (by decide +kernel) (zaa (pv 1) (zaa (pv 3) zda))) gk2 (λ _ _ _ _ _=>zyc rfl (zma (zka (i:=0) (show List.Nodup (["kind", "field"]:List Str) by decide +kernel) rfl (Or.inl rfl)) (zma (zka (i:=1) (show List.Nodup (["kind", "field"]:List Str) by decide +kernel) rfl (Or.inl rfl)) zqb))) (λ _ _ _ _ _=>zpb) (λ _ _ _ _ _ hW=>(zga G_q22 (hr.mono (by decide)) rfl T.g_q22 T.k_q22 B_q22 .nil (Wants.passes hW) (zaa (pv 0) (zaa (pv 1) zda))))) zda)) zda))))))))),?_⟩
  refine ⟨_,rfl,rfl,z,_,rfl,rfl,by decide,by omega,λ t1 hp1=>?_⟩
  generalize hH1:upd H t1 (HO.tup _)=H1
  have s1:Same H H1:=hH1 ▸ zba hp1
  have P1:Plain H1:=hH1 ▸ hp.tup
  have h1:=(congrFun hH1 t1).symm.trans upd_same
  refine ⟨_,_,_,_,rfl,rfl,SqT.of h1,rfl,_,rfl,?_⟩
  have rl:rowL z=rowL z:=rfl
  conv at rl=>rhs;unfold rowL
  rcases zdm T H1 (Txt.partition z " ").1 with ⟨e1,e2⟩ | ⟨a,ks,e1,e2,hks,⟨k1,k4⟩,hkk⟩
  ·rw [e2] at rl
   refine .inl ⟨e1,?_⟩
   exact ⟨_,rfl,rfl,_,rfl,zpr rfl ⟨sz_1,qe _ _ ⟨rfl,rl⟩ s1 P1⟩⟩
  rw [e2] at rl
  dsimp only at rl
  refine .inr ⟨_,_,e1,rfl,?_⟩
  refine ⟨_,rfl,rfl,_,rfl,zgk (by intro x;cases x) ?_⟩
  obtain ⟨wd,fs,hc⟩:=zdu z ks.length
  rw [hc] at rl
  dsimp only at rl
  have hsh:∀ p∈wd::fs,p.length≤z.length:=λ p hp=>zgm (z:=z) (n:=ks.length) (by rw [hc];exact hp)
  refine ⟨_,rfl,rfl,_,rfl,a,_,rfl,.inr hks,z,32,(ks.map V.str).length,rfl,rfl,by omega,by rw [List.length_map];omega,λ l hp2=>?_⟩
  rw [show cutK 32 (Txt.split z ⟨#[32]⟩) (ks.map V.str).length=wd::fs by rw [List.length_map];exact hc]
  generalize hH2:upd H1 l (HO.lst _)=H2
  have s2:Same H1 H2:=hH2 ▸ zba hp2
  have P2:Plain H2:=hH2 ▸ P1.lst
  have h2:=(congrFun hH2 l).symm.trans upd_same
  refine ⟨l,.str wd,fs.map V.str,rfl,SqL.of h2,λ D hp3=>?_⟩
  generalize hH3:upd H2 D (HO.lst _)=H3
  have s3:Same H2 H3:=hH3 ▸ zba hp3
  have P3:Plain H3:=hH3 ▸ P2.lst
  have h3:=(congrFun hH3 D).symm.trans upd_same
  refine ⟨_,_,rfl,_,_,rfl,rfl,?_⟩
  refine ⟨_,rfl,D,_,rfl,.inl (SqL.of h3),_,rfl,a,_,rfl,.inr ((s2.trans s3).seqT hks),rfl,_,rfl,zmw (λ hne=>?_) (λ heq=>?_)⟩
  ·rw [List.length_map,List.length_map] at hne
   refine ⟨sz_1,qe _ _ ⟨rfl,by rw [rl,if_neg (λ e=>hne (by rw [e]))]⟩ ((s1.trans s2).trans s3) P3⟩
  rw [List.length_map,List.length_map] at heq
  have heq:fs.length=ks.length:=by have:=V.int.inj heq;omega
  rw [if_pos heq] at rl
  have S3:=(s1.trans s2).trans s3
  have hk3:SqA true K H3 a (ks.map V.str):=(s2.trans s3).seqT hks
  refine ⟨_,rfl,_,rfl,_,rfl,a,D,rfl,⟨_,hk3⟩,⟨_,SqL.of h3⟩,λ L hL=>zmm (b:=true) (xs:=ks.map V.str) (ys:=fs.map V.str) (λ i y H=>∃ k f d,ks[i]? = some k∧fs[i]? = some f∧zib k f=some d∧DV K H d y) hL P3 hk3 (SqL.of h3) ?_ ?_ ?_ ?_ ?_⟩
  ·rw [List.length_map];exact sm1 ((by omega))
  ·rw [List.length_map,List.length_map,heq]
  ·rintro i y H5 H6 ⟨k,f,d,g1,g2,g3,g4⟩ hb hz'
   exact ⟨k,f,d,g1,g2,g3,DV.mono hb hz' d y (zxt g3) g4⟩
  ·intro i x y H5 T' R hx hy P5 S5 hT hR
   rw [List.getElem?_map] at hx hy
   obtain ⟨k,hk,rfl⟩:=Option.map_eq_some_iff.mp hx
   obtain ⟨f,hf,rfl⟩:=Option.map_eq_some_iff.mp hy
   have hfz:=hsh f (List.mem_cons_of_mem _ (List.mem_of_getElem? hf))
   refine ⟨T',_,rfl,SqT.of upd_same,rfl,_,_,rfl,_,_,rfl,rfl,?_⟩
   refine ⟨_,rfl,_,rfl,P5.tup,(k,f),⟨rfl,by show f.length≤640;omega,hkk k (List.mem_of_getElem? hk)⟩,λ v H7 hv s7 P7=>?_,λ C H7 hC s7 P7=>qe _ _ ⟨hC.1,?_⟩ (S3.trans (S5.trans ((zba hT).trans s7))) P7⟩
   ·obtain ⟨d,g1,g2⟩:=hv
    exact hR _ _ ⟨k,f,d,hk,hf,g2,g1⟩ ((zba hT).trans s7) P7
   ·have hm:(k,f)∈ks.zip fs:=List.mem_of_getElem? (i:=i) (List.getElem?_zip_eq_some.mpr ⟨hk,hf⟩)
    rw [rl,zmc (f:=λ p:Str×Str=>zib p.1 p.2) hm hC.2]
    rfl
  ·intro vs H5 hl5 hr5 hd5 S5 P5
   rw [List.length_map] at hl5
   obtain ⟨ds,hds,hdv⟩:=zfu (K:=K) (H:=H5) (f:=λ p:Str×Str=>zib p.1 p.2) (xs:=ks.zip fs) (ys:=vs) (by rw [List.length_zip,hl5];omega) λ i y hy=>by
    obtain ⟨k,f,d,g1,g2,g3,g4⟩:=hr5 i y hy
    exact ⟨(k,f),d,List.getElem?_zip_eq_some.mpr ⟨g1,g2⟩,g3,g4⟩
   refine ⟨L,vs,rfl,.inl ⟨SqL.of hd5,λ t6 hp6=>?_⟩⟩
   generalize hH6:upd H5 t6 (HO.tup _)=H6
   have s6:Same H5 H6:=hH6 ▸ zba hp6
   have P6:Plain H6:=hH6 ▸ P5.tup
   have h6:=(congrFun hH6 t6).symm.trans upd_same
   refine ⟨sz_2,λ t7 hp7=>?_⟩
   generalize hH7:upd H6 t7 (HO.tup _)=H7
   have s7:Same H6 H7:=hH7 ▸ zba hp7
   have P7:Plain H7:=hH7 ▸ P6.tup
   have h7:=(congrFun hH7 t7).symm.trans upd_same
   exact q _ _ ⟨wd,ds,⟨t7,_,rfl,SqT.of h7,_,_,rfl,rfl,_,_,rfl,⟨t6,vs,rfl,SqT.of (s7 _ _ h6),DVs.same (s6.trans s7) _ _ hdv⟩,rfl⟩,by rw [rl,hds];rfl⟩ (S3.trans (S5.trans (s6.trans s7))) P7
theorem sc_q0:FnScope ["rows", "told", "words", "pieces", "asides"] ["rows"] (zha s_q0):=by walk_at "sc"
theorem zu3 (T:Txt w K mg A) (G_q32:zbt P w K mg B A):zay P w K mg B A:=by
 have B_q32:=T.b_q32
 obtain ⟨t_END,g_END⟩:=T.u_END
 refine T.F_q0.okX sc_q0 (λ vs H Q E h=>?_) (λ _ _ _ _ H vs Q E hr h=>?_)
 ·obtain ⟨_,a,⟨rfl,_⟩,_⟩:=h
  rfl
 ·obtain ⟨hp,⟨p,zs,H0⟩,⟨hv,hq,hn,hz,hH⟩,q,qe⟩:=h
  obtain rfl:vs=[.ref p]:=hv
  dsimp only at hq hn hz hH q qe
  have hH:=hH.symm
  subst hH
  refine ⟨_,(zca (ztb (PW.pt (zjn (zna (zkl hr.units) (pv 0) (zzb zda) (zva _)) (zcg (zna zuw (zld zcf (pv 0) (zk2 zet zea) (λ _ _=>rfl)) (zgb (v := .str "end") rfl g_END ⟨t_END,rfl⟩) (zva _))))) (zfa (zfb T.x_NoText zia rfl rfl T.g_NoText (zaa zla zda))) zpa)
   (zca (zms _ ["row"] 1 [] (i:=1) sc_q0.nd rfl (Or.inl rfl) zia ⟨⟨_,_,_,rfl,rfl,rfl⟩⟩ rfl (zjc (zxb ztk (pv 0) zud (zpc (zk2 zet zea)))) gk1 (λ _ _ _ _ _=>zka (i:=0) (show List.Nodup (["row"]:List Str) by decide +kernel) rfl (Or.inl rfl)) (λ _ _ _ _ _=>zpb) (λ _ _ _ _ _ hW=>(zga G_q32 (hr.mono (by decide)) rfl T.g_q32 T.k_q32 B_q32 .nil (Wants.passes hW) (zaa (pv 0) zda))))
   (zca (zan ["word", "values"] 2 [] (i:=2) sc_q0.nd rfl (Or.inl rfl) rfl (zjc (pv 1)) gk2 (λ _ _ _ _ _=>zyc rfl (zma (zka (i:=0) (show List.Nodup (["word", "values"]:List Str) by decide +kernel) rfl (Or.inl rfl)) (zma (zka (i:=1) (show List.Nodup (["word", "values"]:List Str) by decide +kernel) rfl (Or.inl rfl)) zqb))) (λ _ _ _ _ _=>zpb) (λ _ _ _ _ _=>(pv 0)))
   (zca (zan ["word", "values"] 2 [] (i:=3) sc_q0.nd rfl (Or.inl rfl) rfl (zjc (pv 1)) gk2 (λ _ _ _ _ _=>zyc rfl (zma (zka (i:=0) (show List.Nodup (["word", "values"]:List Str) by decide +kernel) rfl (Or.inl rfl)) (zma (zka (i:=1) (show List.Nodup (["word", "values"]:List Str) by decide +kernel) rfl (Or.inl rfl)) zqb))) (λ _ _ _ _ _=>zpq (zna zvd (pv 0) zla (zva _))) (λ _ _ _ _ _=>(pv 1)))
   (zca (zan ["word", "values"] 2 [] (i:=4) sc_q0.nd rfl (Or.inl rfl) rfl (zjc (pv 1)) gk2 (λ _ _ _ _ _=>zyc rfl (zma (zka (i:=0) (show List.Nodup (["word", "values"]:List Str) by decide +kernel) rfl (Or.inl rfl)) (zma (zka (i:=1) (show List.Nodup (["word", "values"]:List Str) by decide +kernel) rfl (Or.inl rfl)) zqb))) (λ _ _ _ _ _=>zpq (zna zvd (pv 0) zla (zva _))) (λ _ _ _ _ _=>(pv 1)))
   (zca (ztb (PW.pt (zjn (zna (zkl hr.units) (pv 2) (zzb zda) (zva _)) (zcg (zna zee (zld zcf (pv 2) zea (λ _ _=>rfl)) (zgb (v := .ref A.HEADS) rfl T.g_HEADS rfl) (by rfl))))) (zfa (zfb T.x_NoText zia rfl rfl T.g_NoText (zaa zla zda))) zpa)
   (zca (ztb (zna (zqk hr.units) (zxb ztk (pv 2) (zpc zea) zud) (zqa zwd (zqa zau (zzb (zaa zla zda)) (zmb zjb rfl T.n_len (by decide +kernel) (zaa (pv 3) zda))) (zqa zau (zzb (zaa zla zda)) (zmb zjb rfl T.n_len (by decide +kernel) (zaa (pv 4) zda)))) (zva _)) (zfa (zfb T.x_NoText zia rfl rfl T.g_NoText (zaa zla zda))) zpa)
   (zfa (zoa (zsa (zaa (zqa zng (zsa (zaa (zld zcf (pv 2) zea (λ _ _=>rfl)) zda)) (zld zhd (zld zcf (pv 1) zea (λ _ _=>rfl)) zea (λ _ _=>rfl))) (zaa (pv 3) (zaa (pv 4) zda))))))))))))),?_⟩
  have okz:∀ z∈zs,PyData.strOk z=true:=λ z h=>(hz z h).2
  refine ⟨_,rfl,sz_0,λ l0 hp1=>?_⟩
  generalize hH1:upd H l0 (HO.lst _)=H1
  have s1:Same H H1:=hH1 ▸ zba hp1
  have P1:Plain H1:=hH1 ▸ hp.lst
  have h1:=(congrFun hH1 l0).symm.trans upd_same
  refine ⟨.list (zs.map PyData.str),.list (([]:List Str).map PyData.str),⟨p,_,rfl,s1.seq hq,zlb _⟩,⟨l0,_,rfl,SqL.of h1,zlb []⟩,zhb okz,zhb (λ p hp=>absurd hp (by simp)),_,rfl,?_⟩
  rw [show PyData.eqv (.list (zs.map PyData.str)) (.list (([]:List Str).map PyData.str))=PyData.eqvAll (zs.map PyData.str) (([]:List Str).map PyData.str) from rfl,zjf]
  refine zwc (λ h0=>iteT ?_) (λ h0=>?_)
  ·subst h0
   exact ⟨sz_1,qe _ _ ⟨rfl,rfl⟩ s1 P1⟩
  obtain ⟨ys,e,rfl⟩:∃ ys e,zs=ys++[e]:=⟨zs.dropLast,zs.getLast h0,(List.dropLast_concat_getLast h0).symm⟩
  have bk:zuh (ys++[e])=(if some e=some ("end" : Str) then (zxa rowL ys).bind zjs else none):=by unfold zuh;rw [List.getLast?_concat,List.dropLast_concat]
  rw [List.map_append] at hq
  rw [List.length_append] at hn
  have hn:ys.length≤39:=by simpa using hn
  refine ⟨_,rfl,_,rfl,p,_,_,_,rfl,rfl,s1.seq hq,zmr _ _,rfl,_,rfl,zmw (λ hne=>?_) (λ he=>?_)⟩
  ·refine ⟨sz_1,qe _ _ ⟨rfl,by rw [bk];exact if_neg (λ x=>hne (by cases x;rfl))⟩ s1 P1⟩
  obtain rfl:e = "end" := V.str.inj he
  rw [if_pos rfl] at bk
  have hqq:=s1.seq hq
  refine ⟨_,rfl,_,rfl,_,rfl,p,_,rfl,hqq,λ p2 hp2=>?_⟩
  rw [show cutV (ys.map V.str++[Str.ofString "end"].map V.str) none (some (-1))=ys.map V.str by rw [zjr,List.length_append];exact List.take_left' (by simp)]
  generalize hH2:upd H1 p2 (HO.lst _)=H2
  have s2:Same H1 H2:=hH2 ▸ zba hp2
  have P2:Plain H2:=hH2 ▸ P1.lst
  have h2:=(congrFun hH2 p2).symm.trans upd_same
  refine ⟨p2,rfl,⟨_,SqL.of h2⟩,λ D hD=>zdb (n:=(ys.map V.str).length) (λ i=>(ys.map V.str).getD i .non) (λ i y H=>∃ z r,ys[i]? = some z∧rowL z=some r∧DV K H (rowD r) y) hD P2 ?_ (zie (SqL.of h2)) ?_ ?_ ?_⟩
  ·rw [List.length_map];exact sm1 ((by omega))
  ·rintro i y Ha Hb ⟨z,r,g1,g2,g3⟩ hb hz'
   exact ⟨z,r,g1,g2,DV.mono hb hz' _ y (zuq g2) g3⟩
  ·intro i H5 R hi P5 S5 hR
   rw [List.length_map] at hi
   have hyi:ys[i]? = some ys[i]:=List.getElem?_eq_getElem hi
   have hm:ys[i]∈ys:=List.getElem_mem hi
   generalize ys[i]=z at hyi hm
   rw [show (ys.map V.str).getD i .non = .str z by rw [List.getD_eq_getElem?_getD,List.getElem?_map,hyi];rfl]
   refine ⟨_,rfl,P5,z,⟨rfl,(hz z (List.mem_append_left _ hm)).1⟩,λ v H7 hv s7 P7=>?_,λ C H7 hC s7 P7=>qe _ _ ⟨hC.1,?_⟩ ((s1.trans s2).trans (S5.trans s7)) P7⟩
   ·obtain ⟨w,ds,g1,g2⟩:=hv
    exact hR _ _ ⟨z,(w,ds),hyi,g2,g1⟩ s7 P7
   ·rw [bk,zmc hm hC.2]
    rfl
  intro vs H5 hl5 hr5 hd5 S5 P5
  rw [List.length_map] at hl5
  obtain ⟨rs,hrs,hdv⟩:=zks (K:=K) (H:=H5) (f:=rowL) (g:=rowD) (xs:=ys) (ys:=vs) hl5 hr5
  rw [hrs] at bk
  have bk:zuh (ys++[Str.ofString "end"])=zjs rs:=bk
  have hrl:rs.length=vs.length:=by rw [hdv.length,List.length_map]
  have S15:Same H H5:=(s1.trans s2).trans S5
  have nol:∀ r∈rs,noL (rowD r)=true:=λ r hr=>by
   obtain ⟨z,_,e⟩:=zub hrs r hr
   exact zuq e
  have okw:∀ w∈rs.map (·.1),PyData.strOk w=true:=λ w hw=>by
   obtain ⟨r,hr,rfl⟩:=List.mem_map.mp hw
   obtain ⟨z,hzm,e⟩:=zub hrs r hr
   exact zf0 e (okz z (List.mem_append_left _ hzm))
  refine ⟨_,rfl,D,rfl,⟨_,SqL.of hd5⟩,λ D2 hD2=>zdb (n:=vs.length) (λ i=>vs.getD i .non) (λ i y _=>∃ r,rs[i]? = some r∧y = .str r.1) hD2 P5 ?_ (zie (SqL.of hd5)) (λ _ _ _ _ h _ _=>h) ?_ ?_⟩
  ·exact sm1 ((by omega))
  ·intro i H6 R hi P6 S6 hR
   have hi':i<rs.length:=by omega
   obtain ⟨t,x,g1,g2,g3⟩:=zws (DVs.same S6 _ _ hdv) hi'
   rw [g1]
   exact ⟨t,_,rfl,g2,rfl,_,_,rfl,_,_,rfl,rfl,_,rfl,hR _ _ ⟨rs[i],List.getElem?_eq_getElem hi',rfl⟩ (Same.refl _) P6⟩
  intro ws H6 hl6 hr6 hd6 S6 P6
  have ew:ws=rs.map λ r=>V.str r.1:=zfe (by omega) hr6
  subst ew
  have hdv6:=DVs.same S6 _ _ hdv
  have hd56:=S6 _ _ hd5
  refine ⟨_,rfl,D,rfl,⟨_,SqL.of hd56⟩,λ D7 hD7=>zmi (λ i=>vs.getD i .non) (λ i=>decide ((rs.getD i default).1 = "piece")) (λ i y H=>DV K H (.tuple (rs.getD i default).2) y∧noL (.tuple (rs.getD i default).2)=true) hD7 P6 (n:=vs.length) (sm1 ((by omega))) (zie (SqL.of hd56)) (λ i y Ha Hb h k hz=>⟨DV.mono k hz _ _ h.2 h.1,h.2⟩) ?_ ?_⟩
  ·intro i Hc Tt Tf hi Pc Sc ht hf
   have hi':i<rs.length:=by omega
   obtain ⟨t,x,g1,g2,g3⟩:=zws (DVs.same Sc _ _ hdv6) hi'
   have eg:rs.getD i default=rs[i]:=by rw [List.getD_eq_getElem?_getD,List.getElem?_eq_getElem hi'];rfl
   rw [eg] at ht hf
   have nl:noL (.tuple rs[i].2)=true:=by
    have:=nol rs[i] (List.getElem_mem hi')
    have this:(true && (noL (.tuple rs[i].2) && true))=true:=this
    rwa [Bool.true_and,Bool.and_true] at this
   rw [g1]
   refine ⟨t,_,rfl,g2,rfl,_,_,rfl,_,_,rfl,rfl,?_⟩
   refine ⟨_,rfl,rfl,_,rfl,?_⟩
   by_cases hw:rs[i].1 = "piece"
   ·rw [decide_eq_true (congrArg V.str hw)]
    exact iteT ⟨_,rfl,ht (decide_eq_true hw) _ _ ⟨g3,nl⟩ (Same.refl _) Pc⟩
   ·rw [decide_eq_false (λ e=>hw (V.str.inj e))]
    exact iteF (hf (decide_eq_false hw) _ (Same.refl _) Pc)
  intro us7 H7 hr7 hd7 S7 P7
  have dv7:DVs K H7 ((ofW "piece" rs).map λ x:Row=>PyData.tuple x.2) us7:=by
   have:=zlh (f:=λ i=>PyData.tuple (rs.getD i default).2) (Paired.mapP hr7 λ i y h=>h.1)
   rw [← hrl,zjk rs default (λ r=>decide (r.1 = "piece")) (λ r:Row=>PyData.tuple r.2)] at this
   exact this
  have hdv7:=DVs.same S7 _ _ hdv6
  have hd57:=S7 _ _ hd56
  refine ⟨_,rfl,D,rfl,⟨_,SqL.of hd57⟩,λ D8 hD8=>zmi (λ i=>vs.getD i .non) (λ i=>decide ((rs.getD i default).1 = "clash")) (λ i y H=>DV K H (.tuple (rs.getD i default).2) y∧noL (.tuple (rs.getD i default).2)=true) hD8 P7 (n:=vs.length) (sm1 ((by omega))) (zie (SqL.of hd57)) (λ i y Ha Hb h k hz=>⟨DV.mono k hz _ _ h.2 h.1,h.2⟩) ?_ ?_⟩
  ·intro i Hc Tt Tf hi Pc Sc ht hf
   have hi':i<rs.length:=by omega
   obtain ⟨t,x,g1,g2,g3⟩:=zws (DVs.same Sc _ _ hdv7) hi'
   have eg:rs.getD i default=rs[i]:=by rw [List.getD_eq_getElem?_getD,List.getElem?_eq_getElem hi'];rfl
   rw [eg] at ht hf
   have nl:noL (.tuple rs[i].2)=true:=by
    have:=nol rs[i] (List.getElem_mem hi')
    have this:(true && (noL (.tuple rs[i].2) && true))=true:=this
    rwa [Bool.true_and,Bool.and_true] at this
   rw [g1]
   refine ⟨t,_,rfl,g2,rfl,_,_,rfl,_,_,rfl,rfl,?_⟩
   refine ⟨_,rfl,rfl,_,rfl,?_⟩
   by_cases hw:rs[i].1 = "clash"
   ·rw [decide_eq_true (congrArg V.str hw)]
    exact iteT ⟨_,rfl,ht (decide_eq_true hw) _ _ ⟨g3,nl⟩ (Same.refl _) Pc⟩
   ·rw [decide_eq_false (λ e=>hw (V.str.inj e))]
    exact iteF (hf (decide_eq_false hw) _ (Same.refl _) Pc)
  intro us8 H8 hr8 hd8 S8 P8
  have dv8:DVs K H8 ((ofW "clash" rs).map λ x:Row=>PyData.tuple x.2) us8:=by
   have:=zlh (f:=λ i=>PyData.tuple (rs.getD i default).2) (Paired.mapP hr8 λ i y h=>h.1)
   rw [← hrl,zjk rs default (λ r=>decide (r.1 = "clash")) (λ r:Row=>PyData.tuple r.2)] at this
   exact this
  have S8':Same H H8:=((S15.trans S6).trans S7).trans S8
  have hw8:H8 D2=some (.lst (rs.map λ r=>V.str r.1)):=S8 _ _ (S7 _ _ hd6)
  have ewm:(rs.map λ r=>V.str r.1)=(rs.map (·.1)).map V.str:=by rw [List.map_map];rfl
  rw [ewm] at hw8
  have h78:=S8 _ _ hd7
  refine ⟨_,rfl,sz_0,λ l9 hp9=>?_⟩
  generalize hH9:upd H8 l9 (HO.lst _)=H9
  have s9:Same H8 H9:=hH9 ▸ zba hp9
  have P9:Plain H9:=hH9 ▸ P8.lst
  have h9:=(congrFun hH9 l9).symm.trans upd_same
  refine ⟨.list ((rs.map (·.1)).map PyData.str),.list (([]:List Str).map PyData.str),⟨D2,_,rfl,SqL.of (s9 _ _ hw8),zlb _⟩,⟨l9,_,rfl,SqL.of h9,zlb []⟩,zhb okw,zhb (λ p hp=>absurd hp (by simp)),_,rfl,?_⟩
  rw [show PyData.eqv (.list ((rs.map (·.1)).map PyData.str)) (.list (([]:List Str).map PyData.str))=PyData.eqvAll ((rs.map (·.1)).map PyData.str) (([]:List Str).map PyData.str) from rfl,zjf]
  have S9:=S8'.trans s9
  cases rs with
  | nil =>
   exact zpr rfl (iteT ⟨sz_1,qe _ _ ⟨rfl,bk⟩ S9 P9⟩)
  | cons r rest =>
  have hw9:=s9 _ _ hw8
  rw [List.map_cons,List.map_cons] at hw9
  refine zgk (by intro e;cases e) ?_
  refine ⟨_,rfl,D2,_,_,.str r.1,rfl,rfl,SqL.of hw9,at0,A.HEADS,_,rfl,.inr (T.t_HEADS _),rfl,rfl,_,rfl,?_⟩
  show if (!inV (.str r.1) (HDS.map V.str))=true then _ else _
  rw [zvg]
  by_cases hm:r.1∉HDS
  ·rw [decide_eq_false hm]
   exact iteT ⟨sz_1,qe _ _ ⟨rfl,by rw [bk];exact if_pos hm⟩ S9 P9⟩
  have hm:=Decidable.not_not.mp hm
  rw [decide_eq_true hm]
  refine iteF ?_
  have bk:zuh (ys++[Str.ofString "end"])=_:=bk.trans (if_neg (λ x=>x hm))
  refine ⟨_,rfl,_,rfl,D2,_,rfl,SqL.of hw9,λ la hpa=>?_⟩
  rw [show cutV (V.str r.1::(rest.map (·.1)).map V.str) (some 1) none=(rest.map (·.1)).map V.str by rw [zqf (by decide)];rfl]
  generalize hHa:upd H9 la (HO.lst _)=Ha
  have sa:Same H9 Ha:=hHa ▸ zba hpa
  have Pa:Plain Ha:=hHa ▸ P9.lst
  have ha:=(congrFun hHa la).symm.trans upd_same
  refine ⟨sz_1,λ lb hpb=>?_⟩
  generalize hHb:upd Ha lb (HO.lst _)=Hb
  have sb:Same Ha Hb:=hHb ▸ zba hpb
  have Pb:Plain Hb:=hHb ▸ Pa.lst
  have hb:=(congrFun hHb lb).symm.trans upd_same
  have u7:us7.length=(ofW "piece" (r::rest)).length:=by rw [dv7.length,List.length_map]
  have u8:us8.length=(ofW "clash" (r::rest)).length:=by rw [dv8.length,List.length_map]
  have o7:(ofW "piece" (r::rest)).length≤(r::rest).length:=List.length_filter_le _ _
  have o8:(ofW "clash" (r::rest)).length≤(r::rest).length:=List.length_filter_le _ _
  have S9b:Same H8 Hb:=(s9.trans sa).trans sb
  refine ⟨_,rfl,D7,_,rfl,.inl (SqL.of (S9b _ _ h78)),lb,_,_,rfl,rfl,hb,by omega,by omega,?_,λ lc hpc=>?_⟩
  ·rw [Int.toNat_natCast]
   show 1 * us7.length≤sizeLine
   exact sm1 ((by omega))
  rw [show (List.replicate (((us7.length:Nat):Int)).toNat [V.str "piece"]).flatten=(List.replicate (ofW "piece" (r::rest)).length (Str.ofString "piece")).map V.str by rw [Int.toNat_natCast,u7,zth,List.map_replicate]]
  generalize hHc:upd Hb lc (HO.lst _)=Hc
  have sc:Same Hb Hc:=hHc ▸ zba hpc
  have Pc:Plain Hc:=hHc ▸ Pb.lst
  have hc:=(congrFun hHc lc).symm.trans upd_same
  refine ⟨sz_1,λ ld hpd=>?_⟩
  generalize hHd:upd Hc ld (HO.lst _)=Hd
  have sd:Same Hc Hd:=hHd ▸ zba hpd
  have Pd:Plain Hd:=hHd ▸ Pc.lst
  have hd:=(congrFun hHd ld).symm.trans upd_same
  have S9d:Same H8 Hd:=(S9b.trans sc).trans sd
  refine ⟨_,rfl,D8,_,rfl,.inl (SqL.of (S9d _ _ hd8)),ld,_,_,rfl,rfl,hd,by omega,by omega,?_,λ le hpe=>?_⟩
  ·rw [Int.toNat_natCast]
   show 1 * us8.length≤sizeLine
   exact sm1 ((by omega))
  rw [show (List.replicate (((us8.length:Nat):Int)).toNat [V.str "clash"]).flatten=(List.replicate (ofW "clash" (r::rest)).length (Str.ofString "clash")).map V.str by rw [Int.toNat_natCast,u8,zth,List.map_replicate]]
  generalize hHe:upd Hd le (HO.lst _)=He
  have se:Same Hd He:=hHe ▸ zba hpe
  have Pe:Plain He:=hHe ▸ Pd.lst
  have he:=(congrFun hHe le).symm.trans upd_same
  refine ⟨lc,le,_,_,rfl,rfl,(sd.trans se) _ _ hc,he,?_,λ lf hpf=>?_⟩
  ·rw [List.length_map,List.length_map,List.length_replicate,List.length_replicate]
   exact sm1 ((by omega))
  rw [← List.map_append]
  generalize hHf:upd He lf (HO.lst _)=Hf
  have sf:Same He Hf:=hHf ▸ zba hpf
  have Pf:Plain Hf:=hHf ▸ Pe.lst
  have hf:=(congrFun hHf lf).symm.trans upd_same
  have Sf:Same H8 Hf:=(S9d.trans se).trans sf
  have Saf:Same Ha Hf:=(((sb.trans sc).trans sd).trans se).trans sf
  refine ⟨.list ((rest.map (·.1)).map PyData.str),.list ((List.replicate (ofW "piece" (r::rest)).length (Str.ofString "piece")++List.replicate (ofW "clash" (r::rest)).length (Str.ofString "clash")).map PyData.str),⟨la,_,rfl,SqL.of (Saf _ _ ha),zlb _⟩,⟨lf,_,rfl,SqL.of hf,zlb _⟩,zhb (λ w hw=>okw w (List.mem_cons_of_mem _ hw)),zhb (λ w hw=>?_),_,rfl,?_⟩
  ·rcases List.mem_append.mp hw with h | h
   ·rw [List.eq_of_mem_replicate h];exact zec _
   ·rw [List.eq_of_mem_replicate h];exact zec _
  rw [show PyData.eqv (.list ((rest.map (·.1)).map PyData.str)) (.list ((List.replicate (ofW "piece" (r::rest)).length (Str.ofString "piece")++List.replicate (ofW "clash" (r::rest)).length (Str.ofString "clash")).map PyData.str))=PyData.eqvAll ((rest.map (·.1)).map PyData.str) ((List.replicate (ofW "piece" (r::rest)).length (Str.ofString "piece")++List.replicate (ofW "clash" (r::rest)).length (Str.ofString "clash")).map PyData.str) from rfl,zjf]
  refine zmw (λ hne=>?_) (λ heq=>?_)
  ·exact ⟨sz_1,qe _ _ ⟨rfl,bk.trans (if_neg hne)⟩ (S8'.trans Sf) Pf⟩
  have bk:zuh (ys++[Str.ofString "end"])=_:=bk.trans (if_pos heq)
  have few:r.2.length≤4:=by
   obtain ⟨z,_,e⟩:=zub hrs r List.mem_cons_self
   exact zst e
  obtain ⟨v0,vr,ev,hv0,_⟩:=hdv
  obtain ⟨t0,x0,rfl,hq0,q0,xs0,rfl,hx0,hds⟩:=zrq hv0
  have S5f:Same H5 Hf:=((S6.trans S7).trans S8).trans Sf
  rw [ev] at hd5
  refine ⟨_,rfl,D2,_,_,.str r.1,rfl,rfl,SqL.of ((((((sa.trans sb).trans sc).trans sd).trans se).trans sf) _ _ hw9),at0,sz_1,λ tg hpg=>?_⟩
  generalize hHg:upd Hf tg (HO.tup _)=Hg
  have sg:Same Hf Hg:=hHg ▸ zba hpg
  have Pg:Plain Hg:=hHg ▸ Pf.tup
  have hg:=(congrFun hHg tg).symm.trans upd_same
  have S5g:=S5f.trans sg
  refine ⟨_,rfl,D,_,_,.ref t0,rfl,rfl,SqL.of (S5g _ _ hd5),at0,t0,_,_,.ref q0,rfl,rfl,S5g.seqT hq0,rfl,?_⟩
  have hxl:xs0.length≤4:=by rw [hds.length];exact few
  refine ⟨tg,q0,_,_,rfl,rfl,SqT.of hg,S5g.seqT hx0,?_,λ th Hh hqh sh ph=>?_⟩
  ·exact sm1 ((by show 1+xs0.length≤1000;omega))
  have Ph:=ph Pg
  refine ⟨_,rfl,_,rfl,sz_3,λ ti hpi=>?_⟩
  generalize hHi:upd Hh ti (HO.tup _)=Hi
  have si:Same Hh Hi:=hHi ▸ zba hpi
  have Pi:Plain Hi:=hHi ▸ Ph.tup
  have hi:=(congrFun hHi ti).symm.trans upd_same
  have Sgi:=sh.trans si
  have S8i:Same H8 Hi:=(Sf.trans sg).trans Sgi
  refine q _ _ ⟨ti,.ref th,D7,D8,us7,us8,.tuple (.str r.1::r.2),_,_,rfl,SqT.of hi,S8i _ _ h78,S8i _ _ hd8,(S15.trans S6).free hD7,((S15.trans S6).trans S7).free hD8,⟨th,_,rfl,si.seqT hqh,_,_,rfl,rfl,DVs.same (S5g.trans Sgi) _ _ hds⟩,DVs.same (S8.trans S8i) _ _ dv7,DVs.same S8i _ _ dv8,bk⟩ (S8'.trans S8i) Pi
theorem zb0:FnScope ["number"] ["number"] (zha zjz):=by walk_at "sc"
theorem zzy (T:Txt w K mg A)  : zxn P w K mg B A:=by
 obtain ⟨t_TOO_GREAT,g_TOO_GREAT⟩:=T.u_TOO_GREAT
 refine T.F_q13.okX zb0 (λ vs H Q E h=>?_) (λ _ _ _ _ H vs Q E hr h=>?_)
 ·obtain ⟨_,n,rfl,_⟩:=h
  rfl
 ·obtain ⟨hp,n,rfl,h1,h2,q1,q2⟩:=h
  refine ⟨_,(zca (ztb (zna zg3 (zmb zyr rfl T.n_abs (by decide +kernel) (zaa (pv 0) zda)) (zgb (v := .int (1000000000000000000000000000000)) rfl g_TOO_GREAT ⟨t_TOO_GREAT,rfl⟩) (zva _)) (zfa (zfb T.x_NoText zia rfl rfl T.g_NoText (zaa zla zda))) zpa)
   (zfa (zoa (zza zab rfl T.n_str (by decide +kernel) (zaa (pv 0) zda))))),?_⟩
  refine ⟨_,rfl,_,rfl,_,_,rfl,rfl,_,rfl,zwc (λ h=>?_) (λ h=>?_)⟩
  ·exact ⟨by decide,q2 (by split at h <;> omega)⟩
  ·refine ⟨_,rfl,_,rfl,zun h1 h2,q1 (by split at h <;> omega) (by split at h <;> omega)⟩
theorem zz3:FnScope ["numbers"] ["numbers"] (zha s_q5):=by walk_at "sc"
theorem zd3 (T:Txt w K mg A) (G_q13:zxn P w K mg B A):zty P w K mg B A:=by
 have B_q13:=T.b_q13
 refine T.F_q5.okX zz3 (λ vs H Q E h=>?_) (λ _ _ _ _ H vs Q E hr h=>?_)
 ·obtain ⟨_,a,⟨rfl,_⟩,_⟩:=h
  rfl
 ·obtain ⟨hp,⟨p,ns⟩,⟨hv,hq,hl,hb⟩,q,qe⟩:=h
  obtain rfl:vs=[.ref p]:=hv
  dsimp only at hq hl hb
  refine ⟨_,(zfa (zoa (zxi PySem.F.plainAttrs_str PySem.F.slot_str_join PySem.F.type_str_join zbg zla (zaa (zfc _ ["number"] 1 [] zia ⟨⟨_,_,_,rfl,rfl,rfl⟩⟩ rfl (zem (pv 0)) gk1 (λ _ _ _ _ _=>zka (i:=0) (show List.Nodup (["number"]:List Str) by decide +kernel) rfl (Or.inl rfl)) (λ _ _ _ _ _=>zpb) (λ _ _ _ _ _ hW=>(zga G_q13 (hr.mono (by decide)) rfl T.g_q13 T.k_q13 B_q13 .nil (Wants.passes hW) (zaa (pv 0) zda)))) zda)))),?_⟩
  refine ⟨rfl,_,rfl,p,rfl,⟨_,hq⟩,λ D hD=>zdb (n:=(ns.map V.int).length) (λ i=>(ns.map V.int).getD i .non) (λ i y _=>∃ n,ns[i]? = some n∧B30 n∧y = .str (toString n)) hD hp ?_ (zdl hq) (λ _ _ _ _ h _ _=>h) ?_ ?_⟩
  ·rw [List.length_map];exact sm1 ((by omega))
  ·intro i H2 R hi hP2 hs2 hR
   rw [List.length_map] at hi
   have hn:ns[i]? = some ns[i]:=List.getElem?_eq_getElem hi
   have hm:ns[i]∈ns:=List.getElem_mem hi
   have b:=hb _ hm
   generalize ns[i]=n at hn hm b
   have ev:(ns.map V.int).getD i .non = .int n:=by rw [List.getD_eq_getElem?_getD,List.getElem?_map,hn];rfl
   rw [ev]
   exact ⟨_,rfl,hP2,n,rfl,b.1,b.2,λ a1 a2=>hR _ _ ⟨n,hn,⟨a1,a2⟩,rfl⟩ (Same.refl _) hP2,λ hnb=>qe _ _ ⟨rfl,n,hm,hnb⟩ hs2 hP2⟩
  ·intro ys H2 hl2 hr2 hd2 hs2 hP2
   rw [List.length_map] at hl2
   have ey:ys=(ns.map λ n=>Str.ofString (toString n)).map V.str:=by
    rw [List.map_map]
    refine zfe hl2 λ i y e=>?_
    obtain ⟨n,e1,_,e2⟩:=hr2 i y e
    exact ⟨n,e1,e2⟩
   have hb30:∀ n∈ns,B30 n:=by
    intro n hn
    obtain ⟨i,hi,e⟩:=List.getElem_of_mem hn
    have:i<ys.length:=by omega
    obtain ⟨n',e1,b,_⟩:=hr2 i ys[i] (List.getElem?_eq_getElem this)
    rw [List.getElem?_eq_getElem hi,e] at e1
    cases e1
    exact b
   refine ⟨_,D,ns.map λ n=>Str.ofString (toString n),rfl,rfl,SqL.of (by rw [hd2,ey]),?_,q _ _ ⟨hb30,rfl⟩ hs2 hP2⟩
   have h1:((ns.map λ n=>Str.ofString (toString n)).map (·.length)).sum≤ns.length * 41:=zkg λ n hn=>zsk (hb n hn).1 (hb n hn).2
   rw [List.length_map]
   have:(Str.ofString ".").length=1:=rfl
   rw [this]
   omega
theorem zg0:FnScope ["mark"] ["mark"] (zha zy0):=by walk_at "sc"
theorem zmz (T:Txt w K mg A) (G_q5:zty P w K mg B A):zwt P w K mg B A:=by
 have B_q5:=T.b_q5
 refine T.F_q30.okX zg0 (λ vs H Q E h=>?_) (λ _ _ _ _ H vs Q E hr h=>?_)
 ·obtain ⟨_,a,⟨rfl,_⟩,_⟩:=h
  rfl
 ·obtain ⟨hp,⟨p,ns⟩,⟨hv,hq,hl,hb⟩,q,qe⟩:=h
  obtain rfl:vs=[.ref p]:=hv
  refine ⟨_,(zfa (zoa (zga G_q5 (hr.mono (by decide)) rfl T.g_q5 T.k_q5 B_q5 .nil (Wants.passes zia) (zaa (pv 0) zda)))),?_⟩
  exact ⟨_,rfl,hp,(p,ns),⟨rfl,hq,hl,hb⟩,q,qe⟩
theorem zw0:FnScope ["place"] ["place"] (zha zix):=by walk_at "sc"
theorem ze0 (T:Txt w K mg A) (G_q5:zty P w K mg B A):ztt P w K mg B A:=by
 have B_q5:=T.b_q5
 refine T.F_q15.okX zw0 (λ vs H Q E h=>?_) (λ _ _ _ _ H vs Q E hr h=>?_)
 ·obtain ⟨_,a,⟨rfl,_⟩,_⟩:=h
  rfl
 ·obtain ⟨hp,⟨p,ss⟩,⟨hv,hd,hl,hb⟩,q,qe⟩:=h
  obtain rfl:vs=[.ref p]:=hv
  dsimp only at hd hl hb
  obtain ⟨p2,xs,hpe,hq,hds⟩:=hd
  cases hpe
  have hxl:xs.length=ss.length:=by rw [hds.length,List.length_map]
  refine ⟨_,(zfa (zoa (zxi PySem.F.plainAttrs_str PySem.F.slot_str_join PySem.F.type_str_join zbg zla (zaa (zfc _ ["step"] 1 [] zia ⟨⟨_,_,_,rfl,rfl,rfl⟩⟩ rfl (zem (pv 0)) gk1 (λ _ _ _ _ _=>zka (i:=0) (show List.Nodup (["step"]:List Str) by decide +kernel) rfl (Or.inl rfl)) (λ _ _ _ _ _=>zpb) (λ _ _ _ _ _ hW=>(zga G_q5 (hr.mono (by decide)) rfl T.g_q5 T.k_q5 B_q5 .nil (Wants.passes hW) (zaa (pv 0) zda)))) zda)))),?_⟩
  refine ⟨rfl,_,rfl,p,rfl,⟨_,hq⟩,λ D hD=>zdb (n:=xs.length) (λ i=>xs.getD i .non) (λ i y _=>∃ s,ss[i]? = some s∧S30 s∧y = .str (dots (sL s))) hD hp ?_ (zdl hq) (λ _ _ _ _ h _ _=>h) ?_ ?_⟩
  ·exact sm1 ((by omega))
  ·intro i H2 R hi hP2 hs2 hR
   have hi':i<ss.length:=by omega
   obtain ⟨t,ht,hq2⟩:=zmq hds hi'
   have hn:ss[i]? = some ss[i]:=List.getElem?_eq_getElem hi'
   have hm:ss[i]∈ss:=List.getElem_mem hi'
   generalize ss[i]=s at hn hm hq2
   have ev:xs.getD i .non = .ref t:=by rw [List.getD_eq_getElem?_getD,ht];rfl
   rw [ev]
   refine ⟨_,rfl,hP2,(t,sL s),⟨rfl,hs2.seqT hq2,by show 3≤10;decide,zar (hb s hm)⟩,λ v H6 hv hs6 hp6=>hR _ _ ⟨s,hn,zlu hv.1,hv.2⟩ hs6 hp6,λ C H6 hC hs6 hp6=>qe _ _ ⟨hC.1,s,hm,λ h30=>?_⟩ (hs2.trans hs6) hp6⟩
   obtain ⟨n,hn1,hn2⟩:=hC.2
   exact hn2 (zar h30 n hn1)
  ·intro ys H2 hl2 hr2 hd2 hs2 hP2
   have ey:ys=(ss.map λ s=>dots (sL s)).map V.str:=by
    rw [List.map_map]
    refine zfe (by omega) λ i y e=>?_
    obtain ⟨s,e1,_,e2⟩:=hr2 i y e
    exact ⟨s,e1,e2⟩
   have hb30:∀ s∈ss,S30 s:=by
    intro s hs
    obtain ⟨i,hi,e⟩:=List.getElem_of_mem hs
    have:i<ys.length:=by omega
    obtain ⟨s',e1,b,_⟩:=hr2 i ys[i] (List.getElem?_eq_getElem this)
    rw [List.getElem?_eq_getElem hi,e] at e1
    cases e1
    exact b
   refine ⟨_,D,ss.map λ s=>dots (sL s),rfl,rfl,SqL.of (by rw [hd2,ey]),?_,q _ _ ⟨hb30,rfl⟩ hs2 hP2⟩
   have h1:((ss.map λ s=>dots (sL s)).map (·.length)).sum≤ss.length * 125:=zkg λ s hs=>zcn (hb s hs)
   rw [List.length_map]
   have:(Str.ofString "/").length=1:=rfl
   rw [this]
   omega
theorem zq1:FnScope ["version"] ["version"] (zha zgz):=by walk_at "sc"
theorem zjy (T:Txt w K mg A)  : zxv P w K mg B A:=by
 refine T.F_q37.okN zq1 (λ vs H Q E h=>?_) (λ _ _ _ _ H vs Q E hr h=>?_)
 ·obtain ⟨_,a,⟨x,rfl,_⟩,_⟩:=h
  rfl
 ·obtain ⟨hp,v,⟨x,hv,hx⟩,q,_⟩:=h
  obtain rfl:vs=[x]:=hv
  obtain ⟨t,pa,rfl,hq,hd⟩:=zos hx
  refine ⟨_,(zfa (zoa (zgf (zqk hr.units) (zld zhd (pv 0) zea (λ _ _=>rfl)) (zsa zda) (zva _)))),?_⟩
  refine ⟨_,rfl,_,_,_,_,rfl,rfl,hq,rfl,sz_0,λ te hp1=>?_⟩
  generalize hH1:upd H te (HO.tup _)=H1
  have s1:Same H H1:=hH1 ▸ zba hp1
  have P1:Plain H1:=hH1 ▸ hp.tup
  have h1:=(congrFun hH1 te).symm.trans upd_same
  refine ⟨plc v.2.1,plc [],DV.same s1 _ _ hd,zvf h1,zxc _,zxc _,q _ _ ?_ s1 P1⟩
  rw [zzp]
theorem sc_q2:FnScope ["version", "beat", "place", "words"] ["version"] (zha s_q2):=by walk_at "sc"
theorem zk4 (T:Txt w K mg A) (G_q13:zxn P w K mg B A) (G_q15:ztt P w K mg B A) (G_q37:zxv P w K mg B A):zh2 P w K mg B A:=by
 have B_q13:=T.b_q13
 have B_q15:=T.b_q15
 have B_q37:=T.b_q37
 obtain ⟨t_OUT,g_OUT⟩:=T.u_OUT
 refine T.F_q2.okX sc_q2 (λ vs H Q E h=>?_) (λ _ _ _ _ H vs Q E hr h=>?_)
 ·obtain ⟨_,a,⟨x,rfl,_⟩,_⟩:=h
  rfl
 ·obtain ⟨hp,v,⟨x,hv,hx,hg⟩,q,qe⟩:=h
  obtain rfl:vs=[x]:=hv
  obtain ⟨t,pa,rfl,hq,hd⟩:=zos hx
  obtain ⟨g1,g2,g3,g4⟩:=hg
  refine ⟨_,(zca (zmf (pv 0) (zyc rfl (zma (zka (i:=1) sc_q2.nd rfl (Or.inl rfl)) (zma (zka (i:=2) sc_q2.nd rfl (Or.inl rfl)) (zma (zka (i:=3) sc_q2.nd rfl (Or.inl rfl)) zqb)))))
   (zca (ztb (zpf (zwe (zga G_q37 (hr.mono (by decide)) rfl T.g_q37 T.k_q37 B_q37 .nil zac (zaa (pv 0) zda)))) (zfa (zoa (zfq (zxk (zga G_q13 (hr.mono (by decide)) rfl T.g_q13 T.k_q13 B_q13 .nil (Wants.passes zia) (zaa (pv 1) zda)) (zes (zxk (zgb (v := .str "-") rfl g_OUT ⟨t_OUT,rfl⟩) zpv)))))) zpa)
   (zfa (zoa (zfq (zxk (zga G_q13 (hr.mono (by decide)) rfl T.g_q13 T.k_q13 B_q13 .nil (Wants.passes zia) (zaa (pv 1) zda)) (zes (zxk (zga G_q15 (hr.mono (by decide)) rfl T.g_q15 T.k_q15 B_q15 .nil (Wants.passes zia) (zaa (pv 2) zda)) (zes (zxk (pv 3) zpv)))))))))),?_⟩
  have l40:=zsk g1.1 g1.2
  have n1:(Str.ofString " ").length=1:=rfl
  have n2:(Str.ofString "-").length=1:=rfl
  have n0:Str.empty.length=0:=rfl
  refine ⟨_,rfl,t,_,rfl,hq,rfl,_,_,rfl,_,_,rfl,_,_,rfl,rfl,?_⟩
  refine ⟨_,rfl,hp,v,⟨_,rfl,hx⟩,λ r H1 hr s1 P1=>⟨_,hr,?_⟩,λ _ _ h=>h.elim⟩
  have hd1:=DV.same s1 _ _ hd
  by_cases ho:v.2.1=[]
  ·rw [decide_eq_true ho]
   refine iteT ⟨_,rfl,P1,v.1,rfl,g1.1,g1.2,λ a1 a2=>?_,λ hn=>qe _ _ ⟨rfl,λ h=>hn ⟨h.1.1,h.1.2⟩⟩ s1 P1⟩
   refine ⟨_,rfl,sm1 ((by omega)),sm1 ((by rw [zja];omega)),sm1 ((by rw [zja,zja];omega)),_,rfl,by decide,sm1 ((by rw [zja,zja,zja];omega)),sm1 ((by rw [zja,zja,zja];omega)),q _ _ ⟨⟨⟨a1,a2⟩,by rw [ho];intro s hs;cases hs⟩,?_⟩ s1 P1⟩
   unfold zsb
   rw [if_pos ho,zki,zvl]
   rfl
  ·rw [decide_eq_false ho]
   obtain ⟨p,xs,rfl,hpq,hds⟩:=id hd1
   refine iteF ⟨_,rfl,P1,v.1,rfl,g1.1,g1.2,λ a1 a2=>?_,λ hn=>qe _ _ ⟨rfl,λ h=>hn ⟨h.1.1,h.1.2⟩⟩ s1 P1⟩
   refine ⟨_,rfl,sm1 ((by omega)),sm1 ((by rw [zja];omega)),sm1 ((by rw [zja,zja];omega)),_,rfl,P1,(p,v.2.1),⟨rfl,hd1,by show v.2.1.length≤10;omega,g3⟩,λ r H2 hr s2 P2=>?_,λ C H2 hC s2 P2=>qe _ _ ⟨hC.1,λ h=>?_⟩ (s1.trans s2) P2⟩
   ·obtain ⟨b30,rfl⟩:=hr
    have sl:(zvc v.2.1).length≤800:=by
     have h1:=zzf "/" (v.2.1.map λ s=>dots (sL s))
     have h2:((v.2.1.map λ s=>dots (sL s)).map (·.length)).sum≤v.2.1.length * 125:=zkg λ s hs=>zcn (g3 s hs)
     have h3:(Str.ofString "/").length=1:=rfl
     rw [h3,List.length_map] at h1
     unfold zvc
     omega
    refine ⟨_,rfl,sm1 ((by show (zvc v.2.1).length≤1000;omega)),sm1 ((by rw [zja,zja,zja];show _+(zvc v.2.1).length≤1000;omega)),sm1 ((by rw [zja,zja,zja,zja];show _+(zvc v.2.1).length+_≤1000;omega)),_,rfl,_,rfl,sm1 ((by omega)),sm1 ((by rw [zja,zja,zja,zja,zja];show _+(zvc v.2.1).length+_+_≤1000;omega)),sm1 ((by rw [zja,zja,zja,zja,zja];show _+(zvc v.2.1).length+_+_≤1000;omega)),q _ _ ⟨⟨⟨a1,a2⟩,b30⟩,?_⟩ (s1.trans s2) P2⟩
    unfold zsb
    rw [if_neg ho,zki]
   ·obtain ⟨s,hs,hn⟩:=hC.2
    exact hn (h.2 s hs)
theorem zkx:FnScope ["kind", "value"] ["kind", "value"] (zha zf1):=by walk_at "sc"
theorem zn1 (T:Txt w K mg A) (G_q13:zxn P w K mg B A) (G_q30:zwt P w K mg B A) (G_q2:zh2 P w K mg B A):zru P w K mg B A:=by
 have B_q13:=T.b_q13
 have B_q30:=T.b_q30
 have B_q2:=T.b_q2
 obtain ⟨t_HEAD_OF_ALL,g_HEAD_OF_ALL⟩:=T.u_HEAD_OF_ALL
 refine T.F_q16.okX zkx (λ vs H Q E h=>?_) (λ _ _ _ _ H vs Q E hr h=>?_)
 ·obtain ⟨_,a,⟨x,rfl,_⟩,_⟩:=h
  rfl
 ·obtain ⟨hp,⟨k,f⟩,⟨x,hv,hd,hk,hs⟩,q,qe⟩:=h
  obtain rfl:vs=[.str k,x]:=hv
  dsimp only at hd hk hs q qe
  refine ⟨_,(zca (ztb (zna zvd (pv 0) zla (zva _)) (zfa (zoa (zga G_q30 (hr.mono (by decide)) rfl T.g_q30 T.k_q30 B_q30 .nil (Wants.passes zia) (zaa (pv 1) zda)))) zpa)
   (zca (ztb (zna zvd (pv 0) zla (zva _)) (zfa (zoa (zsh (zna zfs (pv 1) zyj (zva _)) (zgb (v := .str "-") rfl g_HEAD_OF_ALL ⟨t_HEAD_OF_ALL,rfl⟩) (zga G_q30 (hr.mono (by decide)) rfl T.g_q30 T.k_q30 B_q30 .nil (Wants.passes zia) (zaa (pv 1) zda))))) zpa)
   (zca (ztb (zna zvd (pv 0) zla (zva _)) (zfa (zoa (zga G_q2 (hr.mono (by decide)) rfl T.g_q2 T.k_q2 B_q2 .nil (Wants.passes zia) (zaa (pv 1) zda)))) zpa)
   (zca (ztb (zna zsn (pv 0) (zsa (zaa zla (zaa zla zda))) (by rfl)) (zfa (zoa (pv 1))) zpa)
   (zfa (zoa (zga G_q13 (hr.mono (by decide)) rfl T.g_q13 T.k_q13 B_q13 .nil (Wants.passes zia) (zaa (pv 1) zda)))))))),?_⟩
  have ne:∀ {a b:Str},¬ a=b→¬ V.str a=V.str b:=λ h e=>h (V.str.inj e)
  have b40:∀ m:Mark,ztj m→∀ n∈[m.1,m.2],B40 n:=λ m h n hn=>by
   simp only [List.mem_cons,List.not_mem_nil,or_false] at hn
   rcases hn with rfl | rfl
   ·exact ztc h.1
   ·exact ztc h.2
  cases f with
  | mk m =>
   have hk:k = "mark" := hk
   subst hk
   have hs':ztj m:=hs
   obtain ⟨p,rfl,hq⟩:=zqj hd
   refine ⟨_,rfl,rfl,_,rfl,zpr rfl ⟨_,rfl,⟨hp,(p,[m.1,m.2]),⟨rfl,hq,by show 2≤10;decide,b40 m hs'⟩,λ v H1 hv s1 P1=>q _ _ ⟨⟨hv.1 _ (by simp),hv.1 _ (by simp)⟩,hv.2⟩ s1 P1,λ C H1 hC s1 P1=>qe _ _ ⟨hC.1,λ x=>?_⟩ s1 P1⟩⟩⟩
   obtain ⟨n,hn,hb⟩:=hC.2
   simp only [List.mem_cons,List.not_mem_nil,or_false] at hn
   rcases hn with rfl | rfl
   ·exact hb x.1
   ·exact hb x.2
  | bh o =>
   have hk:k = "behind" := hk
   subst hk
   refine ⟨_,rfl,rfl,_,rfl,zgk (ne (by decide)) ?_⟩
   refine ⟨_,rfl,rfl,_,rfl,zpr rfl ?_⟩
   cases o with
   | none =>
    have hd:x = .non:=hd
    subst hd
    exact ⟨_,rfl,rfl,_,rfl,zpr rfl (q _ _ ⟨trivial,rfl⟩ (Same.refl _) hp)⟩
   | some m =>
    have hs':ztj m:=hs m rfl
    obtain ⟨p,rfl,hq⟩:=zqj hd
    refine ⟨_,rfl,rfl,_,rfl,zgk (by intro z;cases z) ⟨_,rfl,⟨hp,(p,[m.1,m.2]),⟨rfl,hq,by show 2≤10;decide,b40 m hs'⟩,λ v H1 hv s1 P1=>q _ _ ⟨⟨hv.1 _ (by simp),hv.1 _ (by simp)⟩,hv.2⟩ s1 P1,λ C H1 hC s1 P1=>qe _ _ ⟨hC.1,λ x=>?_⟩ s1 P1⟩⟩⟩
    obtain ⟨n,hn,hb⟩:=hC.2
    simp only [List.mem_cons,List.not_mem_nil,or_false] at hn
    rcases hn with rfl | rfl
    ·exact hb x.1
    ·exact hb x.2
  | vr v =>
   have hk:k = "version" := hk
   subst hk
   refine ⟨_,rfl,rfl,_,rfl,zgk (ne (by decide)) ?_⟩
   refine ⟨_,rfl,rfl,_,rfl,zgk (ne (by decide)) ?_⟩
   refine ⟨_,rfl,rfl,_,rfl,zpr rfl ?_⟩
   exact ⟨_,rfl,hp,v,⟨_,rfl,hd,v40 hs⟩,λ r H1 hr s1 P1=>q _ _ hr s1 P1,λ C H1 hC s1 P1=>qe _ _ hC s1 P1⟩
  | tx z =>
   have hd:x = .str z:=hd
   subst hd
   have h4:¬ k = "mark" ∧ ¬ k = "behind" ∧ ¬ k = "version" ∧ k∈(["words", "choice"]:List Str):=by
    rcases (show k = "words" ∨ k = "choice" from hk) with rfl | rfl <;> decide
   refine ⟨_,rfl,rfl,_,rfl,zgk (ne h4.1) ?_⟩
   refine ⟨_,rfl,rfl,_,rfl,zgk (ne h4.2.1) ?_⟩
   refine ⟨_,rfl,rfl,_,rfl,zgk (ne h4.2.2.1) ?_⟩
   refine ⟨_,rfl,sz_2,λ t1 hp1=>?_⟩
   generalize hH1:upd H t1 (HO.tup _)=H1
   have s1:Same H H1:=hH1 ▸ zba hp1
   have P1:Plain H1:=hH1 ▸ hp.tup
   have h1:=(congrFun hH1 t1).symm.trans upd_same
   refine ⟨t1,_,rfl,.inr (SqT.of h1),rfl,rfl,_,rfl,?_⟩
   show if inV (.str k) ((["words", "choice"]:List Str).map V.str)=true then _ else _
   rw [zvg,decide_eq_true h4.2.2.2]
   exact iteT ⟨_,rfl,q _ _ ⟨trivial,rfl⟩ s1 P1⟩
  | nm n =>
   have hd:x = .int n:=hd
   subst hd
   have h4:¬ k = "mark" ∧ ¬ k = "behind" ∧ ¬ k = "version" ∧ k∉(["words", "choice"]:List Str):=by
    have al:∀ k∈NKN,¬ k = "mark" ∧ ¬ k = "behind" ∧ ¬ k = "version" ∧ k∉(["words", "choice"]:List Str):=by decide
    exact al k hk
   refine ⟨_,rfl,rfl,_,rfl,zgk (ne h4.1) ?_⟩
   refine ⟨_,rfl,rfl,_,rfl,zgk (ne h4.2.1) ?_⟩
   refine ⟨_,rfl,rfl,_,rfl,zgk (ne h4.2.2.1) ?_⟩
   refine ⟨_,rfl,sz_2,λ t1 hp1=>?_⟩
   generalize hH1:upd H t1 (HO.tup _)=H1
   have s1:Same H H1:=hH1 ▸ zba hp1
   have P1:Plain H1:=hH1 ▸ hp.tup
   have h1:=(congrFun hH1 t1).symm.trans upd_same
   refine ⟨t1,_,rfl,.inr (SqT.of h1),rfl,rfl,_,rfl,?_⟩
   show if inV (.str k) ((["words", "choice"]:List Str).map V.str)=true then _ else _
   rw [zvg,decide_eq_false h4.2.2.2]
   have b:=ztc (show B31 n from hs)
   exact iteF ⟨_,rfl,P1,n,rfl,b.1,b.2,λ a1 a2=>q _ _ ⟨⟨a1,a2⟩,rfl⟩ s1 P1,λ hn=>qe _ _ ⟨rfl,λ x=>hn x⟩ s1 P1⟩
theorem zd1:FnScope ["word", "values"] ["word", "values"] (zha zj0):=by walk_at "sc"
theorem zs0 (T:Txt w K mg A) (G_q16:zru P w K mg B A):zhv P w K mg B A:=by
 have B_q16:=T.b_q16
 refine T.F_q35.okX zd1 (λ vs H Q E h=>?_) (λ _ _ _ _ H vs Q E hr h=>?_)
 ·obtain ⟨_,a,⟨x,rfl,_⟩,_⟩:=h
  rfl
 ·obtain ⟨hp,⟨w0,fs⟩,⟨x,hv,hd,hw,hn,⟨ks,hsh,hpk⟩,hs⟩,q,qe⟩:=h
  obtain rfl:vs=[.str w0,x]:=hv
  dsimp only at hd hw hn hsh hpk hs q qe
  refine ⟨_,(zfa (zoa (zxi PySem.F.plainAttrs_str PySem.F.slot_str_join PySem.F.type_str_join zbg zla (zaa (zqa zwd (zzb (zaa (pv 0) zda)) (zfc _ ["kind", "value"] 2 [] zia ⟨⟨_,_,_,rfl,rfl,rfl⟩⟩ rfl (zyt true true rfl T.n_zip (by decide +kernel) (zaa (zld (ix_C T.t_SHAPES) (zgb (v := .ref A.SHAPES) rfl T.g_SHAPES rfl) (pv 0) (λ _ _=>rfl)) (zaa (pv 1) zda))) gk2 (λ _ _ _ _ _=>zyc rfl (zma (zka (i:=0) (show List.Nodup (["kind", "value"]:List Str) by decide +kernel) rfl (Or.inl rfl)) (zma (zka (i:=1) (show List.Nodup (["kind", "value"]:List Str) by decide +kernel) rfl (Or.inl rfl)) zqb))) (λ _ _ _ _ _=>zpb) (λ _ _ _ _ _ hW=>(zga G_q16 (hr.mono (by decide)) rfl T.g_q16 T.k_q16 B_q16 .nil (Wants.passes hW) (zaa (pv 0) (zaa (pv 1) zda)))))) zda)))),?_⟩
  obtain ⟨tx,xs,rfl,hq,hxs⟩:=id hd
  have hxl:xs.length=fs.length:=by rw [hxs.length,List.length_map]
  have hkl:=Paired.length hpk
  refine ⟨rfl,_,rfl,sz_1,λ l1 hp1=>?_⟩
  generalize hH1:upd H l1 (HO.lst _)=H1
  have s1:Same H H1:=hH1 ▸ zba hp1
  have P1:Plain H1:=hH1 ▸ hp.lst
  have h1:=(congrFun hH1 l1).symm.trans upd_same
  rcases zdm T H1 w0 with ⟨e1,e2⟩ | ⟨a,ks',e1,e2,hks,⟨k1,k4⟩,hkk⟩
  ·rw [hsh] at e2;cases e2
  rw [hsh] at e2
  cases e2
  refine ⟨_,rfl,rfl,w0,_,_,rfl,e1,rfl,_,rfl,a,tx,rfl,⟨_,hks⟩,⟨_,s1.seqT hq⟩,λ D hD=>zmm (b:=true) (b2:=true) (xs:=ks.map V.str) (ys:=xs) (λ i y _=>∃ f,fs[i]? = some f∧f.fits∧y = .str f.text) hD P1 hks (s1.seqT hq) ?_ ?_ (λ _ _ _ _ h _ _=>h) ?_ ?_⟩
  ·rw [List.length_map];exact sm1 ((by omega))
  ·rw [List.length_map,hxl,hkl]
  ·intro i x y H5 T' R hx hy P5 S5 hT hR
   rw [List.getElem?_map] at hx
   obtain ⟨k,hk,rfl⟩:=Option.map_eq_some_iff.mp hx
   have hil:i<fs.length:=by have:=(List.getElem?_eq_some_iff.mp hk).1;omega
   have hf:fs[i]? = some fs[i]:=List.getElem?_eq_getElem hil
   have hfm:fs[i]∈fs:=List.getElem_mem hil
   generalize fs[i]=f at hf hfm
   have hkf:Fld.isK k f:=Paired.at_ hpk hk hf
   obtain ⟨y',hy',hdy⟩:=(DVs.same (s1.trans S5) _ _ hxs).get (i:=i) (d:=f.data) (by rw [List.getElem?_map,hf];rfl)
   rw [hy] at hy'
   cases hy'
   refine ⟨T',_,rfl,SqT.of upd_same,rfl,_,_,rfl,_,_,rfl,rfl,?_⟩
   refine ⟨_,rfl,_,rfl,P5.tup,(k,f),⟨_,rfl,DV.same (zba hT) _ _ hdy,hkf,hs f hfm⟩,λ v H7 hv s7 P7=>hR _ _ ⟨f,hf,hv.1,hv.2⟩ ((zba hT).trans s7) P7,λ C H7 hC s7 P7=>qe _ _ ⟨hC.1,λ h=>hC.2 (h f hfm)⟩ (s1.trans (S5.trans ((zba hT).trans s7))) P7⟩
  intro vs H5 hl5 hr5 hd5 S5 P5
  rw [List.length_map] at hl5
  have ev:vs=fs.map λ f=>V.str f.text:=zfe (by omega) λ i y hy=>let ⟨f,a,b,c⟩:=hr5 i y hy; ⟨f,a,c⟩
  have fit:∀ f∈fs,f.fits:=λ f hf=>by
   obtain ⟨i,hi⟩:=List.getElem?_of_mem hf
   obtain ⟨f',a,b,_⟩:=hr5 i (V.str f.text) (by rw [ev,List.getElem?_map,hi];rfl)
   rw [hi] at a
   cases a
   exact b
  rw [show (fs.map λ f=>V.str f.text)=(fs.map Fld.text).map V.str by rw [List.map_map];rfl] at ev
  subst ev
  refine ⟨l1,D,_,_,rfl,rfl,S5 _ _ h1,hd5,?_,λ l6 hp6=>?_⟩
  ·rw [List.length_map,List.length_map]
   exact sm1 ((by show 1+fs.length≤1000;omega))
  rw [show [V.str w0]++(fs.map Fld.text).map V.str=(w0::fs.map Fld.text).map V.str from rfl]
  generalize hH6:upd H5 l6 (HO.lst _)=H6
  have s6:Same H5 H6:=hH6 ▸ zba hp6
  have P6:Plain H6:=hH6 ▸ P5.lst
  have h6:=(congrFun hH6 l6).symm.trans upd_same
  refine ⟨_,l6,w0::fs.map Fld.text,rfl,rfl,SqL.of h6,?_,q _ _ ⟨fit,rfl⟩ ((s1.trans S5).trans s6) P6⟩
  have n1:(Str.ofString " ").length=1:=rfl
  have wt:∀ gs:List Fld,(∀ f∈gs,f.small)→((gs.map Fld.text).map (·.length)).sum≤gs.length * 1000:=λ gs h=>zkg λ f hf=>Nat.le_trans (zfl (h f hf)) (by cases f <;> first | exact (show 542≤1000 by decide) | exact (show 65≤1000 by decide))
  have:=wt fs hs
  rw [n1,List.map_cons,List.sum_cons,List.length_cons,List.length_map]
  omega
theorem sc_q27:FnScope ["record", "head", "pieces", "asides", "rows"] ["record"] (zha znz):=by walk_at "sc"
theorem zwy (T:Txt w K mg A) (G_q35:zhv P w K mg B A):zis P w K mg B A:=by
 have B_q35:=T.b_q35
 obtain ⟨t_END,g_END⟩:=T.u_END
 refine T.F_q27.okX sc_q27 (λ vs H Q E h=>?_) (λ _ _ _ _ H vs Q E hr h=>?_)
 ·obtain ⟨_,a,⟨x,rfl,_⟩,_⟩:=h
  rfl
 ·obtain ⟨hp,⟨r,H0⟩,⟨x,hv,⟨hd,ho⟩,hH⟩,q,qe⟩:=h
  obtain rfl:vs=[x]:=hv
  dsimp only at hd ho hH q qe
  refine ⟨_,(zca (zmf (pv 0) (zyc rfl (zma (zka (i:=1) sc_q27.nd rfl (Or.inl rfl)) (zma (zka (i:=2) sc_q27.nd rfl (Or.inl rfl)) (zma (zka (i:=3) sc_q27.nd rfl (Or.inl rfl)) zqb)))))
   (zca (zya (i:=4) sc_q27.nd rfl (Or.inl rfl) (zzb (zaa (zga G_q35 (hr.mono (by decide)) rfl T.g_q35 T.k_q35 B_q35 .nil (Wants.passes zia) (zaa (zld zhd (pv 1) zea (λ _ _=>rfl)) (zaa (zxb zqg (pv 1) (zpc zea) zud) zda))) zda)))
   (zca (zmu (i:=4) sc_q27.nd rfl (Or.inl rfl) (zfc _ ["pair"] 1 [] zia ⟨⟨_,_,_,rfl,rfl,rfl⟩⟩ rfl (zjc (pv 2)) gk1 (λ _ _ _ _ _=>zka (i:=0) (show List.Nodup (["pair"]:List Str) by decide +kernel) rfl (Or.inl rfl)) (λ _ _ _ _ _=>zpb) (λ _ _ _ _ _ hW=>(zga G_q35 (hr.mono (by decide)) rfl T.g_q35 T.k_q35 B_q35 .nil (Wants.passes hW) (zaa zla (zaa (pv 0) zda))))) zjq)
   (zca (zmu (i:=4) sc_q27.nd rfl (Or.inl rfl) (zfc _ ["pair"] 1 [] zia ⟨⟨_,_,_,rfl,rfl,rfl⟩⟩ rfl (zjc (pv 3)) gk1 (λ _ _ _ _ _=>zka (i:=0) (show List.Nodup (["pair"]:List Str) by decide +kernel) rfl (Or.inl rfl)) (λ _ _ _ _ _=>zpb) (λ _ _ _ _ _ hW=>(zga G_q35 (hr.mono (by decide)) rfl T.g_q35 T.k_q35 B_q35 .nil (Wants.passes hW) (zaa zla (zaa (pv 0) zda))))) zjq)
   (zfa (zoa (zqa zwd (pv 4) (zzb (zaa (zgb (v := .str "end") rfl g_END ⟨t_END,rfl⟩) zda))))))))),?_⟩
  obtain ⟨hl6,hn4,hsm⟩:=zap ho
  obtain ⟨ks,hks,hpk⟩:=ho.f
  obtain ⟨t,vs,rfl,hqt,xh,r1,rfl,hh,xp,r2,rfl,hpp,xa,r3,rfl,haa,e⟩:=hd
  cases (show r3=[] from e)
  obtain ⟨th,hs,rfl,hqh,y0,ys,rfl,e0,hys⟩:=hh
  have e0:y0 = .str r.w:=e0
  subst e0
  obtain ⟨lp,us,rfl,hlp,hus⟩:=hpp
  obtain ⟨la,ws,rfl,hla,hws⟩:=haa
  have hyl:ys.length≤4:=by rw [hys.length,List.length_map];exact hn4
  refine ⟨_,rfl,t,_,rfl,hqt,rfl,_,_,rfl,_,_,rfl,_,_,rfl,rfl,?_⟩
  refine ⟨_,rfl,th,_,_,.str r.w,rfl,rfl,hqh,at0,_,rfl,_,rfl,th,_,rfl,hqh,λ t4 H4 ht4 s4 p4=>?_⟩
  rw [show cutV (V.str r.w::ys) (some 1) none=ys by rw [zqf (by decide)];rfl] at ht4
  refine ⟨p4 hp,(r.w,r.fs),⟨_,rfl,⟨t4,_,rfl,ht4,DVs.same s4 _ _ hys⟩,by show r.w.length≤20;have:=(zpd ho.h).2.1;omega,hn4,⟨ks,hks,Paired.mono (λ _ _ o=>o.k) hpk⟩,hsm⟩,λ v H5 hv s5 P5=>?_,λ C H5 hC s5 P5=>qe _ _ ⟨hC.1,λ x=>hC.2 x.1⟩ (s4.trans s5) P5⟩
  obtain ⟨hf,rfl⟩:=hv
  refine ⟨sz_1,λ l6 hp6=>?_⟩
  generalize hH6:upd H5 l6 (HO.lst _)=H6
  have s6:Same H5 H6:=hH6 ▸ zba hp6
  have P6:Plain H6:=hH6 ▸ P5.lst
  have h6:=(congrFun hH6 l6).symm.trans upd_same
  have S06:=(s4.trans s5).trans s6
  have f6:H l6=none:=(s4.trans s5).free hp6
  have hH:=hH.symm
  subst hH
  have h6:H6 l6=some (.lst (([rowT r.w r.fs]:List Str).map V.str)):=h6
  refine ⟨_,rfl,_,rfl,lp,rfl,⟨_,S06.seq hlp⟩,λ Dp hDp=>zdb (n:=us.length) (λ i=>us.getD i .non) (λ i y _=>∃ p,r.ps[i]? = some p∧pFit p∧y = .str (rowT "piece" (pFs p))) hDp P6 ?_ (zie (S06.seq hlp)) (λ _ _ _ _ h _ _=>h) ?_ ?_⟩
  ·have:=ho.pn
   exact sm1 ((by rw [hus.length,List.length_map];omega))
  ·intro i Hi R hi Pi Si hR
   rw [hus.length,List.length_map] at hi
   have hpi:r.ps[i]? = some r.ps[i]:=List.getElem?_eq_getElem hi
   have hpm:r.ps[i]∈r.ps:=List.getElem_mem hi
   generalize r.ps[i]=p at hpi hpm
   obtain ⟨y,hy,hdy⟩:=(DVs.same (S06.trans Si) _ _ hus).get (i:=i) (d:=prD p) (by rw [List.getElem?_map,hpi];rfl)
   rw [show us.getD i .non=y by rw [List.getD_eq_getElem?_getD,hy];rfl]
   have hok:=ho.p p hpm
   refine ⟨_,rfl,Pi,("piece",pFs p),⟨_,rfl,hdy,by show 5≤20;decide,by show 2≤4;decide,⟨_,zoh (.inl rfl),.cons rfl (.cons rfl .nil)⟩,zrh hok⟩,λ v Hj hv sj Pj=>?_,λ C Hj hC sj Pj=>qe _ _ ⟨hC.1,λ x=>hC.2 (all2 ((x.2.1) p hpm).1 ((x.2.1) p hpm).2)⟩ (S06.trans (Si.trans sj)) Pj⟩
   exact hR _ _ ⟨p,hpi,⟨hv.1 (.mk p.1) (by simp [pFs]),hv.1 (.vr p.2) (by simp [pFs])⟩,hv.2⟩ sj Pj
  intro vsp H7 hl7 hr7 hd7 S7 P7
  have ep:vsp=r.ps.map λ p=>V.str (rowT "piece" (pFs p)):=zfe (by rw [hl7,hus.length,List.length_map]) λ i y hy=>let ⟨p,a,b,c⟩:=hr7 i y hy; ⟨p,a,c⟩
  have fitP:∀ p∈r.ps,pFit p:=λ p hp=>by
   obtain ⟨i,hi⟩:=List.getElem?_of_mem hp
   obtain ⟨p',a,b,_⟩:=hr7 i (V.str (rowT "piece" (pFs p))) (by rw [ep,List.getElem?_map,hi];rfl)
   rw [hi] at a
   cases a
   exact b
  refine ⟨l6,Dp,_,_,rfl,rfl,S7 _ _ h6,hd7,?_,?_⟩
  ·rw [ep,List.length_map]
   have:=ho.pn
   have:=ho.cn
   exact sm1 ((by simp;omega))
  rw [ep,show ([rowT r.w r.fs]:List Str).map V.str++(r.ps.map λ p=>V.str (rowT "piece" (pFs p)))=([rowT r.w r.fs]++r.ps.map λ p=>rowT "piece" (pFs p)).map V.str by rw [show (r.ps.map λ p=>V.str (rowT "piece" (pFs p)))=(r.ps.map λ p=>rowT "piece" (pFs p)).map V.str by rw [List.map_map];rfl,← List.map_append]]
  have Sp6:Same H (upd H7 l6 (.lst (([rowT r.w r.fs]++r.ps.map λ p=>rowT "piece" (pFs p)).map V.str))):=(S06.trans S7).upd f6
  have Pp6:Plain (upd H7 l6 (.lst (([rowT r.w r.fs]++r.ps.map λ p=>rowT "piece" (pFs p)).map V.str))):=P7.lst
  have hp6_:(upd H7 l6 (.lst (([rowT r.w r.fs]++r.ps.map λ p=>rowT "piece" (pFs p)).map V.str))) l6=some (.lst (([rowT r.w r.fs]++r.ps.map λ p=>rowT "piece" (pFs p)).map V.str)):=upd_same
  generalize upd H7 l6 (.lst (([rowT r.w r.fs]++r.ps.map λ p=>rowT "piece" (pFs p)).map V.str))=Hp6 at Sp6 Pp6 hp6_ ⊢
  clear hd7 hr7 hl7 S7 P7 ep
  refine ⟨_,rfl,_,rfl,la,rfl,⟨_,Sp6.seq hla⟩,λ Dc hDc=>zdb (n:=ws.length) (λ i=>ws.getD i .non) (λ i y _=>∃ p,r.cs[i]? = some p∧pFit p∧y = .str (rowT "clash" (pFs p))) hDc Pp6 ?_ (zie (Sp6.seq hla)) (λ _ _ _ _ h _ _=>h) ?_ ?_⟩
  ·have:=ho.cn
   exact sm1 ((by rw [hws.length,List.length_map];omega))
  ·intro i Hi R hi Pi Si hR
   rw [hws.length,List.length_map] at hi
   have hpi:r.cs[i]? = some r.cs[i]:=List.getElem?_eq_getElem hi
   have hpm:r.cs[i]∈r.cs:=List.getElem_mem hi
   generalize r.cs[i]=p at hpi hpm
   obtain ⟨y,hy,hdy⟩:=(DVs.same (Sp6.trans Si) _ _ hws).get (i:=i) (d:=prD p) (by rw [List.getElem?_map,hpi];rfl)
   rw [show ws.getD i .non=y by rw [List.getD_eq_getElem?_getD,hy];rfl]
   have hok:=ho.c p hpm
   refine ⟨_,rfl,Pi,("clash",pFs p),⟨_,rfl,hdy,by show 5≤20;decide,by show 2≤4;decide,⟨_,zoh (.inr rfl),.cons rfl (.cons rfl .nil)⟩,zrh hok⟩,λ v Hj hv sj Pj=>?_,λ C Hj hC sj Pj=>qe _ _ ⟨hC.1,λ x=>hC.2 (all2 ((x.2.2) p hpm).1 ((x.2.2) p hpm).2)⟩ (Sp6.trans (Si.trans sj)) Pj⟩
   exact hR _ _ ⟨p,hpi,⟨hv.1 (.mk p.1) (by simp [pFs]),hv.1 (.vr p.2) (by simp [pFs])⟩,hv.2⟩ sj Pj
  intro vsc H7 hl7 hr7 hd7 S7 P7
  have ec:vsc=r.cs.map λ p=>V.str (rowT "clash" (pFs p)):=zfe (by rw [hl7,hws.length,List.length_map]) λ i y hy=>let ⟨p,a,b,c⟩:=hr7 i y hy; ⟨p,a,c⟩
  have fitC:∀ p∈r.cs,pFit p:=λ p hp=>by
   obtain ⟨i,hi⟩:=List.getElem?_of_mem hp
   obtain ⟨p',a,b,_⟩:=hr7 i (V.str (rowT "clash" (pFs p))) (by rw [ec,List.getElem?_map,hi];rfl)
   rw [hi] at a
   cases a
   exact b
  refine ⟨l6,Dc,_,_,rfl,rfl,S7 _ _ hp6_,hd7,?_,?_⟩
  ·rw [ec,List.length_map]
   have:=ho.pn
   have:=ho.cn
   exact sm1 ((by simp;omega))
  rw [ec,show (([rowT r.w r.fs]++r.ps.map λ p=>rowT "piece" (pFs p)):List Str).map V.str++(r.cs.map λ p=>V.str (rowT "clash" (pFs p)))=(([rowT r.w r.fs]++r.ps.map λ p=>rowT "piece" (pFs p))++r.cs.map λ p=>rowT "clash" (pFs p)).map V.str by rw [show (r.cs.map λ p=>V.str (rowT "clash" (pFs p)))=(r.cs.map λ p=>rowT "clash" (pFs p)).map V.str by rw [List.map_map];rfl,← List.map_append]]
  have Sc6:Same H (upd H7 l6 (.lst ((([rowT r.w r.fs]++r.ps.map λ p=>rowT "piece" (pFs p))++r.cs.map λ p=>rowT "clash" (pFs p)).map V.str))):=(Sp6.trans S7).upd f6
  have Pc6:Plain (upd H7 l6 (.lst ((([rowT r.w r.fs]++r.ps.map λ p=>rowT "piece" (pFs p))++r.cs.map λ p=>rowT "clash" (pFs p)).map V.str))):=P7.lst
  have hc6:(upd H7 l6 (.lst ((([rowT r.w r.fs]++r.ps.map λ p=>rowT "piece" (pFs p))++r.cs.map λ p=>rowT "clash" (pFs p)).map V.str))) l6=some (.lst ((([rowT r.w r.fs]++r.ps.map λ p=>rowT "piece" (pFs p))++r.cs.map λ p=>rowT "clash" (pFs p)).map V.str)):=upd_same
  generalize upd H7 l6 (.lst ((([rowT r.w r.fs]++r.ps.map λ p=>rowT "piece" (pFs p))++r.cs.map λ p=>rowT "clash" (pFs p)).map V.str))=Hc6 at Sc6 Pc6 hc6 ⊢
  clear hd7 hr7 hl7 S7 P7 ec
  refine ⟨_,rfl,sz_1,λ l9 hp9=>?_⟩
  have h69:(upd Hc6 l9 (.lst [V.str "end"])) l6=some (.lst ((zin r).map V.str)):=(zba hp9) _ _ hc6
  refine ⟨l6,l9,_,_,rfl,rfl,h69,upd_same,?_,λ lz hpz=>?_⟩
  ·rw [List.length_map]
   have:=zkf ho
   unfold zrd at this
   rw [List.length_append] at this
   exact sm1 ((by show (zin r).length+1≤1000;simp at this;omega))
  have Sz:Same H (upd (upd Hc6 l9 (.lst [V.str "end"])) lz (.lst ((zin r).map V.str++[V.str "end"]))):=(Sc6.trans (zba hp9)).trans (zba hpz)
  refine q _ _ ⟨⟨hf,fitP,fitC⟩,lz,rfl,?_,(Sc6.trans (zba hp9)).free hpz⟩ Sz (Pc6.lst).lst
  rw [upd_same]
  unfold zrd
  rw [List.map_append]
  rfl
theorem sc_q18:FnScope ["_law_number_here", "_law_signs", "_law_words_here", "_law_rest", "_law_k"] ["_law_number_here"] (zha zpz):=by walk_at "sc"
theorem zdy (T:Txt w K mg A)  : zyv P w K mg B A:=by
 refine T.F_q18.okN sc_q18 (λ vs H Q E h=>?_) (λ _ _ _ _ H vs Q E hr h=>?_)
 ·obtain ⟨_,a,⟨rfl,_⟩,_⟩:=h
  rfl
 ·obtain ⟨hp,n,rfl,q,_⟩:=h
  refine ⟨_,(zca (zya (i:=1) sc_q18.nd rfl (Or.inl rfl) zla)
   (zca (ztb (zna zax (zqa znb (pv 0) zea) zea (zva _)) (zfa (zoa (zld zcf (zzb (zaa zla (zaa zla (zaa zla (zaa zla (zaa zla (zaa zla (zaa zla (zaa zla zda))))))))) (zqa znb (zqa zra (pv 0) zea) zea) (λ _ _=>rfl)))) zpa)
   (zca (zya (i:=2) sc_q18.nd rfl (Or.inl rfl) zla)
   (zca (zya (i:=3) sc_q18.nd rfl (Or.inl rfl) (zqa zra (pv 0) zea))
   (zca (zcp PassesOwn.never rfl (znf rfl T.n_range (zaa (zqa znb (zqa zra (pv 0) zea) zea) zda)) (zka (i:=4) sc_q18.nd rfl (Or.inl rfl)) (zca (zya (i:=2) sc_q18.nd rfl (Or.inl rfl) (zqa zua (pv 2) (zld zcu (pv 1) (zqa znb (pv 3) zea) (λ _ _=>rfl))))
   (zfa (zya (i:=3) sc_q18.nd rfl (Or.inl rfl) (zqa zfd (zqa zra (pv 3) zea) (zqa zxd (zqa znb (pv 0) zea) zea))))))
   (zfa (zoa (pv 2)))))))),?_⟩
  have al:∀ z∈(["", " ", "-", "a ", " a", "end", "  ", "clash 1.1 4 -"]:List Str),z.length≤13∧∀ c∈z.cps.toList,c∈S94.cps.toList:=by decide +kernel
  refine ⟨_,rfl,_,_,rfl,rfl,ip_5,_,_,rfl,rfl,_,rfl,zwc (λ _=>?_) (λ _=>?_)⟩
  ·refine ⟨sz_8,λ l1 hp1=>?_⟩
   generalize hH1:upd H l1 (HO.lst _)=H1
   have s1:Same H H1:=hH1 ▸ zba hp1
   have P1:Plain H1:=hH1 ▸ hp.lst
   have h1:=(congrFun hH1 l1).symm.trans upd_same
   obtain ⟨z,ha,_,hm⟩:=zlw (zs:=["", " ", "-", "a ", " a", "end", "  ", "clash 1.1 4 -"]) (n:=13) (k:=n / 5 % 8) (m:=8) (zqp (by decide +kernel)) (Int.emod_nonneg _ (by decide)) (Int.emod_lt_of_pos _ (by decide)) (by decide)
   exact ⟨_,rfl,_,_,rfl,rfl,⟨by decide,by decide⟩,_,_,rfl,rfl,ip_8,l1,_,_,_,rfl,rfl,SqL.of h1,ha,q _ _ ⟨z,rfl,(al z hm).1,(al z hm).2⟩ s1 P1⟩
  refine ⟨_,rfl,_,_,rfl,rfl,⟨by decide,by decide⟩,?_⟩
  refine ⟨_,rfl,_,_,rfl,rfl,⟨by decide,by decide⟩,_,_,rfl,rfl,zv2,_,rfl,by omega,by omega,?_⟩
  refine zuf (lo:=0) (n:=(n / 5 % 11).toNat) (λ j σ Hc=>∃ (z:Str) (r:Int) (o:Option V),σ=[some (.int n),some (.str S94),some (.str z),some (.int r),o]∧Hc=H∧z.length≤j∧okS z) ⟨_,_,_,rfl,rfl,Nat.le_refl _,λ c hc=>absurd (show c∈([]:List Nat) from hc) (by simp)⟩ ?_ ?_
  ·rintro j σ Hc hj ⟨z,r,o,rfl,rfl,hz,hs⟩
   have hj:j<13:=by omega
   obtain ⟨c,hc,hm⟩:=zhq (xs:=S94.cps.toList) (i:=r % 94) (Int.emod_nonneg _ (by decide)) (by rw [zku];exact Int.emod_lt_of_pos _ (by decide))
   refine ⟨_,rfl,_,rfl,_,rfl,_,_,rfl,rfl,zc4,_,_,c,rfl,rfl,by decide +kernel,hc,_,_,rfl,rfl,sm1 ((by show z.length+1≤1000;omega)),?_⟩
   refine ⟨_,rfl,_,_,rfl,rfl,⟨by decide,by decide⟩,_,rfl,_,_,rfl,rfl,zhw,_,_,rfl,rfl,Or.inr ⟨by decide,by decide⟩,_,_,rfl,rfl,?_⟩
   refine ⟨_,_,_,rfl,rfl,?_,?_⟩
   ·rw [zja]
    show z.length+1≤j+1
    omega
   ·intro d hd
    rw [zwa] at hd
    rcases List.mem_append.mp hd with h | h
    ·exact hs d h
    ·rw [List.mem_singleton.mp (show d∈[c] from h)]
     exact hm
  ·rintro σ Hc ⟨z,r,o,rfl,rfl,hz,hs⟩
   exact ⟨_,rfl,q _ _ ⟨z,rfl,by omega,hs⟩ (Same.refl _) hp⟩
theorem zr3:FnScope ["_law_number_here", "_law_least"] ["_law_number_here", "_law_least"] (zha s_q8):=by walk_at "sc"
theorem zl3 (T:Txt w K mg A)  : zwu P w K mg B A:=by
 refine FnOk.pure (T.F_q8.okN zr3 (λ vs H Q E h=>?_) (λ _ _ _ _ H vs Q E hr h=>?_))
 ·obtain ⟨_,a,⟨rfl,_⟩,_⟩:=h
  rfl
 ·obtain ⟨hp,⟨n,k⟩,⟨hv,h0,h1⟩,q⟩:=h
  obtain rfl:vs=[.int n,.int k]:=hv
  dsimp only at h0 h1 q
  refine ⟨_,(zca (ztb (zna zvd (zqa znb (pv 0) zea) zea (zva _)) (zfa (zoa (zqa zfd (pv 1) (zqa znb (zqa zra (pv 0) zea) (zqa zgs (zqa zxu zea zea) (pv 1)))))) zpa)
   (zfa (zoa (zqa zfd (pv 1) (zqa znb (zqa zra (pv 0) zea) zea))))),?_⟩
  have e30:(10:Int) ^ Int.toNat 30=10 ^ 30:=rfl
  refine ⟨_,rfl,_,_,rfl,rfl,ip_4,rfl,_,rfl,zwc (λ _=>?_) (λ _=>?_)⟩
  ·refine ⟨_,rfl,_,rfl,_,_,rfl,rfl,⟨by decide,by decide⟩,_,_,rfl,rfl,⟨by decide,by decide,by decide⟩,_,rfl,_,_,rfl,rfl,_,_,rfl,rfl,(by show (0:Int)<10 ^ Int.toNat 30 - k;rw [e30];omega),_,_,rfl,rfl,q _ _ ⟨_,rfl,?_,?_⟩ (Same.refl _)⟩
   ·have:=Int.emod_nonneg (n / 4) (show (10:Int) ^ Int.toNat 30 - k≠0 by rw [e30];omega)
    omega
   ·have a:=Int.emod_nonneg (n / 4) (show (10:Int) ^ Int.toNat 30 - k≠0 by rw [e30];omega)
    have b:=Int.emod_lt_of_pos (n / 4) (show (0:Int)<10 ^ Int.toNat 30 - k by rw [e30];omega)
    unfold B30
    rw [e30] at a b ⊢
    omega
  refine ⟨_,rfl,_,rfl,_,_,rfl,rfl,⟨by decide,by decide⟩,_,_,rfl,rfl,zs1,_,_,rfl,rfl,q _ _ ⟨_,rfl,?_,?_⟩ (Same.refl _)⟩
  ·omega
  ·unfold B30
   omega
theorem sc_q17:FnScope ["_law_number_here", "_law_steps_here", "_law_rest", "_law_k", "_law_rank"] ["_law_number_here"] (zha zwz):=by walk_at "sc"
theorem zj1 (T:Txt w K mg A) (G_q8:zwu P w K mg B A):zzt P w K mg B A:=by
 have B_q8:=T.b_q8
 refine T.F_q17.okN sc_q17 (λ vs H Q E h=>?_) (λ _ _ _ _ H vs Q E hr h=>?_)
 ·obtain ⟨_,a,⟨rfl,_⟩,_⟩:=h
  rfl
 ·obtain ⟨hp,n,rfl,q,_⟩:=h
  refine ⟨_,(zca (zya (i:=1) sc_q17.nd rfl (Or.inl rfl) (zzb zda))
   (zca (zya (i:=2) sc_q17.nd rfl (Or.inl rfl) (zqa zra (pv 0) zea))
   (zca (zcp PassesOwn.never rfl (znf rfl T.n_range (zaa (zqa zfd zea (zqa znb (pv 0) zea)) zda)) (zka (i:=3) sc_q17.nd rfl (Or.inl rfl)) (zca (zya (i:=4) sc_q17.nd rfl (Or.inl rfl) (zqa zxd (zga G_q8 (hr.mono (by decide)) rfl T.g_q8 T.k_q8 B_q8 .nil zac (zaa (pv 2) (zaa zea zda))) (zqa zgs zea (zqa zxd (zqa znb (zqa zra (pv 2) zea) zea) zea))))
   (zca (zid (zxi PySem.F.plainAttrs_list PySem.F.slot_list_append PySem.F.type_list_append zzd (pv 1) (zaa (zsa (zaa (pv 4) (zaa (zga G_q8 (hr.mono (by decide)) rfl T.g_q8 T.k_q8 B_q8 .nil zac (zaa (zqa zra (pv 2) zea) (zaa zea zda))) (zaa (zga G_q8 (hr.mono (by decide)) rfl T.g_q8 T.k_q8 B_q8 .nil zac (zaa (zqa zra (pv 2) zea) (zaa zea zda))) zda)))) zda)))
   (zfa (zya (i:=2) sc_q17.nd rfl (Or.inl rfl) (zqa zfd (zqa zra (pv 2) zea) (zqa znb (pv 0) zea)))))))
   (zfa (zoa (zza zkc rfl T.n_tuple (by decide +kernel) (zaa (pv 1) zda))))))),?_⟩
  refine ⟨sz_0,λ l1 hp1=>?_⟩
  have hpl:=hp1
  generalize hH1:upd H l1 (HO.lst _)=H1
  have s1:Same H H1:=hH1 ▸ zba hp1
  have P1:Plain H1:=hH1 ▸ hp.lst
  have h1:=(congrFun hH1 l1).symm.trans upd_same
  refine ⟨_,rfl,_,_,rfl,rfl,⟨by decide,by decide⟩,?_⟩
  refine ⟨_,rfl,_,_,rfl,rfl,ip_5,_,_,rfl,rfl,_,rfl,by omega,by omega,?_⟩
  refine zuf (lo:=0) (n:=(1+n % 5).toNat) (λ j σ Hc=>∃ (rest:Int) (o3 o4:Option V) (ss:List Stp) (vs:List V),σ=[some (.int n),some (.ref l1),some (.int rest),o3,o4]∧Plain Hc∧Same H Hc∧Hc l1=some (.lst vs)∧DVs K Hc (ss.map stp) vs∧ss.length=j∧∀ s∈ss,zik s∧S30 s) ⟨_,_,_,[],[],rfl,P1,s1,h1,rfl,rfl,λ _ h=>(nomatch h)⟩ ?_ ?_
  ·rintro j σ Hc hj ⟨rest,o3,o4,ss,vs,rfl,Pc,Sc,hl,hvs,hsl,hss⟩
   have hj5:j<5:=by omega
   refine ⟨_,rfl,Pc,(_,0),⟨rfl,by show (0:Int)≤0;decide,by show (0:Int)≤1;decide⟩,λ v hv=>?_⟩
   obtain ⟨a,rfl,a0,ab⟩:=hv
   dsimp only at a0
   refine ⟨_,rfl,_,_,rfl,rfl,⟨by decide,by decide⟩,_,_,rfl,rfl,ip_2,_,_,rfl,rfl,Or.inr ⟨by decide,by decide⟩,_,_,rfl,rfl,_,_,rfl,rfl,Or.inr ⟨by show -(2 ^ 64)<1 - rest / 3 % 2 * 2;omega,by show 1 - rest / 3 % 2 * 2<2 ^ 64;omega⟩,?_⟩
   have rb:B30 (a * (1 - rest / 3 % 2 * 2)):=by
    have h01:rest / 3 % 2=0 ∨ rest / 3 % 2=1:=by omega
    unfold B30 at *
    rcases h01 with e | e <;> rw [e] <;> omega
   refine ⟨_,rfl,.inl ⟨rfl,_,SqL.of hl⟩,_,rfl,?_⟩
   refine ⟨_,rfl,_,_,rfl,rfl,⟨by decide,by decide⟩,Pc,(_,0),⟨rfl,by show (0:Int)≤0;decide,by show (0:Int)≤1;decide⟩,λ v hv=>?_⟩
   obtain ⟨c,rfl,c0,cb⟩:=hv
   dsimp only at c0
   refine ⟨_,rfl,_,_,rfl,rfl,⟨by decide,by decide⟩,Pc,(_,1),⟨rfl,by show (0:Int)≤1;decide,by show (1:Int)≤1;decide⟩,λ v hv=>?_⟩
   obtain ⟨d,rfl,d0,db⟩:=hv
   dsimp only at d0
   refine ⟨sz_3,λ t2 hp2=>?_⟩
   have hvl:vs.length=j:=by rw [hvs.length,List.length_map,hsl]
   refine ⟨l1,vs,_,rfl,rfl,(zba hp2) _ _ hl,zyd (by omega),?_⟩
   refine ⟨_,rfl,_,_,rfl,rfl,⟨by decide,by decide⟩,_,rfl,_,_,rfl,rfl,ztv,_,_,rfl,rfl,?_⟩
   have ne:t2≠l1:=λ e=>by subst e;rw [hl] at hp2;cases hp2
   refine ⟨_,_,_,ss++[(a * (1 - rest / 3 % 2 * 2),c,d)],_,rfl,(Pc.tup).lst,(Sc.trans (zba hp2)).upd hpl,upd_same,?_,by rw [List.length_append,hsl];rfl,λ s hs=>?_⟩
   ·rw [List.map_append]
    refine DVs.append (zag ((zba hp2) _ _ hl) (zbj _) _ _ (znh λ d hd=>?_) (DVs.same (zba hp2) _ _ hvs)) ⟨.ref t2,[],rfl,⟨t2,_,rfl,SqT.of ((zta ne).trans upd_same),_,_,rfl,rfl,_,_,rfl,rfl,_,_,rfl,rfl,rfl⟩,rfl⟩
    obtain ⟨s,_,rfl⟩:=List.mem_map.mp hd
    rfl
   ·rcases List.mem_append.mp hs with h | h
    ·exact hss s h
    ·rw [List.mem_singleton.mp h]
     exact ⟨⟨c0,d0⟩,rb,cb,db⟩
  ·rintro σ Hc ⟨rest,o3,o4,ss,vs,rfl,Pc,Sc,hl,hvs,hsl,hss⟩
   refine ⟨_,rfl,l1,_,rfl,.inl ⟨SqL.of hl,λ t3 hp3=>?_⟩⟩
   exact q _ _ ⟨ss,⟨t3,vs,rfl,SqT.of upd_same,DVs.same (zba hp3) _ _ hvs⟩,λ e=>by rw [e] at hsl;have hsl:0=(1+n % 5).toNat:=hsl;omega,by omega,hss⟩ (Sc.trans (zba hp3)) Pc.tup
theorem sc_q3:FnScope ["_law_number_here", "_law_beat"] ["_law_number_here"] (zha s_q3):=by walk_at "sc"
theorem zc3 (T:Txt w K mg A) (G_q18:zyv P w K mg B A) (G_q8:zwu P w K mg B A) (G_q17:zzt P w K mg B A):zi2 P w K mg B A:=by
 have B_q18:=T.b_q18
 have B_q8:=T.b_q8
 have B_q17:=T.b_q17
 refine T.F_q3.okN sc_q3 (λ vs H Q E h=>?_) (λ _ _ _ _ H vs Q E hr h=>?_)
 ·obtain ⟨_,a,⟨rfl,_⟩,_⟩:=h
  rfl
 ·obtain ⟨hp,n,rfl,q,_⟩:=h
  refine ⟨_,(zca (zya (i:=1) sc_q3.nd rfl (Or.inl rfl) (zga G_q8 (hr.mono (by decide)) rfl T.g_q8 T.k_q8 B_q8 .nil zac (zaa (zqa zra (pv 0) zea) (zaa zea zda))))
   (zca (ztb (zna zvd (zqa znb (pv 0) zea) zea (zva _)) (zfa (zoa (zsa (zaa (pv 1) (zaa (zsa zda) (zaa zla zda)))))) zpa)
   (zfa (zoa (zsa (zaa (pv 1) (zaa (zga G_q17 (hr.mono (by decide)) rfl T.g_q17 T.k_q17 B_q17 .nil zac (zaa (zqa zra (pv 0) zea) zda)) (zaa (zga G_q18 (hr.mono (by decide)) rfl T.g_q18 T.k_q18 B_q18 .nil zac (zaa (zqa zra (pv 0) zea) zda)) zda)))))))),?_⟩
  refine ⟨_,rfl,_,_,rfl,rfl,⟨by decide,by decide⟩,hp,(_,1),⟨rfl,by show (0:Int)≤1;decide,by show (1:Int)≤1;decide⟩,λ v hv=>?_⟩
  obtain ⟨b,rfl,b0,bb⟩:=hv
  dsimp only at b0
  refine ⟨_,rfl,_,_,rfl,rfl,ip_3,rfl,_,rfl,zwc (λ _=>?_) (λ _=>?_)⟩
  ·refine ⟨_,rfl,sz_0,λ t1 hp1=>?_⟩
   generalize hH1:upd H t1 (HO.tup _)=H1
   have s1:Same H H1:=hH1 ▸ zba hp1
   have P1:Plain H1:=hH1 ▸ hp.tup
   have h1:=(congrFun hH1 t1).symm.trans upd_same
   refine ⟨sz_3,λ t2 hp2=>?_⟩
   generalize hH2:upd H1 t2 (HO.tup _)=H2
   have s2:Same H1 H2:=hH2 ▸ zba hp2
   have P2:Plain H2:=hH2 ▸ P1.tup
   have h2:=(congrFun hH2 t2).symm.trans upd_same
   exact q _ _ ⟨(b,[], ""),zzn (v:=(b,[], "")) (SqT.of h2) (DV.same s2 _ _ (zvf h1)),⟨b0,λ _ h=>(nomatch h),(show zyb (Str.ofString "")=true by decide +kernel),λ _=>rfl⟩,⟨zjd bb,by show 0≤5;decide,λ _ h=>(nomatch h),by show 0≤13;decide⟩,zec _,bb,λ _ h=>(nomatch h)⟩ (s1.trans s2) P2
  refine ⟨_,rfl,_,rfl,_,_,rfl,rfl,⟨by decide,by decide⟩,hp,_,rfl,λ v H1 hv s1 P1=>?_,λ _ _ h=>h.elim⟩
  obtain ⟨ss,hd,hne,hl,hss⟩:=hv
  refine ⟨_,rfl,_,_,rfl,rfl,⟨by decide,by decide⟩,P1,_,rfl,λ v2 H2 hv s2 P2=>?_,λ _ _ h=>h.elim⟩
  obtain ⟨z,rfl,hz,hzs⟩:=hv
  refine ⟨sz_3,λ t3 hp3=>?_⟩
  generalize hH3:upd H2 t3 (HO.tup _)=H3
  have s3:Same H2 H3:=hH3 ▸ zba hp3
  have P3:Plain H3:=hH3 ▸ P2.tup
  have h3:=(congrFun hH3 t3).symm.trans upd_same
  exact q _ _ ⟨(b,ss,z),zzn (v:=(b,ss,z)) (SqT.of h3) (DV.same (s2.trans s3) _ _ hd),⟨b0,λ s h=>(hss s h).1,(zii hzs).1,λ e=>absurd e hne⟩,⟨zjd bb,hl,λ s h=>zmy (hss s h).2,hz⟩,(zii hzs).2,bb,λ s h=>(hss s h).2⟩ ((s1.trans s2).trans s3) P3
theorem sc_q23:FnScope ["_law_number_here", "_law_many", "_law_found", "_law_k", "_law_rest"] ["_law_number_here", "_law_many"] (zha zky):=by walk_at "sc"
theorem zrx (T:Txt w K mg A) (G_q8:zwu P w K mg B A) (G_q3:zi2 P w K mg B A):zbu P w K mg B A:=by
 have B_q8:=T.b_q8
 have B_q3:=T.b_q3
 refine T.F_q23.okN sc_q23 (λ vs H Q E h=>?_) (λ _ _ _ _ H vs Q E hr h=>?_)
 ·obtain ⟨_,a,⟨rfl,_⟩,_⟩:=h
  rfl
 ·obtain ⟨hp,⟨n,m⟩,⟨hv,m0,m4⟩,q,_⟩:=h
  obtain rfl:vs=[.int n,.int m]:=hv
  dsimp only at m0 m4
  refine ⟨_,(zca (zya (i:=2) sc_q23.nd rfl (Or.inr rfl) (toE zuv (show _=zn2 P w from rfl)))
   (zca (zcp PassesOwn.never rfl (znf rfl T.n_range (zaa (pv 1) zda)) (zka (i:=3) sc_q23.nd rfl (Or.inl rfl)) (zca (zya (i:=4) sc_q23.nd rfl (Or.inl rfl) (zqa zfd (zqa zra (pv 0) (zqa zfd (pv 3) zea)) (zqa zxd zea (pv 3))))
   (zfa (toS (zeu (zf2 hr) (pv 2) (zsa (zaa (zga G_q8 (hr.mono (by decide)) rfl T.g_q8 T.k_q8 B_q8 .nil zac (zaa (zqa zra (pv 4) zea) (zaa zea zda))) (zaa (zga G_q8 (hr.mono (by decide)) rfl T.g_q8 T.k_q8 B_q8 .nil zac (zaa (zqa zra (pv 4) zea) (zaa zea zda))) zda))) (zga G_q3 (hr.mono (by decide)) rfl T.g_q3 T.k_q3 B_q3 .nil zac (zaa (zqa zra (pv 4) zea) zda)) rfl) (show _=za2 P w K _ _ _ from rfl)))))
   (zfa (zoa (zde ["_law_mark", "_law_found"] 1 [2] rfl (zjc (zmb (zzh rfl hr.u100) rfl T.n_sorted (by decide +kernel) (zaa (pv 2) zda))) gk1 (λ _ _ _ _ _=>zka (i:=0) (show List.Nodup (["_law_mark", "_law_found"]:List Str) by decide +kernel) rfl (Or.inl rfl)) (λ _ _ _ _ _=>zpb) (λ _ _ _ _ _=>(zsa (zaa (pv 0) (zaa (zld (zq4 (P:=P) (w:=w) (K:=K) rfl rfl rfl (zf2 hr)) (pv 1) (pv 0) (λ _ _=>rfl)) zda))))))))),?_⟩
  refine λ d o0 hd0=>?_
  have s1:=zba (o:=dO P w d [] o0) hd0
  have P1:Plain (upd H d (dO P w d [] o0)):=hp.upd trivial
  have h1:(upd H d (dO P w d [] o0)) d=some (dO P w d [] o0):=upd_same
  generalize upd H d (dO P w d [] o0)=H1 at s1 P1 h1 ⊢
  refine ⟨_,rfl,_,rfl,by omega,by omega,?_⟩
  refine zuf (lo:=0) (n:=m.toNat) (λ j σ Hc=>∃ (o3 o4:Option V) (es:List Ent) (ob:Obj),σ=[some (.int n),some (.int m),some (.ref d),o3,o4]∧Plain Hc∧Same H Hc∧Hc d=some (dO P w d es ob)∧(es.map (·.1)).Nodup∧es.length≤j∧∀ e∈es,SqT K Hc e.2.1 (mkV e.1)∧∃ u,DV K Hc (ver u) e.2.2∧POk (e.1,u)∧pFit (e.1,u)) ⟨_,_,[],o0,rfl,P1,s1,h1,List.nodup_nil,Nat.le_refl _,λ _ h=>(nomatch h)⟩ ?_ ?_
  ·rintro j σ Hc hj ⟨o3,o4,es,ob,rfl,Pc,Sc,hd,nd,hl,hes⟩
   have hj4:j<4:=by omega
   refine ⟨_,rfl,_,rfl,_,_,rfl,rfl,_,_,rfl,rfl,⟨by show (0:Int)<0+j+1;omega,by show (0:Int)+j+1<1073741824;omega⟩,_,rfl,_,_,rfl,rfl,Or.inl ⟨by decide,by decide⟩,_,_,rfl,rfl,?_⟩
   generalize n / ((0:Int)+j+1)+31 * ((0:Int)+j)=rest
   refine ⟨_,rfl,_,_,rfl,rfl,⟨by decide,by decide⟩,Pc,_,rfl,λ v H2 hv s2 P2=>?_,λ _ _ h=>h.elim⟩
   obtain ⟨u,hdu,ug,us,uo,uf⟩:=hv
   refine ⟨_,rfl,?_⟩
   refine ⟨_,rfl,_,_,rfl,rfl,⟨by decide,by decide⟩,P2,(_,0),⟨rfl,by show (0:Int)≤0;decide,by show (0:Int)≤1;decide⟩,λ v hv=>?_⟩
   obtain ⟨a,rfl,a0,ab⟩:=hv
   dsimp only at a0
   refine ⟨_,rfl,_,_,rfl,rfl,⟨by decide,by decide⟩,P2,(_,1),⟨rfl,by show (0:Int)≤1;decide,by show (1:Int)≤1;decide⟩,λ v hv=>?_⟩
   obtain ⟨c,rfl,c0,cb⟩:=hv
   dsimp only at c0
   refine ⟨sz_2,λ t3 hp3=>?_⟩
   generalize hH3:upd H2 t3 (HO.tup _)=H3
   have s3:Same H2 H3:=hH3 ▸ zba hp3
   have P3:Plain H3:=hH3 ▸ P2.tup
   have h3:=(congrFun hH3 t3).symm.trans upd_same
   have hd3:=(s2.trans s3) _ _ hd
   have S3:=s2.trans s3
   have mk3:SqT K H3 t3 (mkV (a,c)):=SqT.of h3
   refine ⟨d,es,t3,(a,c),rfl,⟨⟨ob,hd3⟩,λ e he=>S3.seqT (hes e he).1⟩,rfl,mk3,zyd (by omega),λ o4=>?_⟩
   have pl:POk ((a,c),u):=⟨⟨a0,c0⟩,⟨zjd ab,zjd cb⟩,ug,us,uo⟩
   have pf:pFit ((a,c),u):=⟨⟨ab,cb⟩,uf⟩
   have nt:zys (dO P w d es ob):=ziw _
   refine ⟨_,_,putM es (a,c) t3 v,o4,rfl,P3.upd trivial,(Sc.trans S3).upd hd0,upd_same,zi0 nd,by have:=zsl es (a,c) t3 v;omega,λ e he=>?_⟩
   refine ⟨zed hd3 nt (zuu (λ e he=>S3.seqT (hes e he).1) mk3 e he),?_⟩
   rcases zmt he with h | ⟨e1,e2⟩
   ·obtain ⟨x,g1,g2,g3⟩:=(hes e h).2
    exact ⟨x,zdi hd3 nt _ _ (zli x) (DV.same S3 _ _ g1),g2,g3⟩
   ·rw [e1,e2]
    exact ⟨u,zdi hd3 nt _ _ (zli u) (DV.same s3 _ _ hdu),pl,pf⟩
  rintro σ Hc ⟨o3,o4,es,ob,rfl,Pc,Sc,hd,nd,hl,hes⟩
  refine ⟨_,rfl,d,es,ob,rfl,hd,λ e he=>(hes e he).1,nd,by omega,λ l2 bs ws hp2 hperm _ hws=>?_⟩
  have s2:=zba (o := .lst ws) hp2
  have P2:Plain (upd Hc l2 (.lst ws)):=Pc.lst
  have h2:(upd Hc l2 (.lst ws)) l2=some (.lst ws):=upd_same
  generalize upd Hc l2 (.lst ws)=H2 at s2 P2 h2 ⊢
  have hws2:=DVs.same s2 _ _ hws
  have hwl:ws.length=bs.length:=by rw [hws.length,List.length_map]
  have hbl:bs.length=es.length:=by rw [hperm.length_eq,List.length_map]
  have hd2:=s2 _ _ hd
  refine ⟨l2,rfl,⟨_,SqL.of h2⟩,λ D hD=>zdb (n:=ws.length) (λ i=>ws.getD i .non) (λ i y H=>∃ p:Pr,(POk p∧pFit p)∧DV K H (prD p) y) hD P2 ?_ (zie (SqL.of h2)) (λ i y Ha Hb h k hz=>let ⟨p,g1,g2⟩:=h; ⟨p,g1,DV.mono k hz _ _ (zyx p) g2⟩) ?_ ?_⟩
  ·exact sm1 ((by omega))
  ·intro i H5 R hi P5 S5 hR
   have hi':i<bs.length:=by omega
   have hb:bs[i]? = some bs[i]:=List.getElem?_eq_getElem hi'
   have hbm:bs[i]∈bs:=List.getElem_mem hi'
   generalize bs[i]=mk at hb hbm
   obtain ⟨y,hy,hdy⟩:=(DVs.same S5 _ _ hws2).get (i:=i) (d:=L2.markD mk) (by rw [List.getElem?_map,hb];rfl)
   rw [show ws.getD i .non=y by rw [List.getD_eq_getElem?_getD,hy];rfl]
   obtain ⟨t,rfl,ht⟩:=zqj hdy
   obtain ⟨e,he,e1,e2⟩:=zxl (es:=es) (hperm.subset hbm)
   obtain ⟨u,g1,g2,g3⟩:=(hes e he).2
   have S25:=s2.trans S5
   refine ⟨_,rfl,_,rfl,_,rfl,d,es,t,mk,e.2.2,rfl,⟨⟨ob,S5 _ _ hd2⟩,λ e he=>S25.seqT (hes e he).1⟩,rfl,ht,e2,sz_2,λ t6 hp6=>?_⟩
   rw [e1] at g2 g3
   exact hR _ _ ⟨(mk,u),⟨g2,g3⟩,⟨t6,_,rfl,SqT.of upd_same,_,_,rfl,DV.same (zba hp6) (L2.markD mk) _ hdy,_,_,rfl,DV.same (S25.trans (zba hp6)) _ _ g1,rfl⟩⟩ (zba hp6) P5.tup
  intro ys H7 hl7 hr7 hd7 S7 P7
  obtain ⟨ps,q1,q2,q3⟩:=zzg hr7
  exact q _ _ ⟨ps,⟨D,ys,rfl,hd7,q3⟩,q2,by omega⟩ ((Sc.trans s2).trans S7) P7
theorem sc_q28:FnScope ["_law_number_here", "_law_beat"] ["_law_number_here"] (zha zlx):=by walk_at "sc"
theorem zt1 (T:Txt w K mg A) (G_q8:zwu P w K mg B A):zvt P w K mg B A:=by
 have B_q8:=T.b_q8
 refine T.F_q28.okN sc_q28 (λ vs H Q E h=>?_) (λ _ _ _ _ H vs Q E hr h=>?_)
 ·obtain ⟨_,a,⟨rfl,_⟩,_⟩:=h
  rfl
 ·obtain ⟨hp,n,rfl,q,_⟩:=h
  refine ⟨_,(zca (zya (i:=1) sc_q28.nd rfl (Or.inl rfl) (zga G_q8 (hr.mono (by decide)) rfl T.g_q8 T.k_q8 B_q8 .nil zac (zaa (zqa zra (pv 0) zea) (zaa zea zda))))
   (zca (ztb (zna zvd (zqa znb (pv 0) zea) zea (zva _)) (zfa (zoa (zsa (zaa zla (zaa (pv 1) (zaa (zga G_q8 (hr.mono (by decide)) rfl T.g_q8 T.k_q8 B_q8 .nil zac (zaa (zqa zra (pv 0) zea) (zaa zea zda))) (zaa (zga G_q8 (hr.mono (by decide)) rfl T.g_q8 T.k_q8 B_q8 .nil zac (zaa (zqa zra (pv 0) zea) (zaa zea zda))) zda))))))) zpa)
   (zca (ztb (zna zvd (zqa znb (pv 0) zea) zea (zva _)) (zfa (zoa (zsa (zaa zla (zaa (pv 1) (zaa (zga G_q8 (hr.mono (by decide)) rfl T.g_q8 T.k_q8 B_q8 .nil zac (zaa (zqa zra (pv 0) zea) (zaa zea zda))) zda)))))) zpa)
   (zfa (zoa (zsa (zaa zla (zaa (pv 1) (zaa (zga G_q8 (hr.mono (by decide)) rfl T.g_q8 T.k_q8 B_q8 .nil zac (zaa (zqa zra (pv 0) zea) (zaa zea zda))) (zaa (zld zcf (zzb (zaa zla (zaa zla (zaa zla zda)))) (zqa znb (zqa zra (pv 0) zea) zea) (λ _ _=>rfl)) zda)))))))))),?_⟩
  refine ⟨_,rfl,_,_,rfl,rfl,⟨by decide,by decide⟩,hp,(_,1),⟨rfl,by show (0:Int)≤1;decide,by show (1:Int)≤1;decide⟩,λ v hv=>?_⟩
  obtain ⟨b,rfl,b0,bb⟩:=hv
  dsimp only at b0
  refine ⟨_,rfl,_,_,rfl,rfl,ip_3,rfl,_,rfl,zwc (λ _=>?_) (λ _=>?_)⟩
  ·refine ⟨_,rfl,?_⟩
   refine ⟨_,rfl,_,_,rfl,rfl,⟨by decide,by decide⟩,hp,(_,1),⟨rfl,by show (0:Int)≤1;decide,by show (1:Int)≤1;decide⟩,λ v hv=>?_⟩
   obtain ⟨c,rfl,c0,cb⟩:=hv
   dsimp only at c0
   refine ⟨_,rfl,_,_,rfl,rfl,⟨by decide,by decide⟩,hp,(_,0),⟨rfl,by show (0:Int)≤0;decide,by show (0:Int)≤1;decide⟩,λ v hv=>?_⟩
   obtain ⟨d,rfl,d0,db⟩:=hv
   dsimp only at d0
   refine ⟨sz_4,λ t1 hp1=>?_⟩
   generalize hH1:upd H t1 (HO.tup _)=H1
   have s1:Same H H1:=hH1 ▸ zba hp1
   have P1:Plain H1:=hH1 ▸ hp.tup
   have h1:=(congrFun hH1 t1).symm.trans upd_same
   exact q _ _ ⟨"save",[.nm b,.nm c,.nm d],⟨t1,_,rfl,SqT.of h1,_,_,rfl,rfl,_,_,rfl,rfl,_,_,rfl,rfl,_,_,rfl,rfl,rfl⟩,⟨by decide,⟨[Str.ofString "beat",Str.ofString "window",Str.ofString "count"],(by decide +kernel),.cons (zsj b0 (zjd bb)) (.cons (fwn c0 (zjd cb)) (.cons (fct d0 (zjd db)) .nil))⟩,all2 trivial trivial⟩,all3 bb cb db⟩ s1 P1
  refine ⟨_,rfl,_,_,rfl,rfl,ip_3,rfl,_,rfl,zwc (λ _=>?_) (λ _=>?_)⟩
  ·refine ⟨_,rfl,?_⟩
   refine ⟨_,rfl,_,_,rfl,rfl,⟨by decide,by decide⟩,hp,(_,0),⟨rfl,by show (0:Int)≤0;decide,by show (0:Int)≤1;decide⟩,λ v hv=>?_⟩
   obtain ⟨c,rfl,c0,cb⟩:=hv
   dsimp only at c0
   refine ⟨sz_3,λ t1 hp1=>?_⟩
   generalize hH1:upd H t1 (HO.tup _)=H1
   have s1:Same H H1:=hH1 ▸ zba hp1
   have P1:Plain H1:=hH1 ▸ hp.tup
   have h1:=(congrFun hH1 t1).symm.trans upd_same
   exact q _ _ ⟨"back",[.nm b,.nm c],⟨t1,_,rfl,SqT.of h1,_,_,rfl,rfl,_,_,rfl,rfl,_,_,rfl,rfl,rfl⟩,⟨by decide,⟨[Str.ofString "beat",Str.ofString "save"],(by decide +kernel),.cons (zsj b0 (zjd bb)) (.cons (fsv c0 (zjd cb)) .nil)⟩,all1 trivial⟩,all2 bb cb⟩ s1 P1
  refine ⟨_,rfl,?_⟩
  refine ⟨_,rfl,_,_,rfl,rfl,⟨by decide,by decide⟩,hp,(_,1),⟨rfl,by show (0:Int)≤1;decide,by show (1:Int)≤1;decide⟩,λ v hv=>?_⟩
  obtain ⟨c,rfl,c0,cb⟩:=hv
  dsimp only at c0
  refine ⟨sz_3,λ l1 hp1=>?_⟩
  generalize hHx:upd H l1 (HO.lst _)=Hx
  have sx:Same H Hx:=hHx ▸ zba hp1
  have Px:Plain Hx:=hHx ▸ hp.lst
  have hx:=(congrFun hHx l1).symm.trans upd_same
  obtain ⟨z,ha,_,hm⟩:=zlw (zs:=["stay", "turn", "both"]) (n:=13) (k:=n / 9 % 3) (m:=3) (zqp (by decide +kernel)) (Int.emod_nonneg _ (by decide)) (Int.emod_lt_of_pos _ (by decide)) (by decide)
  refine ⟨_,rfl,_,_,rfl,rfl,⟨by decide,by decide⟩,_,_,rfl,rfl,ip_3,l1,_,_,_,rfl,rfl,SqL.of hx,ha,sz_4,λ t2 hp2=>?_⟩
  generalize hH2:upd Hx t2 (HO.tup _)=H2
  have s2:Same Hx H2:=hH2 ▸ zba hp2
  have P2:Plain H2:=hH2 ▸ Px.tup
  have h2:=(congrFun hH2 t2).symm.trans upd_same
  exact q _ _ ⟨"settle",[.nm b,.nm c,.tx z],⟨t2,_,rfl,SqT.of h2,_,_,rfl,rfl,_,_,rfl,rfl,_,_,rfl,rfl,_,_,rfl,rfl,rfl⟩,⟨by decide,⟨[Str.ofString "beat",Str.ofString "clash",Str.ofString "choice"],(by decide +kernel),.cons (zsj b0 (zjd bb)) (.cons (fcl c0 (zjd cb)) (.cons (fch hm) .nil))⟩,all2 trivial trivial⟩,all3 bb cb trivial⟩ (sx.trans s2) P2
theorem zx1:FnScope ["_law_place_here"] ["_law_place_here"] (zha zuz):=by walk_at "sc"
theorem zfy (T:Txt w K mg A)  : zzv P w K mg B A:=by
 refine T.F_q14.okN zx1 (λ vs H Q E h=>?_) (λ _ _ _ _ H vs Q E hr h=>?_)
 ·obtain ⟨_,a,⟨x,rfl,_⟩,_⟩:=h
  rfl
 ·obtain ⟨hp,ss,⟨x,hv,hd,hl,hs⟩,q,_⟩:=h
  obtain rfl:vs=[x]:=hv
  refine ⟨_,(zfa (zoa (zxi PySem.F.plainAttrs_str PySem.F.slot_str_join PySem.F.type_str_join zbg zla (zaa (zde ["_law_step"] 1 [] rfl (zem (pv 0)) gk1 (λ _ _ _ _ _=>zka (i:=0) (show List.Nodup (["_law_step"]:List Str) by decide +kernel) rfl (Or.inl rfl)) (λ _ _ _ _ _=>zpb) (λ _ _ _ _ _=>(zqa zua (zqa zua (zqa zua (zqa zua (zza zab rfl T.n_str (by decide +kernel) (zaa (zld (zel (K:=K) rfl) (pv 0) zea (λ _ _=>rfl)) zda)) zla) (zza zab rfl T.n_str (by decide +kernel) (zaa (zld (zel (K:=K) rfl) (pv 0) zea (λ _ _=>rfl)) zda))) zla) (zza zab rfl T.n_str (by decide +kernel) (zaa (zld (zel (K:=K) rfl) (pv 0) zea (λ _ _=>rfl)) zda))))) zda)))),?_⟩
  obtain ⟨p2,xs,rfl,hq,hds⟩:=hd
  have hxl:xs.length=ss.length:=by rw [hds.length,List.length_map]
  refine ⟨rfl,_,rfl,p2,rfl,⟨_,hq⟩,λ D hD=>zdb (n:=xs.length) (λ i=>xs.getD i .non) (λ i y _=>∃ s,ss[i]? = some s∧y = .str (dots (sL s))) hD hp ?_ (zdl hq) (λ _ _ _ _ h _ _=>h) ?_ ?_⟩
  ·exact sm1 ((by omega))
  ·intro i H2 R hi P2 S2 hR
   have hi':i<ss.length:=by omega
   obtain ⟨t,ht,hq2⟩:=zmq hds hi'
   have hn:ss[i]? = some ss[i]:=List.getElem?_eq_getElem hi'
   have hm:ss[i]∈ss:=List.getElem_mem hi'
   generalize ss[i]=s at hn hm hq2
   have ev:xs.getD i .non = .ref t:=by rw [List.getD_eq_getElem?_getD,ht];rfl
   rw [ev]
   have b1:=ztc (hs s hm).1
   have b2:=ztc (hs s hm).2.1
   have b3:=ztc (hs s hm).2.2
   have l1:=zsk b1.1 b1.2
   have l2:=zsk b2.1 b2.2
   have l3:=zsk b3.1 b3.2
   have lp:(Str.ofString ".").length=1:=rfl
   have hqs:=S2.seqT hq2
   exact ⟨_,rfl,t,_,_,.int s.1,rfl,rfl,hqs,at0,_,rfl,zun b1.1 b1.2,_,_,rfl,rfl,sm1 ((by (try simp only [zja]);omega)),_,rfl,t,_,_,.int s.2.1,rfl,rfl,hqs,at1,_,rfl,zun b2.1 b2.2,_,_,rfl,rfl,sm1 ((by (try simp only [zja]);omega)),_,_,rfl,rfl,sm1 ((by (try simp only [zja]);omega)),_,rfl,t,_,_,.int s.2.2,rfl,rfl,hqs,at2,_,rfl,zun b3.1 b3.2,_,_,rfl,rfl,sm1 ((by (try simp only [zja]);omega)),hR _ _ ⟨s,hn,rfl⟩ (Same.refl _) P2⟩
  ·intro ys H2 hl2 hr2 hd2 S2 P2
   have ey:ys=ss.map λ s=>V.str (dots (sL s)):=zfe (by omega) hr2
   rw [show (ss.map λ s=>V.str (dots (sL s)))=(ss.map λ s=>dots (sL s)).map V.str by rw [List.map_map];rfl] at ey
   subst ey
   refine ⟨_,D,ss.map λ s=>dots (sL s),rfl,rfl,SqL.of hd2,?_,q _ _ rfl S2 P2⟩
   have n1:(Str.ofString "/").length=1:=rfl
   have h2:((ss.map λ s=>dots (sL s)).map (·.length)).sum≤ss.length * 98:=zkg λ s hs'=>zsf (hs s hs')
   rw [n1,List.length_map]
   omega
theorem sc_q33:FnScope ["_law_word", "_law_mark", "_law_version_here", "_law_told"] ["_law_word", "_law_mark", "_law_version_here"] (zha zsz):=by walk_at "sc"
theorem zez (T:Txt w K mg A) (G_q14:zzv P w K mg B A):zgu P w K mg B A:=by
 have B_q14:=T.b_q14
 refine T.F_q33.okN sc_q33 (λ vs H Q E h=>?_) (λ _ _ _ _ H vs Q E hr h=>?_)
 ·obtain ⟨_,a,⟨x,y,rfl,_⟩,_⟩:=h
  rfl
 ·obtain ⟨hp,⟨w0,p⟩,⟨x,y,hv,hdm,hdv,ho,hw⟩,q,_⟩:=h
  obtain rfl:vs=[.str w0,x,y]:=hv
  dsimp only at hdm hdv ho hw q
  refine ⟨_,(zca (zya (i:=3) sc_q33.nd rfl (Or.inl rfl) (zqa zua (zqa zua (zqa zua (zqa zua (zqa zua (zqa zua (zqa zua (pv 0) zla) (zza zab rfl T.n_str (by decide +kernel) (zaa (zld zhd (pv 1) zea (λ _ _=>rfl)) zda))) zla) (zza zab rfl T.n_str (by decide +kernel) (zaa (zld zhd (pv 1) zea (λ _ _=>rfl)) zda))) zla) (zza zab rfl T.n_str (by decide +kernel) (zaa (zld zhd (pv 2) zea (λ _ _=>rfl)) zda))) zla))
   (zca (ztb (zna (zkl hr.units) (zld zhd (pv 2) zea (λ _ _=>rfl)) (zsa zda) (zva _)) (zfa (zoa (zqa zua (pv 3) zla))) zpa)
   (zfa (zoa (zqa zua (zqa zua (zqa zua (pv 3) (zga G_q14 (hr.mono (by decide)) rfl T.g_q14 T.k_q14 B_q14 .nil zac (zaa (zld zhd (pv 2) zea (λ _ _=>rfl)) zda))) zla) (zld zhd (pv 2) zea (λ _ _=>rfl))))))),?_⟩
  obtain ⟨tm,rfl,hqm⟩:=zqj hdm
  obtain ⟨tv,pa,rfl,hqv,hdp⟩:=zos hdv
  have b1:=ztc ho.ms.1
  have b2:=ztc ho.ms.2
  have b3:=ztc ho.vs.b
  have l1:=zsk b1.1 b1.2
  have l2:=zsk b2.1 b2.2
  have l3:=zsk b3.1 b3.2
  have lp:(Str.ofString ".").length=1:=rfl
  have lb:(Str.ofString " ").length=1:=rfl
  have ld:(Str.ofString "-").length=1:=rfl
  refine ⟨_,rfl,_,_,rfl,rfl,sm1 ((by (try simp only [zja]);omega)),_,rfl,tm,_,_,.int p.1.1,rfl,rfl,hqm,at0,_,rfl,zun b1.1 b1.2,_,_,rfl,rfl,sm1 ((by (try simp only [zja]);omega)),_,_,rfl,rfl,sm1 ((by (try simp only [zja]);omega)),_,rfl,tm,_,_,.int p.1.2,rfl,rfl,hqm,at1,_,rfl,zun b2.1 b2.2,_,_,rfl,rfl,sm1 ((by (try simp only [zja]);omega)),_,_,rfl,rfl,sm1 ((by (try simp only [zja]);omega)),_,rfl,tv,_,_,.int p.2.1,rfl,rfl,hqv,at0,_,rfl,zun b3.1 b3.2,_,_,rfl,rfl,sm1 ((by (try simp only [zja]);omega)),_,_,rfl,rfl,sm1 ((by (try simp only [zja]);omega)),?_⟩
  refine ⟨_,rfl,tv,_,_,pa,rfl,rfl,hqv,at1,sz_0,λ te hpe=>?_⟩
  generalize hHe:upd H te (HO.tup _)=He
  have se:Same H He:=hHe ▸ zba hpe
  have Pe:Plain He:=hHe ▸ hp.tup
  have he:=(congrFun hHe te).symm.trans upd_same
  refine ⟨plc p.2.2.1,plc [],DV.same se _ _ hdp,zvf he,zxc _,zxc _,_,rfl,?_⟩
  rw [zzp]
  refine zwc (λ h0=>?_) (λ h0=>?_)
  ·refine ⟨_,rfl,_,_,rfl,rfl,sm1 ((by (try simp only [zja]);omega)),q _ _ ?_ se Pe⟩
   rw [zbq]
   unfold zsb
   rw [if_pos h0]
   show V.str (((((((((w0++(⟨#[32]⟩:Str))++numT p.1.1)++(⟨#[46]⟩:Str))++numT p.1.2)++(⟨#[32]⟩:Str))++numT p.2.1)++(⟨#[32]⟩:Str))++(Str.ofString "-")))=V.str ((((w0++(⟨#[32]⟩:Str))++((numT p.1.1++(⟨#[46]⟩:Str))++numT p.1.2))++(⟨#[32]⟩:Str))++(numT p.2.1++((⟨#[32]⟩:Str)++(Str.ofString "-"))))
   simp only [zrb]
  have sl:(zvc p.2.2.1).length≤495:=by
   have h1:=zzf "/" (p.2.2.1.map λ s=>dots (sL s))
   have h2:((p.2.2.1.map λ s=>dots (sL s)).map (·.length)).sum≤p.2.2.1.length * 98:=zkg λ s hs=>zsf (ho.vs.s s hs)
   have h3:(Str.ofString "/").length=1:=rfl
   have:=ho.vs.n
   rw [h3,List.length_map] at h1
   unfold zvc
   omega
  have wl:=ho.vs.w
  refine ⟨_,rfl,_,rfl,tv,_,_,pa,rfl,rfl,se.seqT hqv,at1,Pe,p.2.2.1,⟨_,rfl,DV.same se _ _ hdp,ho.vs.n,λ s hs=>ho.vs.s s hs⟩,λ v H2 hv s2 P2=>?_,λ _ _ h=>h.elim⟩
  have hv:v = .str (zvc p.2.2.1):=hv
  subst hv
  refine ⟨_,_,rfl,rfl,sm1 ((by (try simp only [zja]);omega)),_,_,rfl,rfl,sm1 ((by (try simp only [zja]);omega)),_,rfl,tv,_,_,.str p.2.2.2,rfl,rfl,(se.trans s2).seqT hqv,at2,_,_,rfl,rfl,sm1 ((by (try simp only [zja]);omega)),q _ _ ?_ (se.trans s2) P2⟩
  rw [zbq]
  unfold zsb
  rw [if_neg h0]
  show V.str (((((((((((w0++(⟨#[32]⟩:Str))++numT p.1.1)++(⟨#[46]⟩:Str))++numT p.1.2)++(⟨#[32]⟩:Str))++numT p.2.1)++(⟨#[32]⟩:Str))++zvc p.2.2.1)++(⟨#[32]⟩:Str))++p.2.2.2))=V.str ((((w0++(⟨#[32]⟩:Str))++((numT p.1.1++(⟨#[46]⟩:Str))++numT p.1.2))++(⟨#[32]⟩:Str))++((((numT p.2.1++(⟨#[32]⟩:Str))++zvc p.2.2.1)++(⟨#[32]⟩:Str))++p.2.2.2))
  simp only [zrb]
theorem sc_q25:FnScope ["_law_record", "_law_head_here", "_law_pieces", "_law_asides", "_law_rows_here"] ["_law_record"] (zha zr0):=by walk_at "sc"
theorem zqy (T:Txt w K mg A) (G_q33:zgu P w K mg B A):zkw P w K mg B A:=by
 have B_q33:=T.b_q33
 refine T.F_q25.okN sc_q25 (λ vs H Q E h=>?_) (λ _ _ _ _ H vs Q E hr h=>?_)
 ·obtain ⟨_,a,⟨x,rfl,_⟩,_⟩:=h
  rfl
 ·obtain ⟨hp,r,⟨x,hv,⟨hd,ho⟩⟩,q,_⟩:=h
  obtain rfl:vs=[x]:=hv
  refine ⟨_,(zca (zmf (pv 0) (zyc rfl (zma (zka (i:=1) sc_q25.nd rfl (Or.inl rfl)) (zma (zka (i:=2) sc_q25.nd rfl (Or.inl rfl)) (zma (zka (i:=3) sc_q25.nd rfl (Or.inl rfl)) zqb)))))
   (zca (zya (i:=4) sc_q25.nd rfl (Or.inl rfl) (zzb (zaa (zxi PySem.F.plainAttrs_str PySem.F.slot_str_join PySem.F.type_str_join zbg zla (zaa (zqa zwd (zqa zwd (zzb (zaa (zld zhd (pv 1) zea (λ _ _=>rfl)) zda)) (zde ["_law_part"] 1 [] rfl (zem (zxb zqg (pv 1) (zpc zea) (zpc zea))) gk1 (λ _ _ _ _ _=>zka (i:=0) (show List.Nodup (["_law_part"]:List Str) by decide +kernel) rfl (Or.inl rfl)) (λ _ _ _ _ _=>zpb) (λ _ _ _ _ _=>(zza zcj rfl T.n_str (by decide +kernel) (zaa (pv 0) zda))))) (zde ["_law_part"] 1 [] rfl (zem (zxb zqg (pv 1) (zpc zea) zud)) gk1 (λ _ _ _ _ _=>zka (i:=0) (show List.Nodup (["_law_part"]:List Str) by decide +kernel) rfl (Or.inl rfl)) (λ _ _ _ _ _=>zpb) (λ _ _ _ _ _=>(zza zcj rfl T.n_str (by decide +kernel) (zaa (pv 0) zda))))) zda)) zda)))
   (zca (zya (i:=4) sc_q25.nd rfl (Or.inl rfl) (zqa zwd (pv 4) (zde ["_law_mark", "_law_version_here"] 2 [] rfl (zjc (pv 2)) gk2 (λ _ _ _ _ _=>zyc rfl (zma (zka (i:=0) (show List.Nodup (["_law_mark", "_law_version_here"]:List Str) by decide +kernel) rfl (Or.inl rfl)) (zma (zka (i:=1) (show List.Nodup (["_law_mark", "_law_version_here"]:List Str) by decide +kernel) rfl (Or.inl rfl)) zqb))) (λ _ _ _ _ _=>zpb) (λ _ _ _ _ _=>(zga G_q33 (hr.mono (by decide)) rfl T.g_q33 T.k_q33 B_q33 .nil zac (zaa zla (zaa (pv 0) (zaa (pv 1) zda))))))))
   (zfa (zoa (zqa zwd (zqa zwd (pv 4) (zde ["_law_mark", "_law_version_here"] 2 [] rfl (zjc (pv 3)) gk2 (λ _ _ _ _ _=>zyc rfl (zma (zka (i:=0) (show List.Nodup (["_law_mark", "_law_version_here"]:List Str) by decide +kernel) rfl (Or.inl rfl)) (zma (zka (i:=1) (show List.Nodup (["_law_mark", "_law_version_here"]:List Str) by decide +kernel) rfl (Or.inl rfl)) zqb))) (λ _ _ _ _ _=>zpb) (λ _ _ _ _ _=>(zga G_q33 (hr.mono (by decide)) rfl T.g_q33 T.k_q33 B_q33 .nil zac (zaa zla (zaa (pv 0) (zaa (pv 1) zda))))))) (zzb (zaa zla zda)))))))),?_⟩
  obtain ⟨hl6,hn4,hsm⟩:=zap ho
  obtain ⟨hnt,h2f⟩:=zqz ho
  obtain ⟨t,vs,rfl,hqt,xh,r1,rfl,hh,xp,r2,rfl,hpp,xa,r3,rfl,haa,e⟩:=hd
  cases (show r3=[] from e)
  obtain ⟨th,hs,rfl,hqh,y0,ys,rfl,e0,hys⟩:=hh
  have e0:y0 = .str r.w:=e0
  subst e0
  obtain ⟨lp,us,rfl,hlp,hus⟩:=hpp
  obtain ⟨la,ws,rfl,hla,hws⟩:=haa
  have hyl:ys.length=r.fs.length:=by rw [hys.length,List.length_map]
  obtain ⟨f1,f2,fr,hfs⟩:∃ f1 f2 fr,r.fs=f1::f2::fr:=by
   match hf:r.fs,h2f with
   | a::b::c,_=>exact ⟨a,b,c,rfl⟩
  rw [hfs] at hys
  obtain ⟨z1,zr1,rfl,hz1,z2,zr,rfl,hz2,hzr⟩:=id hys
  refine ⟨_,rfl,t,_,rfl,hqt,rfl,_,_,rfl,_,_,rfl,_,_,rfl,rfl,?_⟩
  refine ⟨rfl,_,rfl,th,_,_,.str r.w,rfl,rfl,hqh,at0,sz_1,λ l1 hp1=>?_⟩
  generalize hH1:upd H l1 (HO.lst _)=H1
  have s1:Same H H1:=hH1 ▸ zba hp1
  have P1:Plain H1:=hH1 ▸ hp.lst
  have h1:=(congrFun hH1 l1).symm.trans upd_same
  have sub1:∀ f∈[f1,f2],f∈r.fs:=λ f h=>by rw [hfs];simp only [List.mem_cons,List.not_mem_nil,or_false] at h ⊢;rcases h with h | h <;> simp [h]
  have sub2:∀ f∈fr,f∈r.fs:=λ f h=>by rw [hfs];simp [h]
  refine ⟨_,rfl,_,rfl,_,rfl,th,_,rfl,s1.seqT hqh,λ t2 H2 ht2 s2 p2=>?_⟩
  rw [zr2] at ht2
  have P2:=p2 P1
  have dv1:DVs K H2 (([f1,f2]:List Fld).map Fld.data) [z1,z2]:=DVs.same (s1.trans s2) _ _ ⟨z1,[z2],rfl,hz1,z2,[],rfl,hz2,rfl⟩
  refine ⟨t2,rfl,⟨_,ht2⟩,λ D1 hD1=>zdb (n:=([z1,z2]:List V).length) (λ i=>([z1,z2]:List V).getD i .non) (λ i y _=>∃ f,([f1,f2]:List Fld)[i]? = some f∧y = .str f.text) hD1 P2 ?_ (zdl ht2) (λ _ _ _ _ h _ _=>h) ?_ ?_⟩
  ·exact sm1 ((by rw [dv1.length,List.length_map]; (try show 2≤1000);omega))
  ·intro i Hi R hi Pi Si hR
   rw [dv1.length,List.length_map] at hi
   have hf:([f1,f2]:List Fld)[i]? = some ([f1,f2]:List Fld)[i]:=List.getElem?_eq_getElem hi
   have hfm:([f1,f2]:List Fld)[i]∈[f1,f2]:=List.getElem_mem hi
   generalize ([f1,f2]:List Fld)[i]=f at hf hfm
   obtain ⟨y,hy,hdy⟩:=dv1.get (i:=i) (d:=f.data) (by rw [List.getElem?_map,hf];rfl)
   rw [show ([z1,z2]:List V).getD i .non=y by rw [List.getD_eq_getElem?_getD,hy];rfl]
   rcases hnt f (sub1 f hfm) with ⟨k,rfl,hk⟩ | ⟨z,rfl,hz⟩
   ·have hdy:y = .int k:=hdy
    subst hdy
    have b:=ztc hk
    exact ⟨_,rfl,.inl ⟨k,rfl,zun b.1 b.2,hR _ _ ⟨_,hf,rfl⟩ (Same.refl _) Pi⟩⟩
   ·have hdy:y = .str z:=hdy
    subst hdy
    exact ⟨_,rfl,.inr ⟨z,rfl,hR _ _ ⟨_,hf,rfl⟩ (Same.refl _) Pi⟩⟩
  intro vs3 H3 hl3 hr3 hd3 S3 P3
  have e3:vs3=([f1,f2]:List Fld).map λ f=>V.str f.text:=zfe (by rw [hl3,dv1.length,List.length_map]) hr3
  rw [show (([f1,f2]:List Fld).map λ f=>V.str f.text)=(([f1,f2]:List Fld).map Fld.text).map V.str by rw [List.map_map];rfl] at e3
  subst e3
  refine ⟨l1,D1,_,_,rfl,rfl,(s2.trans S3) _ _ h1,hd3,sz_3,λ l4 hp4=>?_⟩
  generalize hH4:upd H3 l4 (HO.lst _)=H4
  have s4:Same H3 H4:=hH4 ▸ zba hp4
  have P4:Plain H4:=hH4 ▸ P3.lst
  have h4:=(congrFun hH4 l4).symm.trans upd_same
  refine ⟨_,rfl,_,rfl,th,_,rfl,(((s1.trans s2).trans S3).trans s4).seqT hqh,λ t5 H5 ht5 s5 p5=>?_⟩
  rw [show cutV (V.str r.w::z1::z2::zr) (some 3) none=zr by rw [zqf (by decide)];rfl] at ht5
  have P5:=p5 P4
  have dv2:DVs K H5 (fr.map Fld.data) zr:=DVs.same ((((s1.trans s2).trans S3).trans s4).trans s5) _ _ hzr
  have zrl:zr.length=fr.length:=by rw [dv2.length,List.length_map]
  have frl:fr.length≤2:=by rw [hfs,List.length_cons,List.length_cons] at hn4;omega
  refine ⟨t5,rfl,⟨_,ht5⟩,λ D2 hD2=>zdb (n:=(zr:List V).length) (λ i=>(zr:List V).getD i .non) (λ i y _=>∃ f,(fr:List Fld)[i]? = some f∧y = .str f.text) hD2 P5 ?_ (zdl ht5) (λ _ _ _ _ h _ _=>h) ?_ ?_⟩
  ·exact sm1 ((by rw [dv2.length,List.length_map]; (try show 2≤1000);omega))
  ·intro i Hi R hi Pi Si hR
   rw [dv2.length,List.length_map] at hi
   have hf:(fr:List Fld)[i]? = some (fr:List Fld)[i]:=List.getElem?_eq_getElem hi
   have hfm:(fr:List Fld)[i]∈fr:=List.getElem_mem hi
   generalize (fr:List Fld)[i]=f at hf hfm
   obtain ⟨y,hy,hdy⟩:=dv2.get (i:=i) (d:=f.data) (by rw [List.getElem?_map,hf];rfl)
   rw [show (zr:List V).getD i .non=y by rw [List.getD_eq_getElem?_getD,hy];rfl]
   rcases hnt f (sub2 f hfm) with ⟨k,rfl,hk⟩ | ⟨z,rfl,hz⟩
   ·have hdy:y = .int k:=hdy
    subst hdy
    have b:=ztc hk
    exact ⟨_,rfl,.inl ⟨k,rfl,zun b.1 b.2,hR _ _ ⟨_,hf,rfl⟩ (Same.refl _) Pi⟩⟩
   ·have hdy:y = .str z:=hdy
    subst hdy
    exact ⟨_,rfl,.inr ⟨z,rfl,hR _ _ ⟨_,hf,rfl⟩ (Same.refl _) Pi⟩⟩
  intro vs6 H6 hl6 hr6 hd6 S6 P6
  have e6:vs6=(fr:List Fld).map λ f=>V.str f.text:=zfe (by rw [hl6,dv2.length,List.length_map]) hr6
  rw [show ((fr:List Fld).map λ f=>V.str f.text)=((fr:List Fld).map Fld.text).map V.str by rw [List.map_map];rfl] at e6
  subst e6
  refine ⟨l4,D2,_,_,rfl,rfl,(s5.trans S6) _ _ h4,hd6,?_,λ l7 hp7=>?_⟩
  ·rw [List.length_map,List.length_map]
   exact sm1 ((by show 3+fr.length≤1000;omega))
  rw [show ([V.str r.w]++((([f1,f2]:List Fld).map Fld.text).map V.str))++(fr.map Fld.text).map V.str=(r.w::r.fs.map Fld.text).map V.str by rw [hfs];rfl]
  generalize hH7:upd H6 l7 (HO.lst _)=H7
  have s7:Same H6 H7:=hH7 ▸ zba hp7
  have P7:Plain H7:=hH7 ▸ P6.lst
  have h7:=(congrFun hH7 l7).symm.trans upd_same
  have S17:Same H H7:=(((((s1.trans s2).trans S3).trans s4).trans s5).trans S6).trans s7
  refine ⟨_,l7,r.w::r.fs.map Fld.text,rfl,rfl,SqL.of h7,?_,sz_1,λ l8 hp8=>?_⟩
  ·have n1:(Str.ofString " ").length=1:=rfl
   have wt:((r.fs.map Fld.text).map (·.length)).sum≤r.fs.length * 1000:=zkg λ f hf=>Nat.le_trans (zfl (hsm f hf)) (by cases f <;> first | exact (show 542≤1000 by decide) | exact (show 65≤1000 by decide))
   have hw:=(zpd ho.h).2.1
   rw [n1,List.map_cons,List.sum_cons,List.length_cons,List.length_map]
   omega
  have h8w:HO.lst [V.str (Txt.join " " (r.w::r.fs.map Fld.text))] = .lst (([rowT r.w r.fs]:List Str).map V.str):=rfl
  rw [h8w]
  generalize hH8:upd H7 l8 (HO.lst _)=H8
  have s8:Same H7 H8:=hH8 ▸ zba hp8
  have P8:Plain H8:=hH8 ▸ P7.lst
  have h8:=(congrFun hH8 l8).symm.trans upd_same
  have S18:=S17.trans s8
  refine ⟨_,rfl,?_⟩
  refine ⟨_,rfl,lp,rfl,⟨_,S18.seq hlp⟩,λ Dp hDp=>zdb (n:=us.length) (λ i=>us.getD i .non) (λ i y _=>∃ p,r.ps[i]? = some p∧y = .str (rowT "piece" (pFs p))) hDp P8 ?_ (zie (S18.seq hlp)) (λ _ _ _ _ h _ _=>h) ?_ ?_⟩
  ·have:=ho.pn
   exact sm1 ((by rw [hus.length,List.length_map];omega))
  ·intro i Hi R hi Pi Si hR
   rw [hus.length,List.length_map] at hi
   have hpi:r.ps[i]? = some r.ps[i]:=List.getElem?_eq_getElem hi
   have hpm:r.ps[i]∈r.ps:=List.getElem_mem hi
   generalize r.ps[i]=p at hpi hpm
   obtain ⟨y,hy,hdy⟩:=(DVs.same (S18.trans Si) _ _ hus).get (i:=i) (d:=prD p) (by rw [List.getElem?_map,hpi];rfl)
   rw [show us.getD i .non=y by rw [List.getD_eq_getElem?_getD,hy];rfl]
   have hok:=ho.p p hpm
   obtain ⟨tp,xs,rfl,hqp,ym,r1,rfl,em,yv,r2,rfl,ev,e9⟩:=hdy
   cases (show r2=[] from e9)
   refine ⟨tp,_,rfl,hqp,rfl,_,_,rfl,_,_,rfl,rfl,?_⟩
   refine ⟨_,rfl,_,rfl,Pi,("piece",p),⟨_,_,rfl,em,ev,hok,by show 5≤6;decide⟩,λ v Hj hv sj Pj=>?_,λ _ _ h=>h.elim⟩
   exact hR _ _ ⟨p,hpi,hv⟩ sj Pj
  intro vsp Hp hlp hrp hdp Sp Pp
  have ep:vsp=r.ps.map λ p=>V.str (rowT "piece" (pFs p)):=zfe (by rw [hlp,hus.length,List.length_map]) hrp
  rw [show (r.ps.map λ p=>V.str (rowT "piece" (pFs p)))=(r.ps.map λ p=>rowT "piece" (pFs p)).map V.str by rw [List.map_map];rfl] at ep
  subst ep
  refine ⟨l8,Dp,_,_,rfl,rfl,Sp _ _ h8,hdp,?_,λ l9 hp9=>?_⟩
  ·rw [List.length_map,List.length_map,List.length_map]
   have:=ho.pn
   exact sm1 ((by show 1+r.ps.length≤1000;omega))
  rw [← List.map_append]
  generalize hH9:upd Hp l9 (HO.lst _)=H9
  have s9:Same Hp H9:=hH9 ▸ zba hp9
  have P9:Plain H9:=hH9 ▸ Pp.lst
  have h9:=(congrFun hH9 l9).symm.trans upd_same
  have S19:=(S18.trans Sp).trans s9
  refine ⟨_,rfl,?_⟩
  refine ⟨_,rfl,la,rfl,⟨_,S19.seq hla⟩,λ Dc hDc=>zdb (n:=ws.length) (λ i=>ws.getD i .non) (λ i y _=>∃ p,r.cs[i]? = some p∧y = .str (rowT "clash" (pFs p))) hDc P9 ?_ (zie (S19.seq hla)) (λ _ _ _ _ h _ _=>h) ?_ ?_⟩
  ·have:=ho.cn
   exact sm1 ((by rw [hws.length,List.length_map];omega))
  ·intro i Hi R hi Pi Si hR
   rw [hws.length,List.length_map] at hi
   have hpi:r.cs[i]? = some r.cs[i]:=List.getElem?_eq_getElem hi
   have hpm:r.cs[i]∈r.cs:=List.getElem_mem hi
   generalize r.cs[i]=p at hpi hpm
   obtain ⟨y,hy,hdy⟩:=(DVs.same (S19.trans Si) _ _ hws).get (i:=i) (d:=prD p) (by rw [List.getElem?_map,hpi];rfl)
   rw [show ws.getD i .non=y by rw [List.getD_eq_getElem?_getD,hy];rfl]
   have hok:=ho.c p hpm
   obtain ⟨tp,xs,rfl,hqp,ym,r1,rfl,em,yv,r2,rfl,ev,e9⟩:=hdy
   cases (show r2=[] from e9)
   refine ⟨tp,_,rfl,hqp,rfl,_,_,rfl,_,_,rfl,rfl,?_⟩
   refine ⟨_,rfl,_,rfl,Pi,("clash",p),⟨_,_,rfl,em,ev,hok,by show 5≤6;decide⟩,λ v Hj hv sj Pj=>?_,λ _ _ h=>h.elim⟩
   exact hR _ _ ⟨p,hpi,hv⟩ sj Pj
  intro vsc Hc hlc hrc hdc Sc Pc
  have ec:vsc=r.cs.map λ p=>V.str (rowT "clash" (pFs p)):=zfe (by rw [hlc,hws.length,List.length_map]) hrc
  rw [show (r.cs.map λ p=>V.str (rowT "clash" (pFs p)))=(r.cs.map λ p=>rowT "clash" (pFs p)).map V.str by rw [List.map_map];rfl] at ec
  subst ec
  refine ⟨l9,Dc,_,_,rfl,rfl,Sc _ _ h9,hdc,?_,λ la2 hpa=>?_⟩
  ·rw [List.length_map,List.length_map,List.length_map,List.length_append,List.length_map]
   have:=ho.pn
   have:=ho.cn
   exact sm1 ((by show 1+r.ps.length+r.cs.length≤1000;omega))
  rw [← List.map_append]
  generalize hHa:upd Hc la2 (HO.lst _)=Ha
  have sa:Same Hc Ha:=hHa ▸ zba hpa
  have Pa:Plain Ha:=hHa ▸ Pc.lst
  have ha:=(congrFun hHa la2).symm.trans upd_same
  refine ⟨sz_1,λ lb hpb=>?_⟩
  generalize hHb:upd Ha lb (HO.lst _)=Hb
  have sb:Same Ha Hb:=hHb ▸ zba hpb
  have Pb:Plain Hb:=hHb ▸ Pa.lst
  have hb:=(congrFun hHb lb).symm.trans upd_same
  refine ⟨la2,lb,_,_,rfl,rfl,sb _ _ ha,hb,?_,λ lz hpz=>?_⟩
  ·have:=zkf ho
   unfold zrd zin at this
   rw [List.length_append] at this
   rw [List.length_map]
   exact sm1 ((by show (([rowT r.w r.fs]++r.ps.map λ p=>rowT "piece" (pFs p))++r.cs.map λ p=>rowT "clash" (pFs p)).length+1≤1000;simp at this ⊢;omega))
  refine q _ _ ⟨lz,rfl,upd_same.trans ?_⟩ ((((S19.trans Sc).trans sa).trans sb).trans (zba hpz)) Pb.lst
  unfold zrd zin
  rw [List.map_append (l₂:=[Str.ofString "end"])]
  rfl
theorem sc_q21:FnScope ["_law_record", "_law_number_here", "_law_head_here", "_law_pieces", "_law_asides", "_law_great_here", "_law_way", "_law_place_here"] ["_law_record", "_law_number_here"] (zha ziz):=by walk_at "sc"
theorem zi1 (T:Txt w K mg A)  : zmv P w K mg B A:=by
 refine T.F_q21.okN sc_q21 (λ vs H Q E h=>?_) (λ _ _ _ _ H vs Q E hr h=>?_)
 ·obtain ⟨_,a,⟨x,rfl,_⟩,_⟩:=h
  rfl
 ·obtain ⟨hp,⟨r,n⟩,⟨x,hv,⟨hd,ho⟩,hpl,hcl⟩,q,_⟩:=h
  obtain rfl:vs=[x,.int n]:=hv
  dsimp only at hd ho hpl hcl q
  refine ⟨_,(zca (zmf (pv 0) (zyc rfl (zma (zka (i:=2) sc_q21.nd rfl (Or.inl rfl)) (zma (zka (i:=3) sc_q21.nd rfl (Or.inl rfl)) (zma (zka (i:=4) sc_q21.nd rfl (Or.inl rfl)) zqb)))))
   (zca (zya (i:=5) sc_q21.nd rfl (Or.inl rfl) (zqa zfd (zqa zxu zea zea) (zqa znb (pv 1) zea)))
   (zca (zya (i:=6) sc_q21.nd rfl (Or.inl rfl) (zqa znb (pv 1) zea))
   (zca (zya (i:=7) sc_q21.nd rfl (Or.inl rfl) (zsa (zaa (zsa (zaa zea (zaa zea (zaa zea zda)))) (zaa (zsa (zaa zea (zaa zea (zaa zea zda)))) zda))))
   (zca (ztb (zna zvd (pv 6) zea (zva _)) (zfa (zoa (zsa (zaa (zqa zng (zqa zng (zxb zqg (pv 2) zud (zpc zea)) (zsa (zaa (pv 5) zda))) (zxb zqg (pv 2) (zpc zea) zud)) (zaa (pv 3) (zaa (pv 4) zda)))))) zpa)
   (zca (ztb (zna zvd (pv 6) zea (zva _)) (zfa (zoa (zsa (zaa (pv 2) (zaa (zqa zwd (pv 3) (zzb (zaa (zsa (zaa (zsa (zaa zea (zaa zea zda))) (zaa (zsa (zaa (pv 5) (zaa (pv 7) (zaa zla zda)))) zda))) zda))) (zaa (pv 4) zda)))))) zpa)
   (zca (ztb (zna zvd (pv 6) zea (zva _)) (zfa (zoa (zsa (zaa (pv 2) (zaa (zqa zwd (pv 3) (zzb (zaa (zsa (zaa (zsa (zaa zea (zaa (pv 5) zda))) (zaa (zsa (zaa zea (zaa (pv 7) (zaa zla zda)))) zda))) zda))) (zaa (pv 4) zda)))))) zpa)
   (zca (ztb (zna zvd (pv 6) zea (zva _)) (zfa (zoa (zsa (zaa (pv 2) (zaa (pv 3) (zaa (zqa zwd (pv 4) (zzb (zaa (zsa (zaa (zsa (zaa zea (zaa zea zda))) (zaa (zsa (zaa zea (zaa (zqa zng (pv 7) (zsa (zaa (zsa (zaa (zqa zgs zea (pv 5)) (zaa zea (zaa zea zda)))) zda))) (zaa zla zda)))) zda))) zda))) zda)))))) zpa)
   (zfa (zoa (zsa (zaa (pv 2) (zaa (pv 3) (zaa (zqa zwd (pv 4) (zzb (zaa (zsa (zaa (zsa (zaa zea (zaa zea zda))) (zaa (zsa (zaa zea (zaa (zqa zng (zsa (zaa (zsa (zaa zea (zaa (pv 5) (zaa zea zda)))) zda)) (pv 7)) (zaa zla zda)))) zda))) zda))) zda)))))))))))))),?_⟩
  obtain ⟨w0,fs,ps,cs⟩:=r
  obtain ⟨t,xh,lp,la,us,ws,rfl,hqt,hh,hlp,hus,hla,hws⟩:=hd
  dsimp only at hpl hcl hus hws
  obtain ⟨⟨k1,k2⟩,⟨k3,k4⟩,⟨k5,k6⟩,⟨k7,k8⟩,g1,g2,g3⟩:=zx3 n
  refine ⟨_,rfl,t,_,rfl,hqt,rfl,_,_,rfl,_,_,rfl,_,_,rfl,rfl,?_⟩
  refine ⟨_,_,rfl,rfl,⟨by decide,by decide,by decide⟩,_,rfl,_,_,rfl,rfl,zsy,_,_,rfl,rfl,?_⟩
  refine ⟨_,rfl,_,_,rfl,rfl,ip_5,?_⟩
  refine ⟨sz_3,λ ta hp1=>?_⟩
  generalize hH1:upd H ta (HO.tup _)=H1
  have s1:Same H H1:=hH1 ▸ zba hp1
  have P1:Plain H1:=hH1 ▸ hp.tup
  have h1:=(congrFun hH1 ta).symm.trans upd_same
  refine ⟨sz_3,λ tb hp2=>?_⟩
  generalize hH2:upd H1 tb (HO.tup _)=H2
  have s2:Same H1 H2:=hH2 ▸ zba hp2
  have P2:Plain H2:=hH2 ▸ P1.tup
  have h2:=(congrFun hH2 tb).symm.trans upd_same
  refine ⟨sz_2,λ tp hp3=>?_⟩
  generalize hH3:upd H2 tp (HO.tup _)=H3
  have s3:Same H2 H3:=hH3 ▸ zba hp3
  have P3:Plain H3:=hH3 ▸ P2.tup
  have h3:=(congrFun hH3 tp).symm.trans upd_same
  have S3:=(s1.trans s2).trans s3
  have qa:SqT K H3 ta [.int 1,.int 1,.int 1]:=SqT.of ((s2.trans s3) _ _ h1)
  have qb:SqT K H3 tb [.int 0,.int 2,.int 2]:=SqT.of (s3 _ _ h2)
  have da:DV K H3 (stp (1,1,1)) (.ref ta):=⟨ta,_,rfl,qa,_,_,rfl,rfl,_,_,rfl,rfl,_,_,rfl,rfl,rfl⟩
  have db:DV K H3 (stp (0,2,2)) (.ref tb):=⟨tb,_,rfl,qb,_,_,rfl,rfl,_,_,rfl,rfl,_,_,rfl,rfl,rfl⟩
  have dp:DV K H3 (plc [(1,1,1),(0,2,2)]) (.ref tp):=⟨tp,_,rfl,SqT.of h3,_,_,rfl,da,_,_,rfl,db,rfl⟩
  refine ⟨_,rfl,rfl,_,rfl,zwc (λ _=>?_) (λ _=>?_)⟩
  ·obtain ⟨ks,hsh,hpk⟩:=ho.f
   obtain ⟨kr,rfl⟩:=zhu ho.h hsh
   have hl4:=(zap ho).2.1
   dsimp only at hpk hl4
   cases hpk with
   | @cons _ f _ fr hf hpr =>
   obtain ⟨th,xs,rfl,hqh,y0,ys,rfl,e0,y1,yr,rfl,e1,hyr⟩:=hh
   have e0:y0 = .str w0:=e0
   subst e0
   have hyl:yr.length≤4:=by
    rw [hyr.length,List.length_map]
    rw [List.length_cons] at hl4
    omega
   refine ⟨_,rfl,_,rfl,th,_,rfl,S3.seqT hqh,λ t4 H4 ht4 s4 p4=>?_⟩
   rw [show cutV (V.str w0::y1::yr) none (some 1)=[V.str w0] by rw [zwr (by decide)];rfl] at ht4
   have P4:=p4 P3
   refine ⟨_,rfl,sz_1,λ t5 hp5=>?_⟩
   generalize hH5:upd H4 t5 (HO.tup _)=H5
   have s5:Same H4 H5:=hH5 ▸ zba hp5
   have P5:Plain H5:=hH5 ▸ P4.tup
   have h5:=(congrFun hH5 t5).symm.trans upd_same
   refine ⟨t4,t5,_,_,rfl,rfl,s5.seqT ht4,SqT.of h5,sz_2,λ t6 H6 ht6 s6 p6=>?_⟩
   refine ⟨_,rfl,_,rfl,th,_,rfl,(((S3.trans s4).trans s5).trans s6).seqT hqh,λ t7 H7 ht7 s7 p7=>?_⟩
   rw [show cutV (V.str w0::y1::yr) (some 2) none=yr by rw [zqf (by decide)];rfl] at ht7
   refine ⟨t6,t7,_,_,rfl,rfl,s7.seqT ht6,ht7,sm1 ((by show 2+yr.length≤1000;omega)),λ t8 H8 ht8 s8 p8=>?_⟩
   have P8:=p8 (p7 (p6 P5))
   have S8:=(((((S3.trans s4).trans s5).trans s6).trans s7).trans s8)
   refine ⟨_,rfl,_,rfl,sz_3,λ t9 hp9=>?_⟩
   generalize hH9:upd H8 t9 (HO.tup _)=H9
   have s9:Same H8 H9:=hH9 ▸ zba hp9
   have P9:Plain H9:=hH9 ▸ P8.tup
   have h9:=(congrFun hH9 t9).symm.trans upd_same
   have S9:=S8.trans s9
   exact q _ _ ⟨⟨w0,.nm (10 ^ Int.toNat 30+n % 100)::fr,ps,cs⟩,⟨⟨t9,_,rfl,SqT.of h9,_,_,rfl,⟨t8,_,rfl,s9.seqT ht8,_,_,rfl,rfl,_,_,rfl,rfl,DVs.same S9 _ _ hyr⟩,_,_,rfl,⟨lp,us,rfl,SqL.of (S9 _ _ hlp),DVs.same S9 _ _ hus⟩,_,_,rfl,⟨la,ws,rfl,SqL.of (S9 _ _ hla),DVs.same S9 _ _ hws⟩,rfl⟩,(zd2 ho hsh hpr g1 g2 g3).1⟩,(zd2 ho hsh hpr g1 g2 g3).2⟩ S9 P9
  have hul:us.length=ps.length:=by rw [hus.length,List.length_map]
  have hwl:ws.length=cs.length:=by rw [hws.length,List.length_map]
  refine ⟨_,rfl,rfl,_,rfl,zwc (λ _=>?_) (λ _=>?_)⟩
  ·refine ⟨_,rfl,_,rfl,sz_2,λ tc hpa=>?_⟩
   generalize hHa:upd H3 tc (HO.tup _)=Ha
   have sa:Same H3 Ha:=hHa ▸ zba hpa
   have Pa:Plain Ha:=hHa ▸ P3.tup
   have ha:=(congrFun hHa tc).symm.trans upd_same
   refine ⟨_,rfl,_,rfl,sz_3,λ td hpb=>?_⟩
   generalize hHb:upd Ha td (HO.tup _)=Hb
   have sb:Same Ha Hb:=hHb ▸ zba hpb
   have Pb:Plain Hb:=hHb ▸ Pa.tup
   have hb:=(congrFun hHb td).symm.trans upd_same
   refine ⟨sz_2,λ te hpc=>?_⟩
   generalize hHc:upd Hb te (HO.tup _)=Hc
   have sc:Same Hb Hc:=hHc ▸ zba hpc
   have Pc:Plain Hc:=hHc ▸ Pb.tup
   have hc:=(congrFun hHc te).symm.trans upd_same
   refine ⟨sz_1,λ lf hpd=>?_⟩
   generalize hHd:upd Hc lf (HO.lst _)=Hd
   have sd:Same Hc Hd:=hHd ▸ zba hpd
   have Pd:Plain Hd:=hHd ▸ Pc.lst
   have hd:=(congrFun hHd lf).symm.trans upd_same
   have Sd:=(((S3.trans sa).trans sb).trans sc).trans sd
   refine ⟨lp,lf,us,_,rfl,rfl,Sd _ _ hlp,hd,sm1 ((by show us.length+1≤1000;omega)),λ lg hpe=>?_⟩
   generalize hHe:upd Hd lg (HO.lst _)=He
   have se:Same Hd He:=hHe ▸ zba hpe
   have Pe:Plain He:=hHe ▸ Pd.lst
   have he:=(congrFun hHe lg).symm.trans upd_same
   refine ⟨_,rfl,sz_3,λ ti hpf=>?_⟩
   generalize hHf:upd He ti (HO.tup _)=Hf
   have sf:Same He Hf:=hHf ▸ zba hpf
   have Pf:Plain Hf:=hHf ▸ Pe.tup
   have hf:=(congrFun hHf ti).symm.trans upd_same
   have Sf:=(Sd.trans se).trans sf
   have dm:DV K Hf (prD ((5,5),(10 ^ Int.toNat 30+n % 100,[(1,1,1),(0,2,2)],Str.ofString "a"))) (.ref te):=⟨te,_,rfl,SqT.of (((sd.trans se).trans sf) _ _ hc),_,_,rfl,⟨tc,_,rfl,SqT.of (((((sb.trans sc).trans sd).trans se).trans sf) _ _ ha),_,_,rfl,rfl,_,_,rfl,rfl,rfl⟩,_,_,rfl,⟨td,_,rfl,SqT.of ((((sc.trans sd).trans se).trans sf) _ _ hb),_,_,rfl,rfl,_,_,rfl,DV.same (((((sa.trans sb).trans sc).trans sd).trans se).trans sf) _ _ dp,_,_,rfl,rfl,rfl⟩,rfl⟩
   exact q _ _ ⟨⟨w0,fs,ps++[((5,5),(10 ^ Int.toNat 30+n % 100,[(1,1,1),(0,2,2)],Str.ofString "a"))],cs⟩,⟨⟨ti,_,rfl,SqT.of hf,_,_,rfl,DV.same Sf _ _ hh,_,_,rfl,⟨lg,_,rfl,SqL.of (sf _ _ he),zhj (DVs.same Sf _ _ hus) dm⟩,_,_,rfl,⟨la,ws,rfl,SqL.of (Sf _ _ hla),DVs.same Sf _ _ hws⟩,rfl⟩,(ztw ho hpl ⟨k1,k2⟩).1⟩,(ztw ho hpl ⟨k1,k2⟩).2⟩ Sf Pf
  refine ⟨_,rfl,rfl,_,rfl,zwc (λ _=>?_) (λ _=>?_)⟩
  ·refine ⟨_,rfl,_,rfl,_,rfl,sz_2,λ tc hpa=>?_⟩
   generalize hHa:upd H3 tc (HO.tup _)=Ha
   have sa:Same H3 Ha:=hHa ▸ zba hpa
   have Pa:Plain Ha:=hHa ▸ P3.tup
   have ha:=(congrFun hHa tc).symm.trans upd_same
   refine ⟨_,rfl,sz_3,λ td hpb=>?_⟩
   generalize hHb:upd Ha td (HO.tup _)=Hb
   have sb:Same Ha Hb:=hHb ▸ zba hpb
   have Pb:Plain Hb:=hHb ▸ Pa.tup
   have hb:=(congrFun hHb td).symm.trans upd_same
   refine ⟨sz_2,λ te hpc=>?_⟩
   generalize hHc:upd Hb te (HO.tup _)=Hc
   have sc:Same Hb Hc:=hHc ▸ zba hpc
   have Pc:Plain Hc:=hHc ▸ Pb.tup
   have hc:=(congrFun hHc te).symm.trans upd_same
   refine ⟨sz_1,λ lf hpd=>?_⟩
   generalize hHd:upd Hc lf (HO.lst _)=Hd
   have sd:Same Hc Hd:=hHd ▸ zba hpd
   have Pd:Plain Hd:=hHd ▸ Pc.lst
   have hd:=(congrFun hHd lf).symm.trans upd_same
   have Sd:=(((S3.trans sa).trans sb).trans sc).trans sd
   refine ⟨lp,lf,us,_,rfl,rfl,Sd _ _ hlp,hd,sm1 ((by show us.length+1≤1000;omega)),λ lg hpe=>?_⟩
   generalize hHe:upd Hd lg (HO.lst _)=He
   have se:Same Hd He:=hHe ▸ zba hpe
   have Pe:Plain He:=hHe ▸ Pd.lst
   have he:=(congrFun hHe lg).symm.trans upd_same
   refine ⟨_,rfl,sz_3,λ ti hpf=>?_⟩
   generalize hHf:upd He ti (HO.tup _)=Hf
   have sf:Same He Hf:=hHf ▸ zba hpf
   have Pf:Plain Hf:=hHf ▸ Pe.tup
   have hf:=(congrFun hHf ti).symm.trans upd_same
   have Sf:=(Sd.trans se).trans sf
   have dm:DV K Hf (prD ((5,10 ^ Int.toNat 30+n % 100),(4,[(1,1,1),(0,2,2)],Str.ofString "a"))) (.ref te):=⟨te,_,rfl,SqT.of (((sd.trans se).trans sf) _ _ hc),_,_,rfl,⟨tc,_,rfl,SqT.of (((((sb.trans sc).trans sd).trans se).trans sf) _ _ ha),_,_,rfl,rfl,_,_,rfl,rfl,rfl⟩,_,_,rfl,⟨td,_,rfl,SqT.of ((((sc.trans sd).trans se).trans sf) _ _ hb),_,_,rfl,rfl,_,_,rfl,DV.same (((((sa.trans sb).trans sc).trans sd).trans se).trans sf) _ _ dp,_,_,rfl,rfl,rfl⟩,rfl⟩
   exact q _ _ ⟨⟨w0,fs,ps++[((5,10 ^ Int.toNat 30+n % 100),(4,[(1,1,1),(0,2,2)],Str.ofString "a"))],cs⟩,⟨⟨ti,_,rfl,SqT.of hf,_,_,rfl,DV.same Sf _ _ hh,_,_,rfl,⟨lg,_,rfl,SqL.of (sf _ _ he),zhj (DVs.same Sf _ _ hus) dm⟩,_,_,rfl,⟨la,ws,rfl,SqL.of (Sf _ _ hla),DVs.same Sf _ _ hws⟩,rfl⟩,(ztw ho hpl ⟨k3,k4⟩).1⟩,(ztw ho hpl ⟨k3,k4⟩).2⟩ Sf Pf
  refine ⟨_,rfl,rfl,_,rfl,zwc (λ _=>?_) (λ _=>?_)⟩
  ·refine ⟨_,rfl,_,rfl,_,rfl,sz_2,λ tc hpa=>?_⟩
   generalize hHa:upd H3 tc (HO.tup _)=Ha
   have sa:Same H3 Ha:=hHa ▸ zba hpa
   have Pa:Plain Ha:=hHa ▸ P3.tup
   have ha:=(congrFun hHa tc).symm.trans upd_same
   refine ⟨_,rfl,_,rfl,_,_,rfl,rfl,sz_3,λ td hpb=>?_⟩
   generalize hHb:upd Ha td (HO.tup _)=Hb
   have sb:Same Ha Hb:=hHb ▸ zba hpb
   have Pb:Plain Hb:=hHb ▸ Pa.tup
   have hb:=(congrFun hHb td).symm.trans upd_same
   refine ⟨sz_1,λ te hpc=>?_⟩
   generalize hHc:upd Hb te (HO.tup _)=Hc
   have sc:Same Hb Hc:=hHc ▸ zba hpc
   have Pc:Plain Hc:=hHc ▸ Pb.tup
   have hc:=(congrFun hHc te).symm.trans upd_same
   have Sc:=((S3.trans sa).trans sb).trans sc
   have S3c:=(sa.trans sb).trans sc
   have du:DV K Hc (stp (0 - (10 ^ Int.toNat 30+n % 100),1,1)) (.ref td):=⟨td,_,rfl,SqT.of (sc _ _ hb),_,_,rfl,rfl,_,_,rfl,rfl,_,_,rfl,rfl,rfl⟩
   refine ⟨tp,te,_,_,rfl,rfl,SqT.of (S3c _ _ h3),SqT.of hc,sz_3,λ tg Hg hg sg pg=>?_⟩
   have Pg:=pg Pc
   have S3g:=S3c.trans sg
   refine ⟨sz_3,λ th hphh=>?_⟩
   generalize hHhh:upd Hg th (HO.tup _)=Hhh
   have shh:Same Hg Hhh:=hHhh ▸ zba hphh
   have Phh:Plain Hhh:=hHhh ▸ Pg.tup
   have hhh:=(congrFun hHhh th).symm.trans upd_same
   refine ⟨sz_2,λ ti hpi=>?_⟩
   generalize hHi:upd Hhh ti (HO.tup _)=Hi
   have si:Same Hhh Hi:=hHi ▸ zba hpi
   have Pi:Plain Hi:=hHi ▸ Phh.tup
   have hi:=(congrFun hHi ti).symm.trans upd_same
   refine ⟨sz_1,λ lj hpj=>?_⟩
   generalize hHj:upd Hi lj (HO.lst _)=Hj
   have sj:Same Hi Hj:=hHj ▸ zba hpj
   have Pj:Plain Hj:=hHj ▸ Pi.lst
   have hj:=(congrFun hHj lj).symm.trans upd_same
   have Sj:=((((S3.trans S3g)).trans shh).trans si).trans sj
   refine ⟨la,lj,ws,_,rfl,rfl,Sj _ _ hla,hj,sm1 ((by show ws.length+1≤1000;omega)),λ lk hpk=>?_⟩
   generalize hHk:upd Hj lk (HO.lst _)=Hk
   have sk:Same Hj Hk:=hHk ▸ zba hpk
   have Pk:Plain Hk:=hHk ▸ Pj.lst
   have hk:=(congrFun hHk lk).symm.trans upd_same
   refine ⟨sz_3,λ tl hpl2=>?_⟩
   generalize hHl2:upd Hk tl (HO.tup _)=Hl2
   have sl2:Same Hk Hl2:=hHl2 ▸ zba hpl2
   have Pl2:Plain Hl2:=hHl2 ▸ Pk.tup
   have hl2:=(congrFun hHl2 tl).symm.trans upd_same
   have Sl:=(Sj.trans sk).trans sl2
   have dpl:DV K Hg (plc [(1,1,1),(0,2,2),(0 - (10 ^ Int.toNat 30+n % 100),1,1)]) (.ref tg):=⟨tg,_,rfl,hg,_,_,rfl,DV.same S3g _ _ da,_,_,rfl,DV.same S3g _ _ db,_,_,rfl,DV.same sg _ _ du,rfl⟩
   have dm:DV K Hl2 (prD ((5,5),(4,[(1,1,1),(0,2,2),(0 - (10 ^ Int.toNat 30+n % 100),1,1)],Str.ofString "a"))) (.ref ti):=⟨ti,_,rfl,SqT.of (((sj.trans sk).trans sl2) _ _ hi),_,_,rfl,⟨tc,_,rfl,SqT.of ((((((((sb.trans sc).trans sg).trans shh).trans si).trans sj).trans sk).trans sl2) _ _ ha),_,_,rfl,rfl,_,_,rfl,rfl,rfl⟩,_,_,rfl,⟨th,_,rfl,SqT.of ((((si.trans sj).trans sk).trans sl2) _ _ hhh),_,_,rfl,rfl,_,_,rfl,DV.same ((((shh.trans si).trans sj).trans sk).trans sl2) _ _ dpl,_,_,rfl,rfl,rfl⟩,rfl⟩
   exact q _ _ ⟨⟨w0,fs,ps,cs++[((5,5),(4,[(1,1,1),(0,2,2),(0 - (10 ^ Int.toNat 30+n % 100),1,1)],Str.ofString "a"))]⟩,⟨⟨tl,_,rfl,SqT.of hl2,_,_,rfl,DV.same Sl _ _ hh,_,_,rfl,⟨lp,us,rfl,SqL.of (Sl _ _ hlp),DVs.same Sl _ _ hus⟩,_,_,rfl,⟨lk,_,rfl,SqL.of (sl2 _ _ hk),zhj (DVs.same Sl _ _ hws) dm⟩,rfl⟩,(zzw ho hcl ⟨k5,k6⟩).1⟩,(zzw ho hcl ⟨k5,k6⟩).2⟩ Sl Pl2
  refine ⟨_,rfl,_,rfl,_,rfl,sz_2,λ tc hpa=>?_⟩
  generalize hHa:upd H3 tc (HO.tup _)=Ha
  have sa:Same H3 Ha:=hHa ▸ zba hpa
  have Pa:Plain Ha:=hHa ▸ P3.tup
  have ha:=(congrFun hHa tc).symm.trans upd_same
  refine ⟨_,rfl,sz_3,λ td hpb=>?_⟩
  generalize hHb:upd Ha td (HO.tup _)=Hb
  have sb:Same Ha Hb:=hHb ▸ zba hpb
  have Pb:Plain Hb:=hHb ▸ Pa.tup
  have hb:=(congrFun hHb td).symm.trans upd_same
  refine ⟨sz_1,λ te hpc=>?_⟩
  generalize hHc:upd Hb te (HO.tup _)=Hc
  have sc:Same Hb Hc:=hHc ▸ zba hpc
  have Pc:Plain Hc:=hHc ▸ Pb.tup
  have hc:=(congrFun hHc te).symm.trans upd_same
  have Sc:=((S3.trans sa).trans sb).trans sc
  have S3c:=(sa.trans sb).trans sc
  have du:DV K Hc (stp (1,10 ^ Int.toNat 30+n % 100,1)) (.ref td):=⟨td,_,rfl,SqT.of (sc _ _ hb),_,_,rfl,rfl,_,_,rfl,rfl,_,_,rfl,rfl,rfl⟩
  refine ⟨_,rfl,te,tp,_,_,rfl,rfl,SqT.of hc,SqT.of (S3c _ _ h3),sz_3,λ tg Hg hg sg pg=>?_⟩
  have Pg:=pg Pc
  have S3g:=S3c.trans sg
  refine ⟨sz_3,λ th hphh=>?_⟩
  generalize hHhh:upd Hg th (HO.tup _)=Hhh
  have shh:Same Hg Hhh:=hHhh ▸ zba hphh
  have Phh:Plain Hhh:=hHhh ▸ Pg.tup
  have hhh:=(congrFun hHhh th).symm.trans upd_same
  refine ⟨sz_2,λ ti hpi=>?_⟩
  generalize hHi:upd Hhh ti (HO.tup _)=Hi
  have si:Same Hhh Hi:=hHi ▸ zba hpi
  have Pi:Plain Hi:=hHi ▸ Phh.tup
  have hi:=(congrFun hHi ti).symm.trans upd_same
  refine ⟨sz_1,λ lj hpj=>?_⟩
  generalize hHj:upd Hi lj (HO.lst _)=Hj
  have sj:Same Hi Hj:=hHj ▸ zba hpj
  have Pj:Plain Hj:=hHj ▸ Pi.lst
  have hj:=(congrFun hHj lj).symm.trans upd_same
  have Sj:=((((S3.trans S3g)).trans shh).trans si).trans sj
  refine ⟨la,lj,ws,_,rfl,rfl,Sj _ _ hla,hj,sm1 ((by show ws.length+1≤1000;omega)),λ lk hpk=>?_⟩
  generalize hHk:upd Hj lk (HO.lst _)=Hk
  have sk:Same Hj Hk:=hHk ▸ zba hpk
  have Pk:Plain Hk:=hHk ▸ Pj.lst
  have hk:=(congrFun hHk lk).symm.trans upd_same
  refine ⟨sz_3,λ tl hpl2=>?_⟩
  generalize hHl2:upd Hk tl (HO.tup _)=Hl2
  have sl2:Same Hk Hl2:=hHl2 ▸ zba hpl2
  have Pl2:Plain Hl2:=hHl2 ▸ Pk.tup
  have hl2:=(congrFun hHl2 tl).symm.trans upd_same
  have Sl:=(Sj.trans sk).trans sl2
  have dpl:DV K Hg (plc [(1,10 ^ Int.toNat 30+n % 100,1),(1,1,1),(0,2,2)]) (.ref tg):=⟨tg,_,rfl,hg,_,_,rfl,DV.same sg _ _ du,_,_,rfl,DV.same S3g _ _ da,_,_,rfl,DV.same S3g _ _ db,rfl⟩
  have dm:DV K Hl2 (prD ((5,5),(4,[(1,10 ^ Int.toNat 30+n % 100,1),(1,1,1),(0,2,2)],Str.ofString "a"))) (.ref ti):=⟨ti,_,rfl,SqT.of (((sj.trans sk).trans sl2) _ _ hi),_,_,rfl,⟨tc,_,rfl,SqT.of ((((((((sb.trans sc).trans sg).trans shh).trans si).trans sj).trans sk).trans sl2) _ _ ha),_,_,rfl,rfl,_,_,rfl,rfl,rfl⟩,_,_,rfl,⟨th,_,rfl,SqT.of ((((si.trans sj).trans sk).trans sl2) _ _ hhh),_,_,rfl,rfl,_,_,rfl,DV.same ((((shh.trans si).trans sj).trans sk).trans sl2) _ _ dpl,_,_,rfl,rfl,rfl⟩,rfl⟩
  exact q _ _ ⟨⟨w0,fs,ps,cs++[((5,5),(4,[(1,10 ^ Int.toNat 30+n % 100,1),(1,1,1),(0,2,2)],Str.ofString "a"))]⟩,⟨⟨tl,_,rfl,SqT.of hl2,_,_,rfl,DV.same Sl _ _ hh,_,_,rfl,⟨lp,us,rfl,SqL.of (Sl _ _ hlp),DVs.same Sl _ _ hus⟩,_,_,rfl,⟨lk,_,rfl,SqL.of (sl2 _ _ hk),zhj (DVs.same Sl _ _ hws) dm⟩,rfl⟩,(zzw ho hcl ⟨k7,k8⟩).1⟩,(zzw ho hcl ⟨k7,k8⟩).2⟩ Sl Pl2
theorem sc_q1:FnScope ["_law_record", "_law_rows_here", "_law_refusal", "e"] ["_law_record", "_law_rows_here"] (zha s_q1):=by walk_at "sc"
theorem zp4 (T:Txt w K mg A) (G_q0:zay P w K mg B A) (G_q27:zis P w K mg B A):zp2 P w K mg B A:=by
 have B_q0:=T.b_q0
 have B_q27:=T.b_q27
 refine T.F_q1.okN sc_q1 (λ vs H Q E h=>?_) (λ _ _ _ _ H vs Q E hr h=>?_)
 ·obtain ⟨_,a,⟨x,rfl,_⟩,_⟩:=h
  rfl
 ·obtain ⟨hp,⟨r,lr,zs⟩,⟨x,hv,hlr,ha⟩,q,_⟩:=h
  obtain rfl:vs=[x,.ref lr]:=hv
  dsimp only at hlr ha q
  refine ⟨_,(zca (zya (i:=2) sc_q1.nd rfl (Or.inl rfl) zyj)
   (zca (zht (i:=3) sc_q1.nd T.x_DraftError rfl T.g_DraftError ⟨⟨_,_,_,rfl,rfl,rfl⟩⟩ (λ _ _ _ _ hx=>(zfa (ztb (zna zfs (pv 0) zyj (zva _)) (zfa (zid (zhl G_q0 (hr.mono (by decide)) rfl T.g_q0 T.k_q0 B_q0 .nil hx (zaa (pv 1) zda)))) (zfa (zid (zhl G_q27 (hr.mono (by decide)) rfl T.g_q27 T.k_q27 B_q27 .nil hx (zaa (pv 0) zda))))))) (λ _=>(zfa (zya (i:=2) sc_q1.nd rfl (Or.inl rfl) (pv 3)))))
   (zca (ztb (PW.pt (zjn (zpf (zwe (zmb zug rfl T.n_isinstance (by decide +kernel) (zaa (pv 2) (zaa (zgb (v := .ref A.NoText) rfl T.g_NoText rfl) zda))))) (zcg (zpf (zwe (zmb zug rfl T.n_isinstance (by decide +kernel) (zaa (pv 2) (zaa (zkt (v := .ty "ValueError") rfl T.n_ValueError (by decide +kernel) rfl) zda)))))))) (zfa (zoa zgv)) zpa)
   (zfa (zoa (zgy (zmb zxj rfl T.n_isinstance (by decide +kernel) (zaa (pv 2) (zaa (zsa (zaa (zgb (v := .ref A.NoBuilt) rfl T.g_NoBuilt rfl) (zaa (zgb (v := .ref A.NoPaper) rfl T.g_NoPaper rfl) (zaa (zgb (v := .ref A.NoRow) rfl T.g_NoRow rfl) zda)))) zda))))))))),?_⟩
  refine ⟨λ c _ H2=>c = .ref A.NoText∧Same H H2∧Plain H2,?_,λ C y H2 hEX hy=>?_⟩
  ·refine ⟨_,rfl,rfl,_,rfl,?_⟩
   rcases ha with ⟨rfl,rfl,hn,hz,hno⟩ | ⟨r,rfl,⟨hd,ho⟩,hnf⟩
   ·refine zpr rfl ⟨rfl,_,rfl,hp,(lr,zs,H),⟨rfl,hlr,hn,hz,rfl⟩,λ u H2 hu s2 P2=>?_,λ C H2 hC s2 P2=>⟨by rw [hC.1],s2,P2⟩⟩
    obtain ⟨_,_,_,_,_,_,_,_,_,_,_,_,_,_,_,_,_,_,e⟩:=hu
    dsimp only at e
    rw [hno] at e
    cases e
   ·obtain ⟨t,vs,rfl,_⟩:=id hd
    exact zgk (by intro e;cases e) ⟨rfl,_,rfl,hp,(r,H),⟨_,rfl,⟨hd,ho⟩,rfl⟩,λ u H2 hu s2 P2=>absurd hu.1 hnf,λ C H2 hC s2 P2=>⟨by rw [hC.1],s2,P2⟩⟩
  ·obtain ⟨hC,s2,P2⟩:=hEX
   obtain rfl:C=A.NoText:=by cases hC;rfl
   refine ⟨T.x_NoText,T.m_nd,?_⟩
   refine ⟨_,rfl,?_⟩
   have S2:=s2.upd (s2.free hy) (o:=excO y A.NoText)
   have P3:Plain (upd H2 y (excO y A.NoText)):=P2.upd trivial
   refine ⟨_,rfl,_,_,_,_,_,rfl,upd_same,T.x_NoText,rfl,(by show (if (Value.ref _ == Value.ref _)=true then _ else _)=_;rw [if_pos (beq_self_eq_true _)]),true,rfl,iteF ?_⟩
   refine ⟨_,rfl,_,_,_,_,_,rfl,upd_same,T.x_NoText,rfl,T.kv,true,rfl,iteF ?_⟩
   refine ⟨_,rfl,(sz_3),λ tp htp=>?_⟩
   refine ⟨_,_,_,_,_,_,rfl,by rw [zta (zeb upd_same htp)];exact upd_same,T.x_NoText,upd_same,rfl,T.kt,_,rfl,q _ _ rfl (S2.trans (zba htp)) P3.tup⟩
theorem sc_q7:FnScope ["_law_record", "_law_rows_here", "_law_told", "_law_handed", "_law_found"] ["_law_record", "_law_rows_here"] (zha s_q7):=by walk_at "sc"
theorem zj4 (T:Txt w K mg A) (G_q0:zay P w K mg B A) (G_q27:zis P w K mg B A):zc2 P w K mg B A:=by
 have B_q0:=T.b_q0
 have B_q27:=T.b_q27
 refine T.F_q7.okN sc_q7 (λ vs H Q E h=>?_) (λ _ _ _ _ H vs Q E hr h=>?_)
 ·obtain ⟨_,a,⟨x,rfl,_⟩,_⟩:=h
  rfl
 ·obtain ⟨hp,⟨r,lr⟩,⟨x,hv,⟨hd,ho⟩,hf,hlr⟩,q,_⟩:=h
  obtain rfl:vs=[x,.ref lr]:=hv
  dsimp only at hd ho hf hlr q
  refine ⟨_,(zca (zya (i:=2) sc_q7.nd rfl (Or.inl rfl) (zga G_q27 (hr.mono (by decide)) rfl T.g_q27 T.k_q27 B_q27 .nil zac (zaa (pv 0) zda)))
   (zca (zya (i:=3) sc_q7.nd rfl (Or.inl rfl) (zza zse rfl T.n_list (by decide +kernel) (zaa (pv 1) zda)))
   (zca (zya (i:=4) sc_q7.nd rfl (Or.inl rfl) (zga G_q0 (hr.mono (by decide)) rfl T.g_q0 T.k_q0 B_q0 .nil zac (zaa (pv 3) zda)))
   (zca (ztb (PW.pt (zjn (zna (zqk hr.units) (pv 2) (pv 1) (zva _)) (zjn (zna (zqk hr.units) (pv 4) (pv 0) (zva _)) (zcg (zna (zqk hr.units) (pv 3) (pv 1) (zva _)))))) (zfa (zoa zgv)) zpa)
   (zca (zid (zur PySem.F.plainAttrs_list PySem.F.slot_list_clear PySem.F.type_list_clear zhh (pv 2)))
   (zca (zid (zur PySem.F.plainAttrs_list PySem.F.slot_list_clear PySem.F.type_list_clear zhh (pv 3)))
   (zca (zid (zxi PySem.F.plainAttrs_list PySem.F.slot_list_append PySem.F.type_list_append zzd (zld zhd (pv 4) zea (λ _ _=>rfl)) (zaa (zsa (zaa (zsa (zaa zea (zaa zea zda))) (zaa (zsa (zaa zea (zaa (zsa zda) (zaa zla zda)))) zda))) zda)))
   (zca (zid (zur PySem.F.plainAttrs_list PySem.F.slot_list_clear PySem.F.type_list_clear zhh (zld zhd (pv 4) zea (λ _ _=>rfl))))
   (zfa (zoa (ziv (zgf (zkl hr.units) (zga G_q27 (hr.mono (by decide)) rfl T.g_q27 T.k_q27 B_q27 .nil zac (zaa (pv 0) zda)) (pv 1) (zva _)) (zev (zgf (zkl hr.units) (zga G_q0 (hr.mono (by decide)) rfl T.g_q0 T.k_q0 B_q0 .nil zac (zaa (zza zse rfl T.n_list (by decide +kernel) (zaa (pv 1) zda)) zda)) (pv 0) (zva _)))))))))))))),?_⟩
  have hbk:zuh (zrd r)=some (brD r):=by
   rcases zqi ho with h | h
   ·exact h.2
   ·exact absurd hf h.1
  have shp:=zho ho
  have okz:=zzl ho
  have few:=zkf ho
  have okt:∀ z∈zrd r,PyData.strOk z=true:=λ z h=>(okz z h).2
  have shr:=zhb okt
  refine ⟨_,rfl,hp,(r,H),⟨_,rfl,⟨hd,ho⟩,rfl⟩,λ v H1 hv s1 P1=>?_,λ C H1 hC s1 P1=>(hC.2 hf).elim⟩
  obtain ⟨_,lt,rfl,hlt,flt⟩:=hv
  dsimp only at flt
  refine ⟨_,rfl,lr,_,rfl,.inl (SqL.of (s1 _ _ hlr)),λ lh hp2=>?_⟩
  have fh:H lh=none:=s1.free hp2
  generalize hH2:upd H1 lh (HO.lst _)=H2
  have s2:Same H1 H2:=hH2 ▸ zba hp2
  have P2:Plain H2:=hH2 ▸ P1.lst
  have h2:=(congrFun hH2 lh).symm.trans upd_same
  refine ⟨_,rfl,P2,(lh,zrd r,H2),⟨rfl,SqL.of h2,few,okz,rfl⟩,λ v H3 hv s3 P3=>?_,λ C H3 hC s3 P3=>?_⟩
  case refine_2 =>
   have:=hC.2
   dsimp only at this
   rw [hbk] at this
   cases this
  obtain ⟨t,x0,l1,l2,u1,u2,d0,d1,d2,rfl,hqt,hl1,hl2,f1,f2,g0,g1,g2,e⟩:=hv
  dsimp only at f1 f2 e
  rw [hbk] at e
  have S3:=(s1.trans s2).trans s3
  obtain ⟨rfl,rfl,rfl⟩:d0=hdD r∧d1=r.ps.map prD∧d2=r.cs.map prD:=by
   simp only [brD,Option.some.injEq,PyData.tuple.injEq,List.cons.injEq,PyData.list.injEq,and_true] at e
   exact ⟨e.1.symm,e.2.1.symm,e.2.2.symm⟩
  have hfd:DV K H3 (brD r) (.ref t):=⟨t,_,rfl,hqt,_,_,rfl,g0,_,_,rfl,⟨l1,u1,rfl,SqL.of hl1,g1⟩,_,_,rfl,⟨l2,u2,rfl,SqL.of hl2,g2⟩,rfl⟩
  have hrd:=DV.same S3 _ _ hd
  have hlt3:=(s2.trans s3) _ _ hlt
  have hlr3:=S3 _ _ hlr
  have hlh3:=s3 _ _ h2
  have rf:∀ d,SeqAt.shaped d=true→PyData.eqv d d=true:=λ d h=>SeqAt.eqv_refl d (SeqAt.canLay_of_shaped h)
  refine ⟨_,rfl,_,rfl,.list ((zrd r).map PyData.str),.list ((zrd r).map PyData.str),⟨lt,_,rfl,SqL.of hlt3,zlb _⟩,⟨lr,_,rfl,SqL.of hlr3,zlb _⟩,shr,shr,_,rfl,?_⟩
  rw [rf _ shr]
  refine iteF ⟨_,rfl,_,rfl,brD r,brD r,hfd,hrd,shp,shp,_,rfl,?_⟩
  rw [rf _ shp]
  refine iteF ⟨_,rfl,_,rfl,.list ((zrd r).map PyData.str),.list ((zrd r).map PyData.str),⟨lh,_,rfl,SqL.of hlh3,zlb _⟩,⟨lr,_,rfl,SqL.of hlr3,zlb _⟩,shr,shr,_,rfl,?_⟩
  rw [rf _ shr]
  refine iteF ?_
  have n1:lh≠lt:=λ e=>by subst e;rw [hlt] at hp2;cases hp2
  have m1:l1≠lt:=λ e=>by subst e;rw [s2 _ _ hlt] at f1;cases f1
  have m2:l1≠lh:=λ e=>by subst e;rw [h2] at f1;cases f1
  have k1:l2≠lt:=λ e=>by subst e;rw [s2 _ _ hlt] at f2;cases f2
  have k2:l2≠lh:=λ e=>by subst e;rw [h2] at f2;cases f2
  have q1:H l1=none:=(s1.trans s2).free f1
  have q2:H l2=none:=(s1.trans s2).free f2
  refine ⟨_,rfl,.inl ⟨rfl,_,SqL.of hlt3⟩,lt,_,rfl,rfl,hlt3,?_⟩
  have S4:Same H (upd H3 lt (.lst [])):=S3.upd flt
  have P4:Plain (upd H3 lt (.lst [])):=P3.lst
  have t4:=zed (o' := .lst []) hlt3 (zbj _) hqt
  have h4:(upd H3 lt (.lst [])) lh=some (.lst ((zrd r).map V.str)):=(zta n1).trans hlh3
  have l14:(upd H3 lt (.lst [])) l1=some (.lst u1):=(zta m1).trans hl1
  have l24:(upd H3 lt (.lst [])) l2=some (.lst u2):=(zta k1).trans hl2
  generalize upd H3 lt (.lst [])=H4 at S4 P4 t4 h4 l14 l24 ⊢
  refine ⟨_,rfl,.inl ⟨rfl,_,SqL.of h4⟩,lh,_,rfl,rfl,h4,?_⟩
  have S5:Same H (upd H4 lh (.lst [])):=S4.upd fh
  have P5:Plain (upd H4 lh (.lst [])):=P4.lst
  have t5:=zed (o' := .lst []) h4 (zbj _) t4
  have l15:(upd H4 lh (.lst [])) l1=some (.lst u1):=(zta m2).trans l14
  have l25:(upd H4 lh (.lst [])) l2=some (.lst u2):=(zta k2).trans l24
  generalize upd H4 lh (.lst [])=H5 at S5 P5 t5 l15 l25 ⊢
  have u1l:u1.length≤6:=by rw [g1.length,List.length_map];exact ho.pn
  refine ⟨_,rfl,t,_,_,.ref l1,rfl,rfl,t5,at1,.inl ⟨rfl,_,SqL.of l15⟩,sz_2,λ ta hp6=>?_⟩
  generalize hH6:upd H5 ta (HO.tup _)=H6
  have s6:Same H5 H6:=hH6 ▸ zba hp6
  have P6:Plain H6:=hH6 ▸ P5.tup
  have h6:=(congrFun hH6 ta).symm.trans upd_same
  refine ⟨sz_0,λ tb hp7=>?_⟩
  generalize hH7:upd H6 tb (HO.tup _)=H7
  have s7:Same H6 H7:=hH7 ▸ zba hp7
  have P7:Plain H7:=hH7 ▸ P6.tup
  have h7:=(congrFun hH7 tb).symm.trans upd_same
  refine ⟨sz_3,λ tc hp8=>?_⟩
  generalize hH8:upd H7 tc (HO.tup _)=H8
  have s8:Same H7 H8:=hH8 ▸ zba hp8
  have P8:Plain H8:=hH8 ▸ P7.tup
  have h8:=(congrFun hH8 tc).symm.trans upd_same
  refine ⟨sz_2,λ td hp9=>?_⟩
  generalize hH9:upd H8 td (HO.tup _)=H9
  have s9:Same H8 H9:=hH9 ▸ zba hp9
  have P9:Plain H9:=hH9 ▸ P8.tup
  have h9:=(congrFun hH9 td).symm.trans upd_same
  have S59:=((s6.trans s7).trans s8).trans s9
  have l19:=S59 _ _ l15
  refine ⟨l1,u1,_,rfl,rfl,l19,zyd (by omega),?_⟩
  have t9:=zed (o' := .lst (u1++[V.ref td])) l19 (zbj _) (S59.seqT t5)
  have Sa:Same H (upd H9 l1 (.lst (u1++[V.ref td]))):=(S5.trans S59).upd q1
  have Pa:Plain (upd H9 l1 (.lst (u1++[V.ref td]))):=P9.lst
  obtain ⟨ux,l2a⟩:∃ ux,(upd H9 l1 (.lst (u1++[V.ref td]))) l2=some (.lst ux):=by
   by_cases e:l2=l1
   ·rw [e]
    exact ⟨_,upd_same⟩
   ·exact ⟨u2,(zta e).trans (S59 _ _ l25)⟩
  generalize upd H9 l1 (.lst (u1++[V.ref td]))=Ha at Sa Pa t9 l2a ⊢
  refine ⟨_,rfl,t,_,_,.ref l2,rfl,rfl,t9,at2,.inl ⟨rfl,_,SqL.of l2a⟩,l2,_,rfl,rfl,l2a,?_⟩
  have Sb:Same H (upd Ha l2 (.lst [])):=Sa.upd q2
  have Pb:Plain (upd Ha l2 (.lst [])):=Pa.lst
  generalize upd Ha l2 (.lst [])=Hb at Sb Pb ⊢
  have hdb:=DV.same Sb _ _ hd
  refine ⟨_,rfl,Pb,(r,Hb),⟨_,rfl,⟨hdb,ho⟩,rfl⟩,λ v Hc hv sc Pc=>?_,λ C H1 hC s1 P1=>(hC.2 hf).elim⟩
  obtain ⟨_,lx,rfl,hlx,_⟩:=hv
  have Sc:=Sb.trans sc
  have hlrc:=Sc _ _ hlr
  refine ⟨_,rfl,.list ((zrd r).map PyData.str),.list ((zrd r).map PyData.str),⟨lx,_,rfl,SqL.of hlx,zlb _⟩,⟨lr,_,rfl,SqL.of hlrc,zlb _⟩,shr,shr,_,rfl,?_⟩
  rw [rf _ shr]
  refine iteT ⟨_,rfl,lr,_,rfl,.inl (SqL.of hlrc),λ ly hpd=>?_⟩
  generalize hHd:upd Hc ly (HO.lst _)=Hd
  have sd:Same Hc Hd:=hHd ▸ zba hpd
  have Pd:Plain Hd:=hHd ▸ Pc.lst
  have hd':=(congrFun hHd ly).symm.trans upd_same
  refine ⟨Pd,(ly,zrd r,Hd),⟨rfl,SqL.of hd',few,okz,rfl⟩,λ v He hv se Pe=>?_,λ C He hC se Pe=>?_⟩
  case refine_2 =>
   have:=hC.2
   dsimp only at this
   rw [hbk] at this
   cases this
  obtain ⟨t',x0',l1',l2',u1',u2',d0',d1',d2',rfl,hqt',hl1',hl2',_,_,g0',g1',g2',e'⟩:=hv
  dsimp only at e'
  rw [hbk] at e'
  obtain ⟨rfl,rfl,rfl⟩:d0'=hdD r∧d1'=r.ps.map prD∧d2'=r.cs.map prD:=by
   simp only [brD,Option.some.injEq,PyData.tuple.injEq,List.cons.injEq,PyData.list.injEq,and_true] at e'
   exact ⟨e'.1.symm,e'.2.1.symm,e'.2.2.symm⟩
  have Se:=(Sc.trans sd).trans se
  refine ⟨_,rfl,brD r,brD r,⟨t',_,rfl,hqt',_,_,rfl,g0',_,_,rfl,⟨l1',u1',rfl,SqL.of hl1',g1'⟩,_,_,rfl,⟨l2',u2',rfl,SqL.of hl2',g2'⟩,rfl⟩,DV.same Se _ _ hd,shp,shp,q _ _ ?_ Se Pe⟩
  rw [rf _ shp]
theorem sc_q24:FnScope ["_law_cell", "_law_k", "_law_one", "_law_two", "_law_three", "_law_four"] ["_law_cell", "_law_k"] (zha zjx):=by walk_at "sc"
theorem zqx (T:Txt w K mg A)  : zit P w K mg B A:=by
 refine FnOk.pure (T.F_q24.okN sc_q24 (λ vs H Q E h=>?_) (λ _ _ _ _ H vs Q E hr h=>?_))
 ·obtain ⟨_,a,⟨rfl,_⟩,_⟩:=h
  rfl
 ·obtain ⟨hp,⟨c,k⟩,⟨hv,h0,h1⟩,q⟩:=h
  obtain rfl:vs=[.int c,.int k]:=hv
  dsimp only at h0 h1
  refine ⟨_,(zca (zya (i:=2) sc_q24.nd rfl (Or.inl rfl) (zqa zfd (zqa zfd (zqa znb (zqa zxd (zqa zfd (zqa znb (pv 0) zea) zea) zea) zea) (zqa zxd (zqa zxd (pv 1) (pv 1)) zea)) (pv 1)))
   (zca (zya (i:=3) sc_q24.nd rfl (Or.inl rfl) (zqa zra (zqa znb (zqa zxd (pv 2) zea) zea) zea))
   (zca (zya (i:=4) sc_q24.nd rfl (Or.inl rfl) (zqa zra (zqa znb (zqa zxd (pv 2) zea) zea) zea))
   (zca (zya (i:=5) sc_q24.nd rfl (Or.inl rfl) (zqa zra (zqa znb (zqa zfd (zqa zxd (pv 3) zea) (pv 2)) zea) zea))
   (zfa (zoa (zqa zfd (zqa zxd (zqa zfd (zqa zxd (pv 5) zea) (pv 4)) zea) (pv 3)))))))),?_⟩
  walk_at "rd"
  refine ⟨Or.inr ⟨by omega,by omega⟩,?_⟩
  walk_at "rd"
  exact q _ _ ⟨_,rfl⟩ (Same.refl _)
theorem sc_law:FnScope ["_law_script", "_law_k", "_law_cell", "_law_number_here", "_law_pieces", "_law_record", "_law_great_here"] ["_law_script"] (zha zzs):=by walk_at "sc"
theorem za0 (T:Txt w K mg A) (G_q23:zbu P w K mg B A) (G_q28:zvt P w K mg B A) (G_q25:zkw P w K mg B A) (G_q21:zmv P w K mg B A) (G_q1:zp2 P w K mg B A) (G_q7:zc2 P w K mg B A) (G_q24:zit P w K mg B A):zo0 P w K mg B A:=by
 have B_q23:=T.b_q23
 have B_q28:=T.b_q28
 have B_q25:=T.b_q25
 have B_q21:=T.b_q21
 have B_q1:=T.b_q1
 have B_q7:=T.b_q7
 have B_q24:=T.b_q24
 refine T.F_law.okN sc_law (λ vs H Q E h=>?_) (λ _ _ _ _ H vs Q E hr h=>?_)
 ·obtain ⟨a,ns,rfl,_⟩:=h
  rfl
 ·obtain ⟨a,ns,rfl,hS,hlen,kq,hP⟩:=h
  refine ⟨_,(zca (zcp PassesOwn.never rfl (zdt rfl T.n_enumerate (by decide +kernel) (zaa (zxb ztk (pv 0) zud (zpc zea)) zda)) (zyc rfl (zma (zka (i:=1) sc_law.nd rfl (Or.inl rfl)) (zma (zka (i:=2) sc_law.nd rfl (Or.inl rfl)) zqb))) (zca (zya (i:=3) sc_law.nd rfl (Or.inl rfl) (zqa zra (pv 2) zea))
   (zca (ztb (zna zvd (zqa znb (pv 2) zea) zea (zva _)) (zfa (zya (i:=3) sc_law.nd rfl (Or.inl rfl) (zga G_q24 (hr.mono (by decide)) rfl T.g_q24 T.k_q24 B_q24 .nil zac (zaa (pv 2) (zaa (pv 1) zda))))) zpa)
   (zca (zya (i:=4) sc_law.nd rfl (Or.inl rfl) (zga G_q23 (hr.mono (by decide)) rfl T.g_q23 T.k_q23 B_q23 .nil zac (zaa (zqa zra (pv 3) zea) (zaa (zqa znb (pv 3) zea) zda))))
   (zca (zya (i:=5) sc_law.nd rfl (Or.inl rfl) (zsa (zaa (zga G_q28 (hr.mono (by decide)) rfl T.g_q28 T.k_q28 B_q28 .nil zac (zaa (zqa zra (pv 3) zea) zda)) (zaa (pv 4) (zaa (zga G_q23 (hr.mono (by decide)) rfl T.g_q23 T.k_q23 B_q23 .nil zac (zaa (zqa zra (pv 3) zea) (zaa (zqa znb (zqa zra (pv 3) zea) zea) zda))) zda)))))
   (zca (ztb (zpf (zwe (zga G_q7 (hr.mono (by decide)) rfl T.g_q7 T.k_q7 B_q7 .nil zac (zaa (pv 5) (zaa (zga G_q25 (hr.mono (by decide)) rfl T.g_q25 T.k_q25 B_q25 .nil zac (zaa (pv 5) zda)) zda))))) (zfa (zoa zgv)) zpa)
   (zfa (ztb (zna zvd (zqa znb (zqa zra (pv 2) zea) zea) zea (zva _)) (zca (zya (i:=6) sc_law.nd rfl (Or.inl rfl) (zga G_q21 (hr.mono (by decide)) rfl T.g_q21 T.k_q21 B_q21 .nil zac (zaa (pv 5) (zaa (zqa zra (pv 3) zea) zda))))
   (zfa (ztb (PW.pt (zjn (zpf (zwe (zga G_q1 (hr.mono (by decide)) rfl T.g_q1 T.k_q1 B_q1 .nil zac (zaa (pv 6) (zaa (zzb zda) zda))))) (zcg (zpf (zwe (zga G_q1 (hr.mono (by decide)) rfl T.g_q1 T.k_q1 B_q1 .nil zac (zaa zyj (zaa (zga G_q25 (hr.mono (by decide)) rfl T.g_q25 T.k_q25 B_q25 .nil zac (zaa (pv 6) zda)) zda)))))))) (zfa (zoa zgv)) zpa))) zpa))))))))
   (zfa (zoa zgv))),?_⟩
  refine ⟨_,rfl,_,rfl,a,_,rfl,hS,λ p hp=>⟨p,rfl,⟨_,SqL.of upd_same⟩,?_⟩⟩
  refine zts (K:=K) (a:=p) (xs:=cutV (ns.map V.int) none (some 63)) (λ i σ H2=>∃ o1 o2 o3 o4 o5 o6,σ=[some (.ref a),o1,o2,o3,o4,o5,o6]∧Plain H2∧H2 p=some (.lst (cutV (ns.map V.int) none (some 63))))
   ⟨_,_,_,_,_,_,rfl,hP.lst,upd_same⟩ (λ i σ H2 _ ⟨_,_,_,_,_,_,_,_,e⟩=>SqL.of e) ?_ ?_
  ·rintro i x T' σ H2 hx ⟨o1,o2,o3,o4,o5,o6,rfl,hP2,hp2⟩ hT
   have hi:i<64:=by
    have h1:=(List.getElem?_eq_some_iff.mp hx).1
    have h2:=znd (ns.map V.int) none (some 63)
    rw [List.length_map] at h2
    omega
   obtain ⟨cell,rfl⟩:=zpu hx
   refine ⟨T',_,rfl,SqT.of upd_same,rfl,_,_,rfl,_,_,rfl,rfl,?_⟩
   have PT:Plain (upd H2 T' (.tup [.int i,.int cell])):=hP2.tup
   have hpT:(upd H2 T' (.tup [.int i,.int cell])) p=some (.lst (cutV (ns.map V.int) none (some 63))):=(zba hT) _ _ hp2
   generalize upd H2 T' (.tup [.int i,.int cell])=H3 at PT hpT ⊢
   refine ⟨_,rfl,_,_,rfl,rfl,⟨by decide,by decide⟩,?_⟩
   apply join (α:=Int) (ok:=λ _=>True)
   ·intro R
    refine ⟨_,rfl,_,_,rfl,rfl,ip_2,rfl,_,rfl,zwc (λ _=>?_) (λ _=>?_)⟩
    ·refine ⟨_,rfl,_,rfl,PT,(cell,i),⟨rfl,by show (0:Int)≤i;omega,by show (i:Int)≤100;omega⟩,λ v hv=>?_⟩
     obtain ⟨N,rfl⟩:=hv
     exact R N trivial
    ·exact R (cell / 2) trivial
   intro N _
   refine ⟨_,rfl,_,_,rfl,rfl,⟨by decide,by decide⟩,_,rfl,_,_,rfl,rfl,ip_5,PT,(N / 23,N % 5),⟨rfl,by show 0≤N % 5;omega,by show N % 5≤4;omega⟩,λ vp H4 hv s4 P4=>?_,λ _ _ h=>h.elim⟩
   obtain ⟨ps,⟨lp,us,rfl,hlp,hus⟩,pok,pl⟩:=hv
   have hps:DV K H4 (.list (ps.map prD)) (.ref lp):=⟨lp,us,rfl,SqL.of hlp,hus⟩
   refine ⟨_,rfl,_,_,rfl,rfl,⟨by decide,by decide⟩,P4,N / 5,rfl,λ vh H5 hv s5 P5=>?_,λ _ _ h=>h.elim⟩
   obtain ⟨w0,fs,hh,⟨hw,hks,hbr⟩,hff⟩:=hv
   refine ⟨_,rfl,_,rfl,_,_,rfl,rfl,⟨by decide,by decide⟩,_,rfl,_,_,rfl,rfl,⟨by decide,by decide⟩,_,_,rfl,rfl,ip_4,P5,(N / 37,N / 5 % 4),⟨rfl,by show 0≤N / 5 % 4;omega,by show N / 5 % 4≤4;omega⟩,λ vc H6 hv s6 P6=>?_,λ _ _ h=>h.elim⟩
   obtain ⟨cs,⟨la,ws,rfl,hla,hws⟩,cok,cl⟩:=hv
   have hcs:DV K H6 (.list (cs.map prD)) (.ref la):=⟨la,ws,rfl,SqL.of hla,hws⟩
   refine ⟨sz_3,λ t7 hp7=>?_⟩
   generalize hH7:upd H6 t7 (HO.tup _)=H7
   have s7:Same H6 H7:=hH7 ▸ zba hp7
   have P7:Plain H7:=hH7 ▸ P6.tup
   have h7:=(congrFun hH7 t7).symm.trans upd_same
   have ho:BrOk ⟨w0,fs,ps,cs⟩:=⟨hw,hks,hbr,λ p h=>(pok p h).1,λ p h=>(cok p h).1,by show ps.length≤6;omega,by show cs.length≤6;omega⟩
   have hf:zke ⟨w0,fs,ps,cs⟩:=⟨hff,λ p h=>(pok p h).2,λ p h=>(cok p h).2⟩
   have hd:DV K H7 (brD ⟨w0,fs,ps,cs⟩) (.ref t7):=⟨t7,_,rfl,SqT.of h7,_,_,rfl,DV.same (s6.trans s7) _ _ hh,_,_,rfl,DV.same ((s5.trans s6).trans s7) _ _ hps,_,_,rfl,DV.same s7 _ _ hcs,rfl⟩
   refine ⟨_,rfl,_,rfl,P7,⟨w0,fs,ps,cs⟩,⟨_,rfl,⟨hd,ho⟩⟩,λ v' H8 hv s8 P8=>?_,λ _ _ h=>h.elim⟩
   obtain ⟨lr,rfl,hlr⟩:=hv
   have hd8:=DV.same s8 _ _ hd
   refine ⟨P8,(⟨w0,fs,ps,cs⟩,lr),⟨_,rfl,⟨hd8,ho⟩,hf,hlr⟩,λ v' H9 hv s9 P9=>⟨true,hv,iteF ?_⟩,λ _ _ h=>h.elim⟩
   have S39:Same H3 H9:=((((s4.trans s5).trans s6).trans s7).trans s8).trans s9
   refine ⟨_,rfl,_,_,rfl,rfl,⟨by decide,by decide⟩,_,_,rfl,rfl,ip_8,rfl,_,rfl,zwc (λ _=>?_) (λ _=>?_)⟩
   ·refine ⟨_,rfl,_,rfl,_,_,rfl,rfl,⟨by decide,by decide⟩,P9,(⟨w0,fs,ps,cs⟩,N / 41),⟨_,rfl,⟨⟨t7,vh,lp,la,us,ws,rfl,(s8.trans s9).seqT (SqT.of h7),DV.same (((s6.trans s7).trans s8).trans s9) _ _ hh,((((s5.trans s6).trans s7).trans s8).trans s9) _ _ hlp,DVs.same ((((s5.trans s6).trans s7).trans s8).trans s9) _ _ hus,((s7.trans s8).trans s9) _ _ hla,DVs.same ((s7.trans s8).trans s9) _ _ hws⟩,ho⟩,pl,cl⟩,λ v' Ha hv sa Pa=>?_,λ _ _ h=>h.elim⟩
    obtain ⟨r2,⟨hd2,ho2⟩,hnf⟩:=hv
    refine ⟨_,rfl,sz_0,λ le hpe=>?_⟩
    refine ⟨Pa.lst,(some r2,le,[]),⟨_,rfl,SqL.of upd_same,.inr ⟨r2,rfl,⟨DV.same (zba hpe) _ _ hd2,ho2⟩,hnf⟩⟩,λ v' Hb hv sb Pb=>⟨true,hv,iteF ?_⟩,λ _ _ h=>h.elim⟩
    have sab:=(zba hpe).trans sb
    refine ⟨_,rfl,Pb,r2,⟨_,rfl,⟨DV.same sab _ _ hd2,ho2⟩⟩,λ v' Hc hv sc Pc=>?_,λ _ _ h=>h.elim⟩
    obtain ⟨lg,rfl,hlg⟩:=hv
    have rn:zuh (zrd r2)=none:=by
     rcases zqi ho2 with h | h
     ·exact absurd h.1 hnf
     ·exact h.2
    refine ⟨Pc,(none,lg,zrd r2),⟨_,rfl,SqL.of hlg,.inl ⟨rfl,rfl,zkf ho2,zzl ho2,rn⟩⟩,λ v' Hd hv sd Pd=>⟨true,hv,iteF ?_⟩,λ _ _ h=>h.elim⟩
    exact ⟨_,_,_,_,_,_,rfl,Pd,(S39.trans (((sa.trans sab).trans sc).trans sd)) _ _ hpT⟩
   ·exact ⟨_,_,_,_,_,_,rfl,P9,S39 _ _ hpT⟩
  ·rintro σ H2 ⟨o1,o2,o3,o4,o5,o6,rfl,hP2,hp2⟩
   exact kq _
end
theorem ln_1 {us:List Value} (h:us.length=1):∃ a0,us=[a0]:=match us,h with | [a0],_=>⟨a0,rfl⟩
theorem ln_2 {us:List Value} (h:us.length=2):∃ a0 a1,us=[a0,a1]:=match us,h with | [a0,a1],_=>⟨a0,a1,rfl⟩
theorem ln_3 {us:List Value} (h:us.length=3):∃ a0 a1 a2,us=[a0,a1,a2]:=match us,h with | [a0,a1,a2],_=>⟨a0,a1,a2,rfl⟩
set_option maxHeartbeats 0 in
theorem all_mk {l:W.OpenLaw} {w:World} {K:W.Frag} {h:Heap} {mg:Str→Option Value} {fa:Addr} (X:K.In h) (G:h.Ns mainGlobals mg) (hfa:mg "law" = some (.ref fa))
  {f_q34:Addr} {d_q34:FuncData}
  {f_q36:Addr} {d_q36:FuncData}
  {f_q11:Addr} {d_q11:FuncData}
  {f_q29:Addr} {d_q29:FuncData}
  {f_q12:Addr} {d_q12:FuncData}
  {f_q6:Addr} {d_q6:FuncData}
  {f_q31:Addr} {d_q31:FuncData}
  {f_q26:Addr} {d_q26:FuncData}
  {f_q19:Addr} {d_q19:FuncData}
  {f_q10:Addr} {d_q10:FuncData}
  {f_q4:Addr} {d_q4:FuncData}
  {f_q20:Addr} {d_q20:FuncData}
  {f_q9:Addr} {d_q9:FuncData}
  {f_q22:Addr} {d_q22:FuncData}
  {f_q32:Addr} {d_q32:FuncData}
  {f_q0:Addr} {d_q0:FuncData}
  {f_q13:Addr} {d_q13:FuncData}
  {f_q5:Addr} {d_q5:FuncData}
  {f_q30:Addr} {d_q30:FuncData}
  {f_q15:Addr} {d_q15:FuncData}
  {f_q37:Addr} {d_q37:FuncData}
  {f_q2:Addr} {d_q2:FuncData}
  {f_q16:Addr} {d_q16:FuncData}
  {f_q35:Addr} {d_q35:FuncData}
  {f_q27:Addr} {d_q27:FuncData}
  {f_q18:Addr} {d_q18:FuncData}
  {f_q8:Addr} {d_q8:FuncData}
  {f_q17:Addr} {d_q17:FuncData}
  {f_q3:Addr} {d_q3:FuncData}
  {f_q23:Addr} {d_q23:FuncData}
  {f_q28:Addr} {d_q28:FuncData}
  {f_q14:Addr} {d_q14:FuncData}
  {f_q33:Addr} {d_q33:FuncData}
  {f_q25:Addr} {d_q25:FuncData}
  {f_q21:Addr} {d_q21:FuncData}
  {f_q1:Addr} {d_q1:FuncData}
  {f_q7:Addr} {d_q7:FuncData}
  {f_q24:Addr} {d_q24:FuncData}
  {f_law:Addr} {d_law:FuncData}
  {t_END:Tok}
  {t_FIGURES:Tok}
  {t_HEAD_OF_ALL:Tok}
  {t_MOST_FIGURES:Tok}
  {t_OUT:Tok}
  {t_TOO_GREAT:Tok}
  {C_DraftError:Addr}
  {C_NoBuilt:Addr}
  {C_NoPaper:Addr}
  {C_NoRow:Addr}
  {C_NoText:Addr}
  {C_HEADS:Addr} {od_HEADS:Option Addr} {sl_HEADS:Array (Option Value)} {n_HEADS:Nat} {t0_HEADS t1_HEADS t2_HEADS:Tok}
  {C_CHOICES:Addr} {od_CHOICES:Option Addr} {sl_CHOICES:Array (Option Value)} {n_CHOICES:Nat} {t0_CHOICES t1_CHOICES t2_CHOICES:Tok}
  (a_q34:W.nsIn K mainGlobals "is_words" = some (some (.ref f_q34))) (F_q34:Fun K "is_words" "is_words" zx0 f_q34 d_q34)
  (a_q36:W.nsIn K mainGlobals "made_of" = some (some (.ref f_q36))) (F_q36:Fun K "made_of" "made_of" zb1 f_q36 d_q36)
  (a_q11:W.nsIn K mainGlobals "read_number" = some (some (.ref f_q11))) (F_q11:Fun K "read_number" "read_number" zu1 f_q11 d_q11)
  (a_q29:W.nsIn K mainGlobals "read_from" = some (some (.ref f_q29))) (F_q29:Fun K "read_from" "read_from" zaz f_q29 d_q29)
  (a_q12:W.nsIn K mainGlobals "check_maker" = some (some (.ref f_q12))) (F_q12:Fun K "check_maker" "check_maker" zzz f_q12 d_q12)
  (a_q6:W.nsIn K mainGlobals "read_dotted" = some (some (.ref f_q6))) (F_q6:Fun K "read_dotted" "read_dotted" s_q6 f_q6 d_q6)
  (a_q31:W.nsIn K mainGlobals "read_mark" = some (some (.ref f_q31))) (F_q31:Fun K "read_mark" "read_mark" za1 f_q31 d_q31)
  (a_q26:W.nsIn K mainGlobals "read_step" = some (some (.ref f_q26))) (F_q26:Fun K "read_step" "read_step" zd0 f_q26 d_q26)
  (a_q19:W.nsIn K mainGlobals "read_place" = some (some (.ref f_q19))) (F_q19:Fun K "read_place" "read_place" ztz f_q19 d_q19)
  (a_q10:W.nsIn K mainGlobals "out_version" = some (some (.ref f_q10))) (F_q10:Fun K "out_version" "out_version" zxy f_q10 d_q10)
  (a_q4:W.nsIn K mainGlobals "read_version" = some (some (.ref f_q4))) (F_q4:Fun K "read_version" "read_version" s_q4 f_q4 d_q4)
  (a_q20:W.nsIn K mainGlobals "read_words" = some (some (.ref f_q20))) (F_q20:Fun K "read_words" "read_words" zhx f_q20 d_q20)
  (a_q9:W.nsIn K mainGlobals "read_choice" = some (some (.ref f_q9))) (F_q9:Fun K "read_choice" "read_choice" s_q9 f_q9 d_q9)
  (a_q22:W.nsIn K mainGlobals "read_field" = some (some (.ref f_q22))) (F_q22:Fun K "read_field" "read_field" zvy f_q22 d_q22)
  (a_q32:W.nsIn K mainGlobals "read_row" = some (some (.ref f_q32))) (F_q32:Fun K "read_row" "read_row" zuy f_q32 d_q32)
  (a_q0:W.nsIn K mainGlobals "read_book_rows" = some (some (.ref f_q0))) (F_q0:Fun K "read_book_rows" "read_book_rows" s_q0 f_q0 d_q0)
  (a_q13:W.nsIn K mainGlobals "number_text" = some (some (.ref f_q13))) (F_q13:Fun K "number_text" "number_text" zjz f_q13 d_q13)
  (a_q5:W.nsIn K mainGlobals "dotted_text" = some (some (.ref f_q5))) (F_q5:Fun K "dotted_text" "dotted_text" s_q5 f_q5 d_q5)
  (a_q30:W.nsIn K mainGlobals "mark_text" = some (some (.ref f_q30))) (F_q30:Fun K "mark_text" "mark_text" zy0 f_q30 d_q30)
  (a_q15:W.nsIn K mainGlobals "place_text" = some (some (.ref f_q15))) (F_q15:Fun K "place_text" "place_text" zix f_q15 d_q15)
  (a_q37:W.nsIn K mainGlobals "is_in" = some (some (.ref f_q37))) (F_q37:Fun K "is_in" "is_in" zgz f_q37 d_q37)
  (a_q2:W.nsIn K mainGlobals "version_text" = some (some (.ref f_q2))) (F_q2:Fun K "version_text" "version_text" s_q2 f_q2 d_q2)
  (a_q16:W.nsIn K mainGlobals "field_text" = some (some (.ref f_q16))) (F_q16:Fun K "field_text" "field_text" zf1 f_q16 d_q16)
  (a_q35:W.nsIn K mainGlobals "row_text" = some (some (.ref f_q35))) (F_q35:Fun K "row_text" "row_text" zj0 f_q35 d_q35)
  (a_q27:W.nsIn K mainGlobals "book_rows" = some (some (.ref f_q27))) (F_q27:Fun K "book_rows" "book_rows" znz f_q27 d_q27)
  (a_q18:W.nsIn K mainGlobals "_law_words" = some (some (.ref f_q18))) (F_q18:Fun K "_law_words" "_law_words" zpz f_q18 d_q18)
  (a_q8:W.nsIn K mainGlobals "_law_number" = some (some (.ref f_q8))) (F_q8:Fun K "_law_number" "_law_number" s_q8 f_q8 d_q8)
  (a_q17:W.nsIn K mainGlobals "_law_place" = some (some (.ref f_q17))) (F_q17:Fun K "_law_place" "_law_place" zwz f_q17 d_q17)
  (a_q3:W.nsIn K mainGlobals "_law_version" = some (some (.ref f_q3))) (F_q3:Fun K "_law_version" "_law_version" s_q3 f_q3 d_q3)
  (a_q23:W.nsIn K mainGlobals "_law_pairs" = some (some (.ref f_q23))) (F_q23:Fun K "_law_pairs" "_law_pairs" zky f_q23 d_q23)
  (a_q28:W.nsIn K mainGlobals "_law_head" = some (some (.ref f_q28))) (F_q28:Fun K "_law_head" "_law_head" zlx f_q28 d_q28)
  (a_q14:W.nsIn K mainGlobals "_law_steps" = some (some (.ref f_q14))) (F_q14:Fun K "_law_steps" "_law_steps" zuz f_q14 d_q14)
  (a_q33:W.nsIn K mainGlobals "_law_row" = some (some (.ref f_q33))) (F_q33:Fun K "_law_row" "_law_row" zsz f_q33 d_q33)
  (a_q25:W.nsIn K mainGlobals "_law_rows" = some (some (.ref f_q25))) (F_q25:Fun K "_law_rows" "_law_rows" zr0 f_q25 d_q25)
  (a_q21:W.nsIn K mainGlobals "_law_great" = some (some (.ref f_q21))) (F_q21:Fun K "_law_great" "_law_great" ziz f_q21 d_q21)
  (a_q1:W.nsIn K mainGlobals "_law_refused" = some (some (.ref f_q1))) (F_q1:Fun K "_law_refused" "_law_refused" s_q1 f_q1 d_q1)
  (a_q7:W.nsIn K mainGlobals "_law_shared" = some (some (.ref f_q7))) (F_q7:Fun K "_law_shared" "_law_shared" s_q7 f_q7 d_q7)
  (a_q24:W.nsIn K mainGlobals "_law_mixed" = some (some (.ref f_q24))) (F_q24:Fun K "_law_mixed" "_law_mixed" zjx f_q24 d_q24)
  (a_law:W.nsIn K mainGlobals "law" = some (some (.ref f_law))) (F_law:Fun K "law" "law" zzs f_law d_law)
  (u_END:W.nsIn K mainGlobals "END" = some (some (.str "end" t_END)))
  (u_FIGURES:W.nsIn K mainGlobals "FIGURES" = some (some (.str "0123456789" t_FIGURES)))
  (u_HEAD_OF_ALL:W.nsIn K mainGlobals "HEAD_OF_ALL" = some (some (.str "-" t_HEAD_OF_ALL)))
  (u_MOST_FIGURES:W.nsIn K mainGlobals "MOST_FIGURES" = some (some (.int (30) t_MOST_FIGURES)))
  (u_OUT:W.nsIn K mainGlobals "OUT" = some (some (.str "-" t_OUT)))
  (u_TOO_GREAT:W.nsIn K mainGlobals "TOO_GREAT" = some (some (.int (1000000000000000000000000000000) t_TOO_GREAT)))
  (q_DraftError:W.nsIn K mainGlobals "DraftError" = some (some (.ref C_DraftError)))
  (x_DraftError:XCls K C_DraftError)
  (q_NoBuilt:W.nsIn K mainGlobals "NoBuilt" = some (some (.ref C_NoBuilt)))
  (x_NoBuilt:XCls K C_NoBuilt)
  (q_NoPaper:W.nsIn K mainGlobals "NoPaper" = some (some (.ref C_NoPaper)))
  (x_NoPaper:XCls K C_NoPaper)
  (q_NoRow:W.nsIn K mainGlobals "NoRow" = some (some (.ref C_NoRow)))
  (x_NoRow:XCls K C_NoRow)
  (q_NoText:W.nsIn K mainGlobals "NoText" = some (some (.ref C_NoText)))
  (x_NoText:XCls K C_NoText)
  (g_HEADS:W.nsIn K mainGlobals "HEADS" = some (some (.ref C_HEADS))) (t_HEADS:K.lookup C_HEADS=some ⟨.type "tuple",od_HEADS,.seq #[.str "save" t0_HEADS,.str "back" t1_HEADS,.str "settle" t2_HEADS] n_HEADS,sl_HEADS⟩)
  (g_CHOICES:W.nsIn K mainGlobals "CHOICES" = some (some (.ref C_CHOICES))) (t_CHOICES:K.lookup C_CHOICES=some ⟨.type "tuple",od_CHOICES,.seq #[.str "stay" t0_CHOICES,.str "turn" t1_CHOICES,.str "both" t2_CHOICES] n_CHOICES,sl_CHOICES⟩)
  {C_SHAPES:Addr} {es_SHAPES:Array DictEntry} {ep_SHAPES:Nat} {v_SHAPES_begin:Addr} {v_SHAPES_put:Addr} {v_SHAPES_take:Addr} {v_SHAPES_move:Addr} {v_SHAPES_write:Addr} {v_SHAPES_part:Addr} {v_SHAPES_join:Addr} {v_SHAPES_carry:Addr} {v_SHAPES_undo:Addr} {v_SHAPES_again:Addr} {v_SHAPES_reload:Addr} {v_SHAPES_save:Addr} {v_SHAPES_back:Addr} {v_SHAPES_settle:Addr} {v_SHAPES_piece:Addr} {v_SHAPES_clash:Addr} (g_SHAPES:W.nsIn K mainGlobals "SHAPES" = some (some (.ref C_SHAPES))) (y_SHAPES:(C_SHAPES == sysModules)=false) (t_SHAPES:K.lookup C_SHAPES=some ⟨.type "dict",none,.dict es_SHAPES ep_SHAPES, #[]⟩) (e_SHAPES:EntK w es_SHAPES.toList [("begin",.ref v_SHAPES_begin),("put",.ref v_SHAPES_put),("take",.ref v_SHAPES_take),("move",.ref v_SHAPES_move),("write",.ref v_SHAPES_write),("part",.ref v_SHAPES_part),("join",.ref v_SHAPES_join),("carry",.ref v_SHAPES_carry),("undo",.ref v_SHAPES_undo),("again",.ref v_SHAPES_again),("reload",.ref v_SHAPES_reload),("save",.ref v_SHAPES_save),("back",.ref v_SHAPES_back),("settle",.ref v_SHAPES_settle),("piece",.ref v_SHAPES_piece),("clash",.ref v_SHAPES_clash)])
  {od_SHAPES_begin:Option Addr} {sl_SHAPES_begin:Array (Option Value)} {n_SHAPES_begin:Nat} {t0_SHAPES_begin t1_SHAPES_begin t2_SHAPES_begin:Tok} (q_SHAPES_begin:K.lookup v_SHAPES_begin=some ⟨.type "tuple",od_SHAPES_begin,.seq #[.str "beat" t0_SHAPES_begin,.str "window" t1_SHAPES_begin,.str "save" t2_SHAPES_begin] n_SHAPES_begin,sl_SHAPES_begin⟩)
  {od_SHAPES_put:Option Addr} {sl_SHAPES_put:Array (Option Value)} {n_SHAPES_put:Nat} {t0_SHAPES_put t1_SHAPES_put t2_SHAPES_put:Tok} (q_SHAPES_put:K.lookup v_SHAPES_put=some ⟨.type "tuple",od_SHAPES_put,.seq #[.str "beat" t0_SHAPES_put,.str "behind" t1_SHAPES_put,.str "words" t2_SHAPES_put] n_SHAPES_put,sl_SHAPES_put⟩)
  {od_SHAPES_take:Option Addr} {sl_SHAPES_take:Array (Option Value)} {n_SHAPES_take:Nat} {t0_SHAPES_take t1_SHAPES_take:Tok} (q_SHAPES_take:K.lookup v_SHAPES_take=some ⟨.type "tuple",od_SHAPES_take,.seq #[.str "beat" t0_SHAPES_take,.str "mark" t1_SHAPES_take] n_SHAPES_take,sl_SHAPES_take⟩)
  {od_SHAPES_move:Option Addr} {sl_SHAPES_move:Array (Option Value)} {n_SHAPES_move:Nat} {t0_SHAPES_move t1_SHAPES_move t2_SHAPES_move:Tok} (q_SHAPES_move:K.lookup v_SHAPES_move=some ⟨.type "tuple",od_SHAPES_move,.seq #[.str "beat" t0_SHAPES_move,.str "mark" t1_SHAPES_move,.str "behind" t2_SHAPES_move] n_SHAPES_move,sl_SHAPES_move⟩)
  {od_SHAPES_write:Option Addr} {sl_SHAPES_write:Array (Option Value)} {n_SHAPES_write:Nat} {t0_SHAPES_write t1_SHAPES_write t2_SHAPES_write:Tok} (q_SHAPES_write:K.lookup v_SHAPES_write=some ⟨.type "tuple",od_SHAPES_write,.seq #[.str "beat" t0_SHAPES_write,.str "mark" t1_SHAPES_write,.str "words" t2_SHAPES_write] n_SHAPES_write,sl_SHAPES_write⟩)
  {od_SHAPES_part:Option Addr} {sl_SHAPES_part:Array (Option Value)} {n_SHAPES_part:Nat} {t0_SHAPES_part t1_SHAPES_part t2_SHAPES_part:Tok} (q_SHAPES_part:K.lookup v_SHAPES_part=some ⟨.type "tuple",od_SHAPES_part,.seq #[.str "beat" t0_SHAPES_part,.str "mark" t1_SHAPES_part,.str "many" t2_SHAPES_part] n_SHAPES_part,sl_SHAPES_part⟩)
  {od_SHAPES_join:Option Addr} {sl_SHAPES_join:Array (Option Value)} {n_SHAPES_join:Nat} {t0_SHAPES_join t1_SHAPES_join:Tok} (q_SHAPES_join:K.lookup v_SHAPES_join=some ⟨.type "tuple",od_SHAPES_join,.seq #[.str "beat" t0_SHAPES_join,.str "mark" t1_SHAPES_join] n_SHAPES_join,sl_SHAPES_join⟩)
  {od_SHAPES_carry:Option Addr} {sl_SHAPES_carry:Array (Option Value)} {n_SHAPES_carry:Nat} {t0_SHAPES_carry t1_SHAPES_carry t2_SHAPES_carry t3_SHAPES_carry:Tok} (q_SHAPES_carry:K.lookup v_SHAPES_carry=some ⟨.type "tuple",od_SHAPES_carry,.seq #[.str "beat" t0_SHAPES_carry,.str "mark" t1_SHAPES_carry,.str "mark" t2_SHAPES_carry,.str "behind" t3_SHAPES_carry] n_SHAPES_carry,sl_SHAPES_carry⟩)
  {od_SHAPES_undo:Option Addr} {sl_SHAPES_undo:Array (Option Value)} {n_SHAPES_undo:Nat} {t0_SHAPES_undo:Tok} (q_SHAPES_undo:K.lookup v_SHAPES_undo=some ⟨.type "tuple",od_SHAPES_undo,.seq #[.str "beat" t0_SHAPES_undo] n_SHAPES_undo,sl_SHAPES_undo⟩)
  {od_SHAPES_again:Option Addr} {sl_SHAPES_again:Array (Option Value)} {n_SHAPES_again:Nat} {t0_SHAPES_again:Tok} (q_SHAPES_again:K.lookup v_SHAPES_again=some ⟨.type "tuple",od_SHAPES_again,.seq #[.str "beat" t0_SHAPES_again] n_SHAPES_again,sl_SHAPES_again⟩)
  {od_SHAPES_reload:Option Addr} {sl_SHAPES_reload:Array (Option Value)} {n_SHAPES_reload:Nat} {t0_SHAPES_reload t1_SHAPES_reload:Tok} (q_SHAPES_reload:K.lookup v_SHAPES_reload=some ⟨.type "tuple",od_SHAPES_reload,.seq #[.str "beat" t0_SHAPES_reload,.str "save" t1_SHAPES_reload] n_SHAPES_reload,sl_SHAPES_reload⟩)
  {od_SHAPES_save:Option Addr} {sl_SHAPES_save:Array (Option Value)} {n_SHAPES_save:Nat} {t0_SHAPES_save t1_SHAPES_save t2_SHAPES_save:Tok} (q_SHAPES_save:K.lookup v_SHAPES_save=some ⟨.type "tuple",od_SHAPES_save,.seq #[.str "beat" t0_SHAPES_save,.str "window" t1_SHAPES_save,.str "count" t2_SHAPES_save] n_SHAPES_save,sl_SHAPES_save⟩)
  {od_SHAPES_back:Option Addr} {sl_SHAPES_back:Array (Option Value)} {n_SHAPES_back:Nat} {t0_SHAPES_back t1_SHAPES_back:Tok} (q_SHAPES_back:K.lookup v_SHAPES_back=some ⟨.type "tuple",od_SHAPES_back,.seq #[.str "beat" t0_SHAPES_back,.str "save" t1_SHAPES_back] n_SHAPES_back,sl_SHAPES_back⟩)
  {od_SHAPES_settle:Option Addr} {sl_SHAPES_settle:Array (Option Value)} {n_SHAPES_settle:Nat} {t0_SHAPES_settle t1_SHAPES_settle t2_SHAPES_settle:Tok} (q_SHAPES_settle:K.lookup v_SHAPES_settle=some ⟨.type "tuple",od_SHAPES_settle,.seq #[.str "beat" t0_SHAPES_settle,.str "clash" t1_SHAPES_settle,.str "choice" t2_SHAPES_settle] n_SHAPES_settle,sl_SHAPES_settle⟩)
  {od_SHAPES_piece:Option Addr} {sl_SHAPES_piece:Array (Option Value)} {n_SHAPES_piece:Nat} {t0_SHAPES_piece t1_SHAPES_piece:Tok} (q_SHAPES_piece:K.lookup v_SHAPES_piece=some ⟨.type "tuple",od_SHAPES_piece,.seq #[.str "mark" t0_SHAPES_piece,.str "version" t1_SHAPES_piece] n_SHAPES_piece,sl_SHAPES_piece⟩)
  {od_SHAPES_clash:Option Addr} {sl_SHAPES_clash:Array (Option Value)} {n_SHAPES_clash:Nat} {t0_SHAPES_clash t1_SHAPES_clash:Tok} (q_SHAPES_clash:K.lookup v_SHAPES_clash=some ⟨.type "tuple",od_SHAPES_clash,.seq #[.str "mark" t0_SHAPES_clash,.str "version" t1_SHAPES_clash] n_SHAPES_clash,sl_SHAPES_clash⟩)
  {C_LEAST:Addr} {es_LEAST:Array DictEntry} {ep_LEAST:Nat} {v_LEAST_beat:Tok} {v_LEAST_window:Tok} {v_LEAST_clash:Tok} {v_LEAST_save:Tok} {v_LEAST_count:Tok} (g_LEAST:W.nsIn K mainGlobals "LEAST" = some (some (.ref C_LEAST))) (y_LEAST:(C_LEAST == sysModules)=false) (t_LEAST:K.lookup C_LEAST=some ⟨.type "dict",none,.dict es_LEAST ep_LEAST, #[]⟩) (e_LEAST:EntK w es_LEAST.toList [("beat",.int 1 v_LEAST_beat),("window",.int 1 v_LEAST_window),("clash",.int 1 v_LEAST_clash),("save",.int 0 v_LEAST_save),("count",.int 0 v_LEAST_count)])
  (m_nd:W.mroIn K C_NoText (.ref C_DraftError)=some true)
  (kv:W.kitOne K (.ref C_NoText) (.type "ValueError")=some true)
  (kt:W.kitAny K (.ref C_NoText) [.ref C_NoBuilt,.ref C_NoPaper,.ref C_NoRow]=some false)
  (n_ValueError:W.nsIn K mainGlobals "ValueError" = some none)
  (n_abs:W.nsIn K mainGlobals "abs" = some none)
  (n_all:W.nsIn K mainGlobals "all" = some none)
  (n_enumerate:W.nsIn K mainGlobals "enumerate" = some none)
  (n_int:W.nsIn K mainGlobals "int" = some none)
  (n_isinstance:W.nsIn K mainGlobals "isinstance" = some none)
  (n_len:W.nsIn K mainGlobals "len" = some none)
  (n_list:W.nsIn K mainGlobals "list" = some none)
  (n_range:W.nsIn K mainGlobals "range" = some none)
  (n_sorted:W.nsIn K mainGlobals "sorted" = some none)
  (n_str:W.nsIn K mainGlobals "str" = some none)
  (n_tuple:W.nsIn K mainGlobals "tuple" = some none)
  (n_zip:W.nsIn K mainGlobals "zip" = some none)
  : ∃ fd:FuncData,(∀ (s:Shared) (v:Value),BindsTo s fd ⟨[v],[]⟩ [("_law_script",v)])∧∀ B:Heap,K.In B→B.Ns mainGlobals mg→FnOk l.prog w K mg B (CX1 l.prog w B) 11 fa fd ["_law_script"] (sp_law K):=by
 have e:=hfa.symm.trans (W.mg_of X G a_law)
 cases e
 obtain ⟨oc_law,od_law,kV_law,dc_law,pm_law,an_law,cd_law,ct_law,sl_law,rfl,l_law,c_law⟩:=id F_law.ex
 have T:Txt w K mg ⟨f_q34,d_q34,f_q36,d_q36,f_q11,d_q11,f_q29,d_q29,f_q12,d_q12,f_q6,d_q6,f_q31,d_q31,f_q26,d_q26,f_q19,d_q19,f_q10,d_q10,f_q4,d_q4,f_q20,d_q20,f_q9,d_q9,f_q22,d_q22,f_q32,d_q32,f_q0,d_q0,f_q13,d_q13,f_q5,d_q5,f_q30,d_q30,f_q15,d_q15,f_q37,d_q37,f_q2,d_q2,f_q16,d_q16,f_q35,d_q35,f_q27,d_q27,f_q18,d_q18,f_q8,d_q8,f_q17,d_q17,f_q3,d_q3,f_q23,d_q23,f_q28,d_q28,f_q14,d_q14,f_q33,d_q33,f_q25,d_q25,f_q21,d_q21,f_q1,d_q1,f_q7,d_q7,f_q24,d_q24,fa,_,C_DraftError,C_NoBuilt,C_NoPaper,C_NoRow,C_NoText,C_HEADS,C_CHOICES,C_SHAPES,v_SHAPES_begin,v_SHAPES_put,v_SHAPES_take,v_SHAPES_move,v_SHAPES_write,v_SHAPES_part,v_SHAPES_join,v_SHAPES_carry,v_SHAPES_undo,v_SHAPES_again,v_SHAPES_reload,v_SHAPES_save,v_SHAPES_back,v_SHAPES_settle,v_SHAPES_piece,v_SHAPES_clash,C_LEAST,v_LEAST_beat,v_LEAST_window,v_LEAST_clash,v_LEAST_save,v_LEAST_count⟩:=⟨F_q34,(W.mg_of X G a_q34),F_q34.kp,(F_q34.binds λ _ _ _ _ _ _ us hl=>by obtain ⟨a0,rfl⟩:=ln_1 hl;rfl),F_q36,(W.mg_of X G a_q36),F_q36.kp,(F_q36.binds λ _ _ _ _ _ _ us hl=>by obtain ⟨a0,a1,rfl⟩:=ln_2 hl;rfl),F_q11,(W.mg_of X G a_q11),F_q11.kp,(F_q11.binds λ _ _ _ _ _ _ us hl=>by obtain ⟨a0,rfl⟩:=ln_1 hl;rfl),F_q29,(W.mg_of X G a_q29),F_q29.kp,(F_q29.binds λ _ _ _ _ _ _ us hl=>by obtain ⟨a0,a1,rfl⟩:=ln_2 hl;rfl),F_q12,(W.mg_of X G a_q12),F_q12.kp,(F_q12.binds λ _ _ _ _ _ _ us hl=>by obtain ⟨a0,a1,rfl⟩:=ln_2 hl;rfl),F_q6,(W.mg_of X G a_q6),F_q6.kp,(F_q6.binds λ _ _ _ _ _ _ us hl=>by obtain ⟨a0,a1,rfl⟩:=ln_2 hl;rfl),F_q31,(W.mg_of X G a_q31),F_q31.kp,(F_q31.binds λ _ _ _ _ _ _ us hl=>by obtain ⟨a0,rfl⟩:=ln_1 hl;rfl),F_q26,(W.mg_of X G a_q26),F_q26.kp,(F_q26.binds λ _ _ _ _ _ _ us hl=>by obtain ⟨a0,rfl⟩:=ln_1 hl;rfl),F_q19,(W.mg_of X G a_q19),F_q19.kp,(F_q19.binds λ _ _ _ _ _ _ us hl=>by obtain ⟨a0,rfl⟩:=ln_1 hl;rfl),F_q10,(W.mg_of X G a_q10),F_q10.kp,(F_q10.binds λ _ _ _ _ _ _ us hl=>by obtain ⟨a0,rfl⟩:=ln_1 hl;rfl),F_q4,(W.mg_of X G a_q4),F_q4.kp,(F_q4.binds λ _ _ _ _ _ _ us hl=>by obtain ⟨a0,rfl⟩:=ln_1 hl;rfl),F_q20,(W.mg_of X G a_q20),F_q20.kp,(F_q20.binds λ _ _ _ _ _ _ us hl=>by obtain ⟨a0,rfl⟩:=ln_1 hl;rfl),F_q9,(W.mg_of X G a_q9),F_q9.kp,(F_q9.binds λ _ _ _ _ _ _ us hl=>by obtain ⟨a0,rfl⟩:=ln_1 hl;rfl),F_q22,(W.mg_of X G a_q22),F_q22.kp,(F_q22.binds λ _ _ _ _ _ _ us hl=>by obtain ⟨a0,a1,rfl⟩:=ln_2 hl;rfl),F_q32,(W.mg_of X G a_q32),F_q32.kp,(F_q32.binds λ _ _ _ _ _ _ us hl=>by obtain ⟨a0,rfl⟩:=ln_1 hl;rfl),F_q0,(W.mg_of X G a_q0),F_q0.kp,(F_q0.binds λ _ _ _ _ _ _ us hl=>by obtain ⟨a0,rfl⟩:=ln_1 hl;rfl),F_q13,(W.mg_of X G a_q13),F_q13.kp,(F_q13.binds λ _ _ _ _ _ _ us hl=>by obtain ⟨a0,rfl⟩:=ln_1 hl;rfl),F_q5,(W.mg_of X G a_q5),F_q5.kp,(F_q5.binds λ _ _ _ _ _ _ us hl=>by obtain ⟨a0,rfl⟩:=ln_1 hl;rfl),F_q30,(W.mg_of X G a_q30),F_q30.kp,(F_q30.binds λ _ _ _ _ _ _ us hl=>by obtain ⟨a0,rfl⟩:=ln_1 hl;rfl),F_q15,(W.mg_of X G a_q15),F_q15.kp,(F_q15.binds λ _ _ _ _ _ _ us hl=>by obtain ⟨a0,rfl⟩:=ln_1 hl;rfl),F_q37,(W.mg_of X G a_q37),F_q37.kp,(F_q37.binds λ _ _ _ _ _ _ us hl=>by obtain ⟨a0,rfl⟩:=ln_1 hl;rfl),F_q2,(W.mg_of X G a_q2),F_q2.kp,(F_q2.binds λ _ _ _ _ _ _ us hl=>by obtain ⟨a0,rfl⟩:=ln_1 hl;rfl),F_q16,(W.mg_of X G a_q16),F_q16.kp,(F_q16.binds λ _ _ _ _ _ _ us hl=>by obtain ⟨a0,a1,rfl⟩:=ln_2 hl;rfl),F_q35,(W.mg_of X G a_q35),F_q35.kp,(F_q35.binds λ _ _ _ _ _ _ us hl=>by obtain ⟨a0,a1,rfl⟩:=ln_2 hl;rfl),F_q27,(W.mg_of X G a_q27),F_q27.kp,(F_q27.binds λ _ _ _ _ _ _ us hl=>by obtain ⟨a0,rfl⟩:=ln_1 hl;rfl),F_q18,(W.mg_of X G a_q18),F_q18.kp,(F_q18.binds λ _ _ _ _ _ _ us hl=>by obtain ⟨a0,rfl⟩:=ln_1 hl;rfl),F_q8,(W.mg_of X G a_q8),F_q8.kp,(F_q8.binds λ _ _ _ _ _ _ us hl=>by obtain ⟨a0,a1,rfl⟩:=ln_2 hl;rfl),F_q17,(W.mg_of X G a_q17),F_q17.kp,(F_q17.binds λ _ _ _ _ _ _ us hl=>by obtain ⟨a0,rfl⟩:=ln_1 hl;rfl),F_q3,(W.mg_of X G a_q3),F_q3.kp,(F_q3.binds λ _ _ _ _ _ _ us hl=>by obtain ⟨a0,rfl⟩:=ln_1 hl;rfl),F_q23,(W.mg_of X G a_q23),F_q23.kp,(F_q23.binds λ _ _ _ _ _ _ us hl=>by obtain ⟨a0,a1,rfl⟩:=ln_2 hl;rfl),F_q28,(W.mg_of X G a_q28),F_q28.kp,(F_q28.binds λ _ _ _ _ _ _ us hl=>by obtain ⟨a0,rfl⟩:=ln_1 hl;rfl),F_q14,(W.mg_of X G a_q14),F_q14.kp,(F_q14.binds λ _ _ _ _ _ _ us hl=>by obtain ⟨a0,rfl⟩:=ln_1 hl;rfl),F_q33,(W.mg_of X G a_q33),F_q33.kp,(F_q33.binds λ _ _ _ _ _ _ us hl=>by obtain ⟨a0,a1,a2,rfl⟩:=ln_3 hl;rfl),F_q25,(W.mg_of X G a_q25),F_q25.kp,(F_q25.binds λ _ _ _ _ _ _ us hl=>by obtain ⟨a0,rfl⟩:=ln_1 hl;rfl),F_q21,(W.mg_of X G a_q21),F_q21.kp,(F_q21.binds λ _ _ _ _ _ _ us hl=>by obtain ⟨a0,a1,rfl⟩:=ln_2 hl;rfl),F_q1,(W.mg_of X G a_q1),F_q1.kp,(F_q1.binds λ _ _ _ _ _ _ us hl=>by obtain ⟨a0,a1,rfl⟩:=ln_2 hl;rfl),F_q7,(W.mg_of X G a_q7),F_q7.kp,(F_q7.binds λ _ _ _ _ _ _ us hl=>by obtain ⟨a0,a1,rfl⟩:=ln_2 hl;rfl),F_q24,(W.mg_of X G a_q24),F_q24.kp,(F_q24.binds λ _ _ _ _ _ _ us hl=>by obtain ⟨a0,a1,rfl⟩:=ln_2 hl;rfl),F_law,(W.mg_of X G a_law),F_law.kp,(F_law.binds λ _ _ _ _ _ _ us hl=>match us,hl with | [_],_=>rfl),⟨t_END,W.mg_of X G u_END⟩,⟨t_FIGURES,W.mg_of X G u_FIGURES⟩,⟨t_HEAD_OF_ALL,W.mg_of X G u_HEAD_OF_ALL⟩,⟨t_MOST_FIGURES,W.mg_of X G u_MOST_FIGURES⟩,⟨t_OUT,W.mg_of X G u_OUT⟩,⟨t_TOO_GREAT,W.mg_of X G u_TOO_GREAT⟩,(W.mg_of X G q_DraftError),x_DraftError,(W.mg_of X G q_NoBuilt),x_NoBuilt,(W.mg_of X G q_NoPaper),x_NoPaper,(W.mg_of X G q_NoRow),x_NoRow,(W.mg_of X G q_NoText),x_NoText,(W.mg_of X G g_HEADS),(λ H=>.inr ⟨_,_,_,t_HEADS,rfl,rfl,sz_3,(.cons ⟨_,rfl⟩ (.cons ⟨_,rfl⟩ (.cons ⟨_,rfl⟩ .nil)))⟩),(W.mg_of X G g_CHOICES),(λ H=>.inr ⟨_,_,_,t_CHOICES,rfl,rfl,sz_3,(.cons ⟨_,rfl⟩ (.cons ⟨_,rfl⟩ (.cons ⟨_,rfl⟩ .nil)))⟩),(W.mg_of X G g_SHAPES),y_SHAPES,⟨_,_,t_SHAPES,e_SHAPES,(show List.Nodup (["begin", "put", "take", "move", "write", "part", "join", "carry", "undo", "again", "reload", "save", "back", "settle", "piece", "clash"]:List Str) by decide +kernel)⟩,(λ H=>.inr ⟨_,_,_,q_SHAPES_begin,rfl,rfl,sz_3,(.cons ⟨_,rfl⟩ (.cons ⟨_,rfl⟩ (.cons ⟨_,rfl⟩ .nil)))⟩),(λ H=>.inr ⟨_,_,_,q_SHAPES_put,rfl,rfl,sz_3,(.cons ⟨_,rfl⟩ (.cons ⟨_,rfl⟩ (.cons ⟨_,rfl⟩ .nil)))⟩),(λ H=>.inr ⟨_,_,_,q_SHAPES_take,rfl,rfl,sz_2,(.cons ⟨_,rfl⟩ (.cons ⟨_,rfl⟩ .nil))⟩),(λ H=>.inr ⟨_,_,_,q_SHAPES_move,rfl,rfl,sz_3,(.cons ⟨_,rfl⟩ (.cons ⟨_,rfl⟩ (.cons ⟨_,rfl⟩ .nil)))⟩),(λ H=>.inr ⟨_,_,_,q_SHAPES_write,rfl,rfl,sz_3,(.cons ⟨_,rfl⟩ (.cons ⟨_,rfl⟩ (.cons ⟨_,rfl⟩ .nil)))⟩),(λ H=>.inr ⟨_,_,_,q_SHAPES_part,rfl,rfl,sz_3,(.cons ⟨_,rfl⟩ (.cons ⟨_,rfl⟩ (.cons ⟨_,rfl⟩ .nil)))⟩),(λ H=>.inr ⟨_,_,_,q_SHAPES_join,rfl,rfl,sz_2,(.cons ⟨_,rfl⟩ (.cons ⟨_,rfl⟩ .nil))⟩),(λ H=>.inr ⟨_,_,_,q_SHAPES_carry,rfl,rfl,sz_4,(.cons ⟨_,rfl⟩ (.cons ⟨_,rfl⟩ (.cons ⟨_,rfl⟩ (.cons ⟨_,rfl⟩ .nil))))⟩),(λ H=>.inr ⟨_,_,_,q_SHAPES_undo,rfl,rfl,sz_1,(.cons ⟨_,rfl⟩ .nil)⟩),(λ H=>.inr ⟨_,_,_,q_SHAPES_again,rfl,rfl,sz_1,(.cons ⟨_,rfl⟩ .nil)⟩),(λ H=>.inr ⟨_,_,_,q_SHAPES_reload,rfl,rfl,sz_2,(.cons ⟨_,rfl⟩ (.cons ⟨_,rfl⟩ .nil))⟩),(λ H=>.inr ⟨_,_,_,q_SHAPES_save,rfl,rfl,sz_3,(.cons ⟨_,rfl⟩ (.cons ⟨_,rfl⟩ (.cons ⟨_,rfl⟩ .nil)))⟩),(λ H=>.inr ⟨_,_,_,q_SHAPES_back,rfl,rfl,sz_2,(.cons ⟨_,rfl⟩ (.cons ⟨_,rfl⟩ .nil))⟩),(λ H=>.inr ⟨_,_,_,q_SHAPES_settle,rfl,rfl,sz_3,(.cons ⟨_,rfl⟩ (.cons ⟨_,rfl⟩ (.cons ⟨_,rfl⟩ .nil)))⟩),(λ H=>.inr ⟨_,_,_,q_SHAPES_piece,rfl,rfl,sz_2,(.cons ⟨_,rfl⟩ (.cons ⟨_,rfl⟩ .nil))⟩),(λ H=>.inr ⟨_,_,_,q_SHAPES_clash,rfl,rfl,sz_2,(.cons ⟨_,rfl⟩ (.cons ⟨_,rfl⟩ .nil))⟩),(W.mg_of X G g_LEAST),y_LEAST,⟨_,_,t_LEAST,e_LEAST,(show List.Nodup (["beat", "window", "clash", "save", "count"]:List Str) by decide +kernel)⟩,m_nd,kv,kt,(W.mg_none_of X G n_ValueError),(W.mg_none_of X G n_abs),(W.mg_none_of X G n_all),(W.mg_none_of X G n_enumerate),(W.mg_none_of X G n_int),(W.mg_none_of X G n_isinstance),(W.mg_none_of X G n_len),(W.mg_none_of X G n_list),(W.mg_none_of X G n_range),(W.mg_none_of X G n_sorted),(W.mg_none_of X G n_str),(W.mg_none_of X G n_tuple),(W.mg_none_of X G n_zip)⟩
 refine ⟨W.fnOf "law" "law" (zah zzs) (zle zzs) (zha zzs) .none kV_law dc_law pm_law an_law cd_law ct_law,λ s v=>.of_eq rfl,λ B _ _=>?_⟩
 have G_q34:=zvx (P:=l.prog) (w:=w) (B:=B) T
 have G_q36:=zhz (P:=l.prog) (w:=w) (B:=B) T
 have G_q11:=zcy (P:=l.prog) (w:=w) (B:=B) T G_q36
 have G_q29:=zux (P:=l.prog) (w:=w) (B:=B) T G_q11
 have G_q12:=zz0 (P:=l.prog) (w:=w) (B:=B) T
 have G_q6:=zs2 (P:=l.prog) (w:=w) (B:=B) T G_q11
 have G_q31:=ziy (P:=l.prog) (w:=w) (B:=B) T G_q12 G_q6
 have G_q26:=zsx (P:=l.prog) (w:=w) (B:=B) T G_q12 G_q6
 have G_q19:=zly (P:=l.prog) (w:=w) (B:=B) T G_q26
 have G_q10:=zl1 (P:=l.prog) (w:=w) (B:=B) T
 have G_q4:=zo3 (P:=l.prog) (w:=w) (B:=B) T G_q34 G_q29 G_q19 G_q10
 have G_q20:=zkz (P:=l.prog) (w:=w) (B:=B) T G_q34
 have G_q9:=zr4 (P:=l.prog) (w:=w) (B:=B) T
 have G_q22:=ze1 (P:=l.prog) (w:=w) (B:=B) T G_q11 G_q29 G_q31 G_q4 G_q20 G_q9
 have G_q32:=zk0 (P:=l.prog) (w:=w) (B:=B) T G_q22
 have G_q0:=zu3 (P:=l.prog) (w:=w) (B:=B) T G_q32
 have G_q13:=zzy (P:=l.prog) (w:=w) (B:=B) T
 have G_q5:=zd3 (P:=l.prog) (w:=w) (B:=B) T G_q13
 have G_q30:=zmz (P:=l.prog) (w:=w) (B:=B) T G_q5
 have G_q15:=ze0 (P:=l.prog) (w:=w) (B:=B) T G_q5
 have G_q37:=zjy (P:=l.prog) (w:=w) (B:=B) T
 have G_q2:=zk4 (P:=l.prog) (w:=w) (B:=B) T G_q13 G_q15 G_q37
 have G_q16:=zn1 (P:=l.prog) (w:=w) (B:=B) T G_q13 G_q30 G_q2
 have G_q35:=zs0 (P:=l.prog) (w:=w) (B:=B) T G_q16
 have G_q27:=zwy (P:=l.prog) (w:=w) (B:=B) T G_q35
 have G_q18:=zdy (P:=l.prog) (w:=w) (B:=B) T
 have G_q8:=zl3 (P:=l.prog) (w:=w) (B:=B) T
 have G_q17:=zj1 (P:=l.prog) (w:=w) (B:=B) T G_q8
 have G_q3:=zc3 (P:=l.prog) (w:=w) (B:=B) T G_q18 G_q8 G_q17
 have G_q23:=zrx (P:=l.prog) (w:=w) (B:=B) T G_q8 G_q3
 have G_q28:=zt1 (P:=l.prog) (w:=w) (B:=B) T G_q8
 have G_q14:=zfy (P:=l.prog) (w:=w) (B:=B) T
 have G_q33:=zez (P:=l.prog) (w:=w) (B:=B) T G_q14
 have G_q25:=zqy (P:=l.prog) (w:=w) (B:=B) T G_q33
 have G_q21:=zi1 (P:=l.prog) (w:=w) (B:=B) T
 have G_q1:=zp4 (P:=l.prog) (w:=w) (B:=B) T G_q0 G_q27
 have G_q7:=zj4 (P:=l.prog) (w:=w) (B:=B) T G_q0 G_q27
 have G_q24:=zqx (P:=l.prog) (w:=w) (B:=B) T
 have G_law:=za0 (P:=l.prog) (w:=w) (B:=B) T G_q23 G_q28 G_q25 G_q21 G_q1 G_q7 G_q24
 exact G_law
theorem walk {l:W.OpenLaw} {q:Program} {loose:List Str} {XP:(Str→Option Value)→Heap→Prop} {YP:World→Heap→Prop} {d:DefRec} {K:Params→W.Frag} (hn:l.most=some 63) (hdf:d.params.defaults=[])
  (hY:∀ (w:World) (h:Heap),YP w h→(K w.params).In h)
  (F:∀ (w:World) (mg:Str→Option Value) (fa:Addr) (h:Heap),(K w.params).In h→h.Ns mainGlobals mg→mg d.name=some (.ref fa) →
   ∃ fd:FuncData,(∀ (s:Shared) (u:Value),BindsTo s fd ⟨[u],[]⟩ [("_law_script",u)])∧∀ B:Heap,(K w.params).In B→B.Ns mainGlobals mg→FnOk l.prog w (K w.params) mg B (CX1 l.prog w B) 11 fa fd ["_law_script"] (sp_law (K w.params))) :
  W.WalkO q loose XP YP l.row.toRowW d [] (λ f vs=>PySem.call f vs) :=
 zxq (n:=63) (k:=11) (x := "_law_script") (sp:=λ w=>sp_law (K w.params)) hn (by decide) hdf ⟨rfl,by decide,by decide⟩ hY F (λ _ _ a ns hl hO hS=>⟨a,ns,rfl,hS,hl,λ _=>rfl,hO.plain⟩)
end My
open PySem PySem.W PyProof.Rows
open Lean in
local macro_rules
 | `(tactic| o_head $H)=>do
  let (hl,hw,hc):=(mkIdent `hl,mkIdent `hw,mkIdent `hc)
  `(tactic| refine PySem.W.holds_open (q:=My.viewQ) (loose:=["TOO_GREAT", "SHAPES", "LEAST"]) (Xt:=λ s=>xlAt My.viewQ [] s && recOk (RowW.records PySem.Challenge.rw_twotabs_k49_book_rows.row.toRowW) s) (XP:=XL My.viewQ []) (Yf:=Hook.obs $H) (Ya:=Hook.val $H) (YP:=Hook.says $H) (N:=5574) ?$hl (Hook.of $H) (Hook.keeps $H) (λ s e=>xl_of s (Bool.and_eq_true_iff.mp e).1) XL.keeps (by rfl) (by rfl) (by rfl) (λ s e=>recFacts_of (Bool.and_eq_true_iff.mp e).2) (by rfl) (by assumption) (by decide +kernel) ⟨rfl,rfl,rfl,rfl,rfl,by decide +kernel⟩ ?$hw ?$hc)
local macro_rules | `(tactic| walk_at "fn") => `(tactic| (refine' L2.fun_mk ?l ?c ?k; (case l=>k_is); (case c=>k_is); (case k=>k_is)))
set_option maxRecDepth 100000 in
set_option maxHeartbeats 0 in
theorem PySem.Challenge.cw_twotabs_k49_book_rows_holds : PySem.Challenge.rw_twotabs_k49_book_rows.Holds := by
 w_on;o_law;k_head; (case hw=>w_witness2); (case hl=>exact My.hlQ)
 k_fill
 refine My.walk (l:=PySem.Challenge.rw_twotabs_k49_book_rows) rfl rfl (λ w h Y=>PySem.W.kIn_of Y) ?F
 case F =>
  intro w mg fa h KX G hmg
  refine' My.all_mk KX G hmg ?a_q34 ?F_q34 ?a_q36 ?F_q36 ?a_q11 ?F_q11 ?a_q29 ?F_q29 ?a_q12 ?F_q12 ?a_q6 ?F_q6 ?a_q31 ?F_q31 ?a_q26 ?F_q26 ?a_q19 ?F_q19 ?a_q10 ?F_q10 ?a_q4 ?F_q4 ?a_q20 ?F_q20 ?a_q9 ?F_q9 ?a_q22 ?F_q22 ?a_q32 ?F_q32 ?a_q0 ?F_q0 ?a_q13 ?F_q13 ?a_q5 ?F_q5 ?a_q30 ?F_q30 ?a_q15 ?F_q15 ?a_q37 ?F_q37 ?a_q2 ?F_q2 ?a_q16 ?F_q16 ?a_q35 ?F_q35 ?a_q27 ?F_q27 ?a_q18 ?F_q18 ?a_q8 ?F_q8 ?a_q17 ?F_q17 ?a_q3 ?F_q3 ?a_q23 ?F_q23 ?a_q28 ?F_q28 ?a_q14 ?F_q14 ?a_q33 ?F_q33 ?a_q25 ?F_q25 ?a_q21 ?F_q21 ?a_q1 ?F_q1 ?a_q7 ?F_q7 ?a_q24 ?F_q24 ?a_law ?F_law ?u_END ?u_FIGURES ?u_HEAD_OF_ALL ?u_MOST_FIGURES ?u_OUT ?u_TOO_GREAT ?q_DraftError ?x_DraftError ?q_NoBuilt ?x_NoBuilt ?q_NoPaper ?x_NoPaper ?q_NoRow ?x_NoRow ?q_NoText ?x_NoText ?g_HEADS ?t_HEADS ?g_CHOICES ?t_CHOICES ?g_SHAPES ?y_SHAPES ?t_SHAPES ?e_SHAPES ?q_SHAPES_begin ?q_SHAPES_put ?q_SHAPES_take ?q_SHAPES_move ?q_SHAPES_write ?q_SHAPES_part ?q_SHAPES_join ?q_SHAPES_carry ?q_SHAPES_undo ?q_SHAPES_again ?q_SHAPES_reload ?q_SHAPES_save ?q_SHAPES_back ?q_SHAPES_settle ?q_SHAPES_piece ?q_SHAPES_clash ?g_LEAST ?y_LEAST ?t_LEAST ?e_LEAST ?m_nd ?kv ?kt ?n_ValueError ?n_abs ?n_all ?n_enumerate ?n_int ?n_isinstance ?n_len ?n_list ?n_range ?n_sorted ?n_str ?n_tuple ?n_zip
  (case a_q34=>k_is)
  (case F_q34=>walk_at "fn")
  (case a_q36=>k_is)
  (case F_q36=>walk_at "fn")
  (case a_q11=>k_is)
  (case F_q11=>walk_at "fn")
  (case a_q29=>k_is)
  (case F_q29=>walk_at "fn")
  (case a_q12=>k_is)
  (case F_q12=>walk_at "fn")
  (case a_q6=>k_is)
  (case F_q6=>walk_at "fn")
  (case a_q31=>k_is)
  (case F_q31=>walk_at "fn")
  (case a_q26=>k_is)
  (case F_q26=>walk_at "fn")
  (case a_q19=>k_is)
  (case F_q19=>walk_at "fn")
  (case a_q10=>k_is)
  (case F_q10=>walk_at "fn")
  (case a_q4=>k_is)
  (case F_q4=>walk_at "fn")
  (case a_q20=>k_is)
  (case F_q20=>walk_at "fn")
  (case a_q9=>k_is)
  (case F_q9=>walk_at "fn")
  (case a_q22=>k_is)
  (case F_q22=>walk_at "fn")
  (case a_q32=>k_is)
  (case F_q32=>walk_at "fn")
  (case a_q0=>k_is)
  (case F_q0=>walk_at "fn")
  (case a_q13=>k_is)
  (case F_q13=>walk_at "fn")
  (case a_q5=>k_is)
  (case F_q5=>walk_at "fn")
  (case a_q30=>k_is)
  (case F_q30=>walk_at "fn")
  (case a_q15=>k_is)
  (case F_q15=>walk_at "fn")
  (case a_q37=>k_is)
  (case F_q37=>walk_at "fn")
  (case a_q2=>k_is)
  (case F_q2=>walk_at "fn")
  (case a_q16=>k_is)
  (case F_q16=>walk_at "fn")
  (case a_q35=>k_is)
  (case F_q35=>walk_at "fn")
  (case a_q27=>k_is)
  (case F_q27=>walk_at "fn")
  (case a_q18=>k_is)
  (case F_q18=>walk_at "fn")
  (case a_q8=>k_is)
  (case F_q8=>walk_at "fn")
  (case a_q17=>k_is)
  (case F_q17=>walk_at "fn")
  (case a_q3=>k_is)
  (case F_q3=>walk_at "fn")
  (case a_q23=>k_is)
  (case F_q23=>walk_at "fn")
  (case a_q28=>k_is)
  (case F_q28=>walk_at "fn")
  (case a_q14=>k_is)
  (case F_q14=>walk_at "fn")
  (case a_q33=>k_is)
  (case F_q33=>walk_at "fn")
  (case a_q25=>k_is)
  (case F_q25=>walk_at "fn")
  (case a_q21=>k_is)
  (case F_q21=>walk_at "fn")
  (case a_q1=>k_is)
  (case F_q1=>walk_at "fn")
  (case a_q7=>k_is)
  (case F_q7=>walk_at "fn")
  (case a_q24=>k_is)
  (case F_q24=>walk_at "fn")
  (case a_law=>k_is)
  (case F_law=>walk_at "fn")
  (case u_END=>k_is)
  (case u_FIGURES=>k_is)
  (case u_HEAD_OF_ALL=>k_is)
  (case u_MOST_FIGURES=>k_is)
  (case u_OUT=>k_is)
  (case u_TOO_GREAT=>k_is)
  (case q_DraftError=>k_is)
  (case x_DraftError=>refine' L2.XCls.mk ?_ ?_ ?_ ?_ ?_ ?_ ?_ ?_ ?_;all_goals (first | k_is | k_exc))
  (case q_NoBuilt=>k_is)
  (case x_NoBuilt=>refine' L2.XCls.mk ?_ ?_ ?_ ?_ ?_ ?_ ?_ ?_ ?_;all_goals (first | k_is | k_exc))
  (case q_NoPaper=>k_is)
  (case x_NoPaper=>refine' L2.XCls.mk ?_ ?_ ?_ ?_ ?_ ?_ ?_ ?_ ?_;all_goals (first | k_is | k_exc))
  (case q_NoRow=>k_is)
  (case x_NoRow=>refine' L2.XCls.mk ?_ ?_ ?_ ?_ ?_ ?_ ?_ ?_ ?_;all_goals (first | k_is | k_exc))
  (case q_NoText=>k_is)
  (case x_NoText=>refine' L2.XCls.mk ?_ ?_ ?_ ?_ ?_ ?_ ?_ ?_ ?_;all_goals (first | k_is | k_exc))
  (case g_HEADS=>k_is)
  (case t_HEADS=>k_is)
  (case g_CHOICES=>k_is)
  (case t_CHOICES=>k_is)
  (case g_SHAPES=>k_is)
  (case y_SHAPES=>decide)
  (case t_SHAPES=>k_is)
  (case e_SHAPES=>exact ⟨rfl,⟨_,rfl⟩,rfl,rfl,⟨_,rfl⟩,rfl,rfl,⟨_,rfl⟩,rfl,rfl,⟨_,rfl⟩,rfl,rfl,⟨_,rfl⟩,rfl,rfl,⟨_,rfl⟩,rfl,rfl,⟨_,rfl⟩,rfl,rfl,⟨_,rfl⟩,rfl,rfl,⟨_,rfl⟩,rfl,rfl,⟨_,rfl⟩,rfl,rfl,⟨_,rfl⟩,rfl,rfl,⟨_,rfl⟩,rfl,rfl,⟨_,rfl⟩,rfl,rfl,⟨_,rfl⟩,rfl,rfl,⟨_,rfl⟩,rfl,rfl,⟨_,rfl⟩,rfl,True.intro⟩)
  (case q_SHAPES_begin=>k_is)
  (case q_SHAPES_put=>k_is)
  (case q_SHAPES_take=>k_is)
  (case q_SHAPES_move=>k_is)
  (case q_SHAPES_write=>k_is)
  (case q_SHAPES_part=>k_is)
  (case q_SHAPES_join=>k_is)
  (case q_SHAPES_carry=>k_is)
  (case q_SHAPES_undo=>k_is)
  (case q_SHAPES_again=>k_is)
  (case q_SHAPES_reload=>k_is)
  (case q_SHAPES_save=>k_is)
  (case q_SHAPES_back=>k_is)
  (case q_SHAPES_settle=>k_is)
  (case q_SHAPES_piece=>k_is)
  (case q_SHAPES_clash=>k_is)
  (case g_LEAST=>k_is)
  (case y_LEAST=>decide)
  (case t_LEAST=>k_is)
  (case e_LEAST=>exact ⟨rfl,⟨_,rfl⟩,rfl,rfl,⟨_,rfl⟩,rfl,rfl,⟨_,rfl⟩,rfl,rfl,⟨_,rfl⟩,rfl,rfl,⟨_,rfl⟩,rfl,True.intro⟩)
  (case m_nd=>first | k_is | kit_is)
  (case kv=>first | k_is | kit_is)
  (case kt=>first | k_is | kit_is)
  (case n_ValueError=>k_is)
  (case n_abs=>k_is)
  (case n_all=>k_is)
  (case n_enumerate=>k_is)
  (case n_int=>k_is)
  (case n_isinstance=>k_is)
  (case n_len=>k_is)
  (case n_list=>k_is)
  (case n_range=>k_is)
  (case n_sorted=>k_is)
  (case n_str=>k_is)
  (case n_tuple=>k_is)
  (case n_zip=>k_is)
