import PyProof.Rows.All
import Wide.All
import OpenK.AllK
import Wide.FinOn
import Lean
import PyProof.EqAt
import PyProof.EqKinds
import PyProof.TupleCall
import PySem.Challenge.RW_twotabs_k35_window_saved
set_option Elab.async false
set_option linter.all false
set_option genSizeOfSpec false
set_option genSizeOf false
set_option maxRecDepth 100000
namespace My
open PySem PySem.W PyProof.Rows
noncomputable def zdc (tb:String→Option Builtin) (p:Program) (w:World) (n0:Nat) (ann:Option Value):Nat→SharedT→Thread→Option SharedT
 | 0,_,_=>none
 | n+1,s,t=>match through t with
  | true=>some s
  | false=>match stepOk n0 ann t with
   | false=>none
   | true=>match stepT (denote tb) p w s t with
    | some (s',t')=>zdc tb p w n0 ann n s' t'
    | none=>none
theorem zvj {tb:String→Option Builtin} {p:Program} {w:World} {n0:Nat} {ann:Option Value}:∀ {n:Nat} {s s':SharedT} {t:Thread},zdc tb p w n0 ann n s t=some s'→topRun tb p w n0 ann n s.abs t=some s'.abs
 | 0,_,_,_,h=>by cases h
 | n+1,s,s',t,h=>by
  unfold zdc at h
  unfold topRun
  cases he:through t with
  | true=>rw [he] at h;cases h;rfl
  | false =>
   rw [he] at h
   cases hk:stepOk n0 ann t with
   | false=>rw [hk] at h;cases h
   | true =>
    rw [hk] at h
    cases hs:stepT (denote tb) p w s t with
    | none=>rw [hs] at h;cases h
    | some r=>obtain ⟨s2,t2⟩:=r;rw [hs] at h;rw [stepT_spec hs];exact zvj h
noncomputable def treeOf (l:List Obj):BT:=(l.foldl (λ x o=>(x.1.ins x.2 o,x.2+1)) (BT.nil,0)).1
theorem zup {p q:Program} {loose:List Str} {Xt:Shared→Bool} {α:Type} {Yf:Shared→α} {Ya:World→α} {N:Nat} {g0:Bool} {m0:Nat} {T0:Params→BT} {L0:Params→Life}
  (e:opening p=plainProg p.main.scope.names) (hN:Nat.ble 600 N=true) (f:∀ s,fenceModules? p s=some s)
  (hT:∀ P:Params,absHeap (T0 P) m0 (L0 P)=boot_heap P)
  (size:∀ P:Params,((boot_heap P).isNs mainGlobals,(boot_heap P).objs.size)=(true,m0))
  (all:∀ w:World,(λ os=>(zdc treeTable p w m0 ((boot_heap w.params).nsMap mainGlobals "__annotations__") N ⟨T0 w.params,m0,L0 w.params,Array.mk [],boot_drawn,boot_toks,os⟩ (topStub p)).map λ s=>(λ r:Shared=>((staticsOk (importedModules p.main.body) (boot_heap w.params) r.heap && namesBound p r.heap && gensDone r && laidKept (boot_heap w.params) r.heap),openSeen q loose (importedModules p.main.body) Xt g0 r,Yf r)) s.abs)=λ _=>some (true,openGood q loose,Ya w)) :
  LeftO p q loose Xt Yf Ya N g0:=λ w=>by
 obtain ⟨⟨h,gs,d,k,os⟩,e1,e2⟩:=Option.map_eq_some_iff.mp (boot_open e hN f w)
 obtain ⟨rfl,rfl,rfl,rfl⟩:h=boot_heap w.params∧gs=Array.mk []∧d=boot_drawn∧k=boot_toks:=by simpa using e2
 obtain ⟨z1,z2⟩:_∧_:=by simpa only [Prod.mk.injEq] using size w.params
 obtain ⟨s,h1,h2⟩:=Option.map_eq_some_iff.mp (congrFun (all w) os)
 obtain ⟨l1,l2,l3⟩:_∧_∧_:=by simpa only [Prod.mk.injEq] using h2
 have r:=zvj h1
 have r:topRun treeTable p w m0 ((boot_heap w.params).nsMap mainGlobals "__annotations__") N ⟨boot_heap w.params,Array.mk [],boot_drawn,boot_toks,os⟩ (topStub p)=some s.abs:=by
  have e3:(⟨T0 w.params,m0,L0 w.params,Array.mk [],boot_drawn,boot_toks,os⟩:SharedT).abs=⟨boot_heap w.params,Array.mk [],boot_drawn,boot_toks,os⟩:=by
   show (⟨absHeap (T0 w.params) m0 (L0 w.params),_,_,_,_⟩:Shared)=_
   rw [hT]
  rw [← e3]
  exact r
 have t:topFrom treeTable p w N ⟨boot_heap w.params,Array.mk [],boot_drawn,boot_toks,os⟩=some s.abs:=by
  unfold topFrom
  dsimp only
  rw [z1,z2,r]
  show (match staticsOk (importedModules p.main.body) (boot_heap w.params) s.abs.heap && namesBound p s.abs.heap && gensDone s.abs && laidKept (boot_heap w.params) s.abs.heap with | true=>_ | false=>_)=_
  rw [l1]
 unfold openEnds
 rw [e1]
 show (topFrom treeTable p w N _).map _=_
 rw [t]
 exact congrArg some (Prod.ext l2 l3)
end My
namespace My
open PySem PySem.W PyProof.Rows
abbrev allAt (p q:Program) (loose:List Str) (Xt:Shared→Bool) {α:Type} (Yf:Shared→α) (Ya:World→α) (N:Nat) (g0:Bool) (m0:Nat) (T0:Params→BT) (L0:Params→Life) (w:World):Prop :=
 (λ os=>(zdc treeTable p w m0 ((boot_heap w.params).nsMap mainGlobals "__annotations__") N ⟨T0 w.params,m0,L0 w.params,Array.mk [],boot_drawn,boot_toks,os⟩ (topStub p)).map λ s=>(λ r:Shared=>((staticsOk (importedModules p.main.body) (boot_heap w.params) r.heap && namesBound p r.heap && gensDone r && laidKept (boot_heap w.params) r.heap),openSeen q loose (importedModules p.main.body) Xt g0 r,Yf r)) s.abs)=λ _=>some (true,openGood q loose,Ya w)
theorem left_treeS {p q:Program} {loose:List Str} {Xt:Shared→Bool} {α:Type} {Yf:Shared→α} {Ya:World→α} {N:Nat} {g0:Bool} {m0:Nat} {T0:Params→BT} {L0:Params→Life} (row:String)
  (e:opening p=plainProg p.main.scope.names) (hN:Nat.ble 600 N=true) (f:∀ s,fenceModules? p s=some s)
  (hT:∀ P:Params,absHeap (T0 P) m0 (L0 P)=boot_heap P)
  (size:∀ P:Params,((boot_heap P).isNs mainGlobals,(boot_heap P).objs.size)=(true,m0))
  (hf:∀ w:World,allAt p q loose Xt Yf Ya N g0 m0 T0 L0 (w.withFollow row false)) (ht:∀ w:World,allAt p q loose Xt Yf Ya N g0 m0 T0 L0 (w.withFollow row true)):LeftO p q loose Xt Yf Ya N g0:=by
 refine zup e hN f hT size λ w=>?_
 have h:allAt p q loose Xt Yf Ya N g0 m0 T0 L0 w:=by
  rw [← World.withFollow_self w row]
  cases w.params.followText row with
  | false=>exact hf w
  | true=>exact ht w
 exact h
end My
namespace My
open PySem PySem.W PyProof.Rows
abbrev atB (p q:Program) (loose:List Str) (Xt:Shared→Bool) (N:Nat) (g0:Bool) (m0:Nat) (T0:Params→BT) (L0:Params→Life) (w:World):Prop :=
 (λ os=>(zdc treeTable p w m0 ((boot_heap w.params).nsMap mainGlobals "__annotations__") N ⟨T0 w.params,m0,L0 w.params,Array.mk [],boot_drawn,boot_toks,os⟩ (topStub p)).map λ s=>(λ r:Shared=>((staticsOk (importedModules p.main.body) (boot_heap w.params) r.heap && namesBound p r.heap && gensDone r && laidKept (boot_heap w.params) r.heap),(openSeen q loose (importedModules p.main.body) Xt g0 r).1)) s.abs)=λ _=>some (true,expectedOf q)
abbrev atD (p q:Program) (loose:List Str) (Xt:Shared→Bool) (N:Nat) (g0:Bool) (m0:Nat) (T0:Params→BT) (L0:Params→Life) (w:World):Prop :=
 (λ os=>(zdc treeTable p w m0 ((boot_heap w.params).nsMap mainGlobals "__annotations__") N ⟨T0 w.params,m0,L0 w.params,Array.mk [],boot_drawn,boot_toks,os⟩ (topStub p)).map λ s=>(λ r:Shared=>((openSeen q loose (importedModules p.main.body) Xt g0 r).2.1,(openSeen q loose (importedModules p.main.body) Xt g0 r).2.2.1)) s.abs)=λ _=>some (bltViewBooted,true)
abbrev atF (p q:Program) (loose:List Str) (Xt:Shared→Bool) (N:Nat) (g0:Bool) (m0:Nat) (T0:Params→BT) (L0:Params→Life) (w:World):Prop :=
 (λ os=>(zdc treeTable p w m0 ((boot_heap w.params).nsMap mainGlobals "__annotations__") N ⟨T0 w.params,m0,L0 w.params,Array.mk [],boot_drawn,boot_toks,os⟩ (topStub p)).map λ s=>(λ r:Shared=>(openSeen q loose (importedModules p.main.body) Xt g0 r).2.2.2.1) s.abs)=λ _=>some true
abbrev atE (p q:Program) (loose:List Str) (Xt:Shared→Bool) (N:Nat) (g0:Bool) (m0:Nat) (T0:Params→BT) (L0:Params→Life) (w:World):Prop :=
 (λ os=>(zdc treeTable p w m0 ((boot_heap w.params).nsMap mainGlobals "__annotations__") N ⟨T0 w.params,m0,L0 w.params,Array.mk [],boot_drawn,boot_toks,os⟩ (topStub p)).map λ s=>(λ r:Shared=>((openSeen q loose (importedModules p.main.body) Xt g0 r).2.2.2.2.1,(openSeen q loose (importedModules p.main.body) Xt g0 r).2.2.2.2.2.1,(openSeen q loose (importedModules p.main.body) Xt g0 r).2.2.2.2.2.2.1,(openSeen q loose (importedModules p.main.body) Xt g0 r).2.2.2.2.2.2.2.1,(openSeen q loose (importedModules p.main.body) Xt g0 r).2.2.2.2.2.2.2.2)) s.abs)=λ _=>some (pinGoodD (drecsOf q),plainGoodE q (looseW q loose),plainGoodD q loose,wideGood q,clsGoodW q loose)
abbrev atC (p:Program) {α:Type} (Yf:Shared→α) (Ya:World→α) (N:Nat) (m0:Nat) (T0:Params→BT) (L0:Params→Life) (w:World):Prop :=
 (λ os=>(zdc treeTable p w m0 ((boot_heap w.params).nsMap mainGlobals "__annotations__") N ⟨T0 w.params,m0,L0 w.params,Array.mk [],boot_drawn,boot_toks,os⟩ (topStub p)).map λ s=>(λ r:Shared=>Yf r) s.abs)=λ _=>some (Ya w)
theorem all_of {p q:Program} {loose:List Str} {Xt:Shared→Bool} {α:Type} {Yf:Shared→α} {Ya:World→α} {N:Nat} {g0:Bool} {m0:Nat} {T0:Params→BT} {L0:Params→Life} {w:World} (h2:atB p q loose Xt N g0 m0 T0 L0 w) (h4:atD p q loose Xt N g0 m0 T0 L0 w) (h6:atF p q loose Xt N g0 m0 T0 L0 w) (h5:atE p q loose Xt N g0 m0 T0 L0 w) (h3:atC p Yf Ya N m0 T0 L0 w):allAt p q loose Xt Yf Ya N g0 m0 T0 L0 w:=by
 unfold allAt
 funext os
 have b:=congrFun h2 os
 have c:=congrFun h3 os
 have d:=congrFun h4 os
 have e:=congrFun h5 os
 have f:=congrFun h6 os
 dsimp only at b c d e f ⊢
 cases hX:zdc treeTable p w m0 ((boot_heap w.params).nsMap mainGlobals "__annotations__") N ⟨T0 w.params,m0,L0 w.params,Array.mk [],boot_drawn,boot_toks,os⟩ (topStub p) with
 | none=>rw [hX] at b;cases b
 | some s =>
  rw [hX] at b c d e f
  rw [Option.map_some] at b c d e f ⊢
  have d:=Option.some.inj d
  have b:=Option.some.inj b
  have e:=Option.some.inj e
  have e1:=Prod.ext_iff.mp e
  have e2:=Prod.ext_iff.mp e1.2
  have e3:=Prod.ext_iff.mp e2.2
  have e4:=Prod.ext_iff.mp e3.2
  have d1:=Prod.ext_iff.mp d
  have f:=Option.some.inj f
  have hS:openSeen q loose (importedModules p.main.body) Xt g0 s.abs=openGood q loose:=Prod.ext (Prod.ext_iff.mp b).2 (Prod.ext d1.1 (Prod.ext d1.2 (Prod.ext f (Prod.ext e1.1 (Prod.ext e2.1 (Prod.ext e3.1 (Prod.ext e4.1 e4.2)))))))
  have b1:=(Prod.ext_iff.mp b).1
  dsimp only at b1
  rw [b1,hS,Option.some.inj c]
end My
section
open PySem PySem.W PyProof.Rows
noncomputable def My.viewQ:Program:={ PySem.Challenge.pw_twotabs_k35_window_saved with main:={ PySem.Challenge.pw_twotabs_k35_window_saved.main with body:=[0,2,3,4,5,6,7,8,9,11,13,14,16,17,19,20,21,22,23,24,25,26,27,28,29,30,31,32,33,34,36,37,39,41,43,44,45,46,47,48,49,50,51].filterMap (PySem.Challenge.pw_twotabs_k35_window_saved.main.body[·]?) } }
open Lean in
local macro_rules
 | `(tactic| o_head $H)=>do
  let (hl,hw,hc):=(mkIdent `hl,mkIdent `hw,mkIdent `hc)
  `(tactic| refine W.holds_open (q:=My.viewQ) (loose:=["DEEDS"]) (Xt:=λ s=>xlAt My.viewQ [] s && recOk (RowW.records PySem.Challenge.rw_twotabs_k35_window_saved.row.toRowW) s) (XP:=XL My.viewQ []) (Yf:=Hook.obs $H) (Ya:=Hook.val $H) (YP:=Hook.says $H) (N:=8990) ?$hl (Hook.of $H) (Hook.keeps $H) (λ s e=>xl_of s (Bool.and_eq_true_iff.mp e).1) XL.keeps (by rfl) (by rfl) (by rfl) (λ s e=>recFacts_of (Bool.and_eq_true_iff.mp e).2) (by rfl) (by assumption) (by decide +kernel) ⟨rfl,rfl,rfl,rfl,rfl,by decide +kernel⟩ ?$hw ?$hc)
local macro_rules | `(tactic| walk_at "fn") => `(tactic| (refine' L2.fun_mk ?l ?c ?k; (case l=>k_is); (case c=>k_is); (case k=>k_is)))
set_option maxRecDepth 100000 in
set_option maxHeartbeats 0 in
theorem My.dummy (hF:False):PySem.Challenge.rw_twotabs_k35_window_saved.Holds:=by
 w_on;o_law;k_head
 all_goals exact hF.elim
set_option maxRecDepth 100000 in
set_option maxHeartbeats 0 in
theorem My.hlb_false (w:World):My.atB PySem.Challenge.rw_twotabs_k35_window_saved.row.prog My.viewQ ["DEEDS"] (λ s=>xlAt My.viewQ [] s && recOk (RowW.records PySem.Challenge.rw_twotabs_k35_window_saved.row.toRowW) s) 8990 true 11 (λ P=>My.treeOf (boot_heap P).objs.toList) (λ P=>(boot_heap P).life) (w.withFollow "special-get-raises" false):=by
 kernel_rfl
set_option maxRecDepth 100000 in
set_option maxHeartbeats 0 in
theorem My.hld_false (w:World):My.atD PySem.Challenge.rw_twotabs_k35_window_saved.row.prog My.viewQ ["DEEDS"] (λ s=>xlAt My.viewQ [] s && recOk (RowW.records PySem.Challenge.rw_twotabs_k35_window_saved.row.toRowW) s) 8990 true 11 (λ P=>My.treeOf (boot_heap P).objs.toList) (λ P=>(boot_heap P).life) (w.withFollow "special-get-raises" false):=by
 kernel_rfl
set_option maxRecDepth 100000 in
set_option maxHeartbeats 0 in
theorem My.hlf_false (w:World):My.atF PySem.Challenge.rw_twotabs_k35_window_saved.row.prog My.viewQ ["DEEDS"] (λ s=>xlAt My.viewQ [] s && recOk (RowW.records PySem.Challenge.rw_twotabs_k35_window_saved.row.toRowW) s) 8990 true 11 (λ P=>My.treeOf (boot_heap P).objs.toList) (λ P=>(boot_heap P).life) (w.withFollow "special-get-raises" false):=by
 kernel_rfl
set_option maxRecDepth 100000 in
set_option maxHeartbeats 0 in
theorem My.hle_false (w:World):My.atE PySem.Challenge.rw_twotabs_k35_window_saved.row.prog My.viewQ ["DEEDS"] (λ s=>xlAt My.viewQ [] s && recOk (RowW.records PySem.Challenge.rw_twotabs_k35_window_saved.row.toRowW) s) 8990 true 11 (λ P=>My.treeOf (boot_heap P).objs.toList) (λ P=>(boot_heap P).life) (w.withFollow "special-get-raises" false):=by
 kernel_rfl
set_option maxRecDepth 100000 in
set_option maxHeartbeats 0 in
theorem My.hlc_false (w:World):My.atC PySem.Challenge.rw_twotabs_k35_window_saved.row.prog (kHook My.dummy.heap_39 [2,3,15,17,18,20,21,22,29,30,31,32,35,42,43,44,47,54,55,56,59,66,67,68,71,78,79,80,83,90,91,92,95,102,103,104,107,114,115,116,119,121,122,124,125,126,128,129,131,132,133,135,136,138,139,140,142,143,145,146,147,149,150,152,153,154,156,157,159,160,161,163,164,166,167,168,170,171,173,174,175,177,178,180,181,182,184,185,187,188,189,191,192,194,195,196,198,199,201,202,203,205,206,208,209,210,212,213,215,216,217,219,220,222,223,224,226,227,229,230,231,233,234,236,237,238,240,241,243,244,245,247,248,250,251,252,255,256,257,265,267,268,270,271,272,274,275,277,278,279,281,282,284,285,286,288,289,291,292,293,295,296,298,299,300,302,303,305,306,307,309,310,312,313,314,317,318,319,320,321,322,323,326,328,329,331,332,340,342,343,345,346,347,349,350,352,353,354,356,357,359,360,361,363,364,366,367,368,370,371,373,374,375,377,378,380,381,382,385,386,387,390,391,392,395,396,397,400,401,402,404,405,407,408,409,411,412,414,415,416,418,419,421,422,423,424,425,426,427,437,439,440,442,443,444,446,447,449,450,451,454,455,456,459,460,461,463,464,466,467,468,470,471,473,474,475,477,478,480,481,482,484,485,487,488,489,492,493,494,496,497,499,500,501,502,503,504,505,508,510,511,513,514,515,517,518,520,521,522,524,525,527,528,529,531,532,534,535,536,538,539,541,542,543,545,546,548,549,550,552,553,555,556,557,559,560,562,563,564,566,567,569,570] (λ _=>rfl)).obs (kHook My.dummy.heap_39 [2,3,15,17,18,20,21,22,29,30,31,32,35,42,43,44,47,54,55,56,59,66,67,68,71,78,79,80,83,90,91,92,95,102,103,104,107,114,115,116,119,121,122,124,125,126,128,129,131,132,133,135,136,138,139,140,142,143,145,146,147,149,150,152,153,154,156,157,159,160,161,163,164,166,167,168,170,171,173,174,175,177,178,180,181,182,184,185,187,188,189,191,192,194,195,196,198,199,201,202,203,205,206,208,209,210,212,213,215,216,217,219,220,222,223,224,226,227,229,230,231,233,234,236,237,238,240,241,243,244,245,247,248,250,251,252,255,256,257,265,267,268,270,271,272,274,275,277,278,279,281,282,284,285,286,288,289,291,292,293,295,296,298,299,300,302,303,305,306,307,309,310,312,313,314,317,318,319,320,321,322,323,326,328,329,331,332,340,342,343,345,346,347,349,350,352,353,354,356,357,359,360,361,363,364,366,367,368,370,371,373,374,375,377,378,380,381,382,385,386,387,390,391,392,395,396,397,400,401,402,404,405,407,408,409,411,412,414,415,416,418,419,421,422,423,424,425,426,427,437,439,440,442,443,444,446,447,449,450,451,454,455,456,459,460,461,463,464,466,467,468,470,471,473,474,475,477,478,480,481,482,484,485,487,488,489,492,493,494,496,497,499,500,501,502,503,504,505,508,510,511,513,514,515,517,518,520,521,522,524,525,527,528,529,531,532,534,535,536,538,539,541,542,543,545,546,548,549,550,552,553,555,556,557,559,560,562,563,564,566,567,569,570] (λ _=>rfl)).val 8990 11 (λ P=>My.treeOf (boot_heap P).objs.toList) (λ P=>(boot_heap P).life) (w.withFollow "special-get-raises" false):=by
 kernel_rfl
theorem My.hl_false (w:World):My.allAt PySem.Challenge.rw_twotabs_k35_window_saved.row.prog My.viewQ ["DEEDS"] (λ s=>xlAt My.viewQ [] s && recOk (RowW.records PySem.Challenge.rw_twotabs_k35_window_saved.row.toRowW) s) (kHook My.dummy.heap_39 [2,3,15,17,18,20,21,22,29,30,31,32,35,42,43,44,47,54,55,56,59,66,67,68,71,78,79,80,83,90,91,92,95,102,103,104,107,114,115,116,119,121,122,124,125,126,128,129,131,132,133,135,136,138,139,140,142,143,145,146,147,149,150,152,153,154,156,157,159,160,161,163,164,166,167,168,170,171,173,174,175,177,178,180,181,182,184,185,187,188,189,191,192,194,195,196,198,199,201,202,203,205,206,208,209,210,212,213,215,216,217,219,220,222,223,224,226,227,229,230,231,233,234,236,237,238,240,241,243,244,245,247,248,250,251,252,255,256,257,265,267,268,270,271,272,274,275,277,278,279,281,282,284,285,286,288,289,291,292,293,295,296,298,299,300,302,303,305,306,307,309,310,312,313,314,317,318,319,320,321,322,323,326,328,329,331,332,340,342,343,345,346,347,349,350,352,353,354,356,357,359,360,361,363,364,366,367,368,370,371,373,374,375,377,378,380,381,382,385,386,387,390,391,392,395,396,397,400,401,402,404,405,407,408,409,411,412,414,415,416,418,419,421,422,423,424,425,426,427,437,439,440,442,443,444,446,447,449,450,451,454,455,456,459,460,461,463,464,466,467,468,470,471,473,474,475,477,478,480,481,482,484,485,487,488,489,492,493,494,496,497,499,500,501,502,503,504,505,508,510,511,513,514,515,517,518,520,521,522,524,525,527,528,529,531,532,534,535,536,538,539,541,542,543,545,546,548,549,550,552,553,555,556,557,559,560,562,563,564,566,567,569,570] (λ _=>rfl)).obs (kHook My.dummy.heap_39 [2,3,15,17,18,20,21,22,29,30,31,32,35,42,43,44,47,54,55,56,59,66,67,68,71,78,79,80,83,90,91,92,95,102,103,104,107,114,115,116,119,121,122,124,125,126,128,129,131,132,133,135,136,138,139,140,142,143,145,146,147,149,150,152,153,154,156,157,159,160,161,163,164,166,167,168,170,171,173,174,175,177,178,180,181,182,184,185,187,188,189,191,192,194,195,196,198,199,201,202,203,205,206,208,209,210,212,213,215,216,217,219,220,222,223,224,226,227,229,230,231,233,234,236,237,238,240,241,243,244,245,247,248,250,251,252,255,256,257,265,267,268,270,271,272,274,275,277,278,279,281,282,284,285,286,288,289,291,292,293,295,296,298,299,300,302,303,305,306,307,309,310,312,313,314,317,318,319,320,321,322,323,326,328,329,331,332,340,342,343,345,346,347,349,350,352,353,354,356,357,359,360,361,363,364,366,367,368,370,371,373,374,375,377,378,380,381,382,385,386,387,390,391,392,395,396,397,400,401,402,404,405,407,408,409,411,412,414,415,416,418,419,421,422,423,424,425,426,427,437,439,440,442,443,444,446,447,449,450,451,454,455,456,459,460,461,463,464,466,467,468,470,471,473,474,475,477,478,480,481,482,484,485,487,488,489,492,493,494,496,497,499,500,501,502,503,504,505,508,510,511,513,514,515,517,518,520,521,522,524,525,527,528,529,531,532,534,535,536,538,539,541,542,543,545,546,548,549,550,552,553,555,556,557,559,560,562,563,564,566,567,569,570] (λ _=>rfl)).val 8990 true 11 (λ P=>My.treeOf (boot_heap P).objs.toList) (λ P=>(boot_heap P).life) (w.withFollow "special-get-raises" false):=My.all_of (My.hlb_false w) (My.hld_false w) (My.hlf_false w) (My.hle_false w) (My.hlc_false w)
set_option maxRecDepth 100000 in
set_option maxHeartbeats 0 in
theorem My.hlb_true (w:World):My.atB PySem.Challenge.rw_twotabs_k35_window_saved.row.prog My.viewQ ["DEEDS"] (λ s=>xlAt My.viewQ [] s && recOk (RowW.records PySem.Challenge.rw_twotabs_k35_window_saved.row.toRowW) s) 8990 true 11 (λ P=>My.treeOf (boot_heap P).objs.toList) (λ P=>(boot_heap P).life) (w.withFollow "special-get-raises" true):=by
 kernel_rfl
set_option maxRecDepth 100000 in
set_option maxHeartbeats 0 in
theorem My.hld_true (w:World):My.atD PySem.Challenge.rw_twotabs_k35_window_saved.row.prog My.viewQ ["DEEDS"] (λ s=>xlAt My.viewQ [] s && recOk (RowW.records PySem.Challenge.rw_twotabs_k35_window_saved.row.toRowW) s) 8990 true 11 (λ P=>My.treeOf (boot_heap P).objs.toList) (λ P=>(boot_heap P).life) (w.withFollow "special-get-raises" true):=by
 kernel_rfl
set_option maxRecDepth 100000 in
set_option maxHeartbeats 0 in
theorem My.hlf_true (w:World):My.atF PySem.Challenge.rw_twotabs_k35_window_saved.row.prog My.viewQ ["DEEDS"] (λ s=>xlAt My.viewQ [] s && recOk (RowW.records PySem.Challenge.rw_twotabs_k35_window_saved.row.toRowW) s) 8990 true 11 (λ P=>My.treeOf (boot_heap P).objs.toList) (λ P=>(boot_heap P).life) (w.withFollow "special-get-raises" true):=by
 kernel_rfl
set_option maxRecDepth 100000 in
set_option maxHeartbeats 0 in
theorem My.hle_true (w:World):My.atE PySem.Challenge.rw_twotabs_k35_window_saved.row.prog My.viewQ ["DEEDS"] (λ s=>xlAt My.viewQ [] s && recOk (RowW.records PySem.Challenge.rw_twotabs_k35_window_saved.row.toRowW) s) 8990 true 11 (λ P=>My.treeOf (boot_heap P).objs.toList) (λ P=>(boot_heap P).life) (w.withFollow "special-get-raises" true):=by
 kernel_rfl
set_option maxRecDepth 100000 in
set_option maxHeartbeats 0 in
theorem My.hlc_true (w:World):My.atC PySem.Challenge.rw_twotabs_k35_window_saved.row.prog (kHook My.dummy.heap_39 [2,3,15,17,18,20,21,22,29,30,31,32,35,42,43,44,47,54,55,56,59,66,67,68,71,78,79,80,83,90,91,92,95,102,103,104,107,114,115,116,119,121,122,124,125,126,128,129,131,132,133,135,136,138,139,140,142,143,145,146,147,149,150,152,153,154,156,157,159,160,161,163,164,166,167,168,170,171,173,174,175,177,178,180,181,182,184,185,187,188,189,191,192,194,195,196,198,199,201,202,203,205,206,208,209,210,212,213,215,216,217,219,220,222,223,224,226,227,229,230,231,233,234,236,237,238,240,241,243,244,245,247,248,250,251,252,255,256,257,265,267,268,270,271,272,274,275,277,278,279,281,282,284,285,286,288,289,291,292,293,295,296,298,299,300,302,303,305,306,307,309,310,312,313,314,317,318,319,320,321,322,323,326,328,329,331,332,340,342,343,345,346,347,349,350,352,353,354,356,357,359,360,361,363,364,366,367,368,370,371,373,374,375,377,378,380,381,382,385,386,387,390,391,392,395,396,397,400,401,402,404,405,407,408,409,411,412,414,415,416,418,419,421,422,423,424,425,426,427,437,439,440,442,443,444,446,447,449,450,451,454,455,456,459,460,461,463,464,466,467,468,470,471,473,474,475,477,478,480,481,482,484,485,487,488,489,492,493,494,496,497,499,500,501,502,503,504,505,508,510,511,513,514,515,517,518,520,521,522,524,525,527,528,529,531,532,534,535,536,538,539,541,542,543,545,546,548,549,550,552,553,555,556,557,559,560,562,563,564,566,567,569,570] (λ _=>rfl)).obs (kHook My.dummy.heap_39 [2,3,15,17,18,20,21,22,29,30,31,32,35,42,43,44,47,54,55,56,59,66,67,68,71,78,79,80,83,90,91,92,95,102,103,104,107,114,115,116,119,121,122,124,125,126,128,129,131,132,133,135,136,138,139,140,142,143,145,146,147,149,150,152,153,154,156,157,159,160,161,163,164,166,167,168,170,171,173,174,175,177,178,180,181,182,184,185,187,188,189,191,192,194,195,196,198,199,201,202,203,205,206,208,209,210,212,213,215,216,217,219,220,222,223,224,226,227,229,230,231,233,234,236,237,238,240,241,243,244,245,247,248,250,251,252,255,256,257,265,267,268,270,271,272,274,275,277,278,279,281,282,284,285,286,288,289,291,292,293,295,296,298,299,300,302,303,305,306,307,309,310,312,313,314,317,318,319,320,321,322,323,326,328,329,331,332,340,342,343,345,346,347,349,350,352,353,354,356,357,359,360,361,363,364,366,367,368,370,371,373,374,375,377,378,380,381,382,385,386,387,390,391,392,395,396,397,400,401,402,404,405,407,408,409,411,412,414,415,416,418,419,421,422,423,424,425,426,427,437,439,440,442,443,444,446,447,449,450,451,454,455,456,459,460,461,463,464,466,467,468,470,471,473,474,475,477,478,480,481,482,484,485,487,488,489,492,493,494,496,497,499,500,501,502,503,504,505,508,510,511,513,514,515,517,518,520,521,522,524,525,527,528,529,531,532,534,535,536,538,539,541,542,543,545,546,548,549,550,552,553,555,556,557,559,560,562,563,564,566,567,569,570] (λ _=>rfl)).val 8990 11 (λ P=>My.treeOf (boot_heap P).objs.toList) (λ P=>(boot_heap P).life) (w.withFollow "special-get-raises" true):=by
 kernel_rfl
theorem My.hl_true (w:World):My.allAt PySem.Challenge.rw_twotabs_k35_window_saved.row.prog My.viewQ ["DEEDS"] (λ s=>xlAt My.viewQ [] s && recOk (RowW.records PySem.Challenge.rw_twotabs_k35_window_saved.row.toRowW) s) (kHook My.dummy.heap_39 [2,3,15,17,18,20,21,22,29,30,31,32,35,42,43,44,47,54,55,56,59,66,67,68,71,78,79,80,83,90,91,92,95,102,103,104,107,114,115,116,119,121,122,124,125,126,128,129,131,132,133,135,136,138,139,140,142,143,145,146,147,149,150,152,153,154,156,157,159,160,161,163,164,166,167,168,170,171,173,174,175,177,178,180,181,182,184,185,187,188,189,191,192,194,195,196,198,199,201,202,203,205,206,208,209,210,212,213,215,216,217,219,220,222,223,224,226,227,229,230,231,233,234,236,237,238,240,241,243,244,245,247,248,250,251,252,255,256,257,265,267,268,270,271,272,274,275,277,278,279,281,282,284,285,286,288,289,291,292,293,295,296,298,299,300,302,303,305,306,307,309,310,312,313,314,317,318,319,320,321,322,323,326,328,329,331,332,340,342,343,345,346,347,349,350,352,353,354,356,357,359,360,361,363,364,366,367,368,370,371,373,374,375,377,378,380,381,382,385,386,387,390,391,392,395,396,397,400,401,402,404,405,407,408,409,411,412,414,415,416,418,419,421,422,423,424,425,426,427,437,439,440,442,443,444,446,447,449,450,451,454,455,456,459,460,461,463,464,466,467,468,470,471,473,474,475,477,478,480,481,482,484,485,487,488,489,492,493,494,496,497,499,500,501,502,503,504,505,508,510,511,513,514,515,517,518,520,521,522,524,525,527,528,529,531,532,534,535,536,538,539,541,542,543,545,546,548,549,550,552,553,555,556,557,559,560,562,563,564,566,567,569,570] (λ _=>rfl)).obs (kHook My.dummy.heap_39 [2,3,15,17,18,20,21,22,29,30,31,32,35,42,43,44,47,54,55,56,59,66,67,68,71,78,79,80,83,90,91,92,95,102,103,104,107,114,115,116,119,121,122,124,125,126,128,129,131,132,133,135,136,138,139,140,142,143,145,146,147,149,150,152,153,154,156,157,159,160,161,163,164,166,167,168,170,171,173,174,175,177,178,180,181,182,184,185,187,188,189,191,192,194,195,196,198,199,201,202,203,205,206,208,209,210,212,213,215,216,217,219,220,222,223,224,226,227,229,230,231,233,234,236,237,238,240,241,243,244,245,247,248,250,251,252,255,256,257,265,267,268,270,271,272,274,275,277,278,279,281,282,284,285,286,288,289,291,292,293,295,296,298,299,300,302,303,305,306,307,309,310,312,313,314,317,318,319,320,321,322,323,326,328,329,331,332,340,342,343,345,346,347,349,350,352,353,354,356,357,359,360,361,363,364,366,367,368,370,371,373,374,375,377,378,380,381,382,385,386,387,390,391,392,395,396,397,400,401,402,404,405,407,408,409,411,412,414,415,416,418,419,421,422,423,424,425,426,427,437,439,440,442,443,444,446,447,449,450,451,454,455,456,459,460,461,463,464,466,467,468,470,471,473,474,475,477,478,480,481,482,484,485,487,488,489,492,493,494,496,497,499,500,501,502,503,504,505,508,510,511,513,514,515,517,518,520,521,522,524,525,527,528,529,531,532,534,535,536,538,539,541,542,543,545,546,548,549,550,552,553,555,556,557,559,560,562,563,564,566,567,569,570] (λ _=>rfl)).val 8990 true 11 (λ P=>My.treeOf (boot_heap P).objs.toList) (λ P=>(boot_heap P).life) (w.withFollow "special-get-raises" true):=My.all_of (My.hlb_true w) (My.hld_true w) (My.hlf_true w) (My.hle_true w) (My.hlc_true w)
set_option maxRecDepth 100000 in
set_option maxHeartbeats 0 in
theorem My.hlQ:LeftO PySem.Challenge.rw_twotabs_k35_window_saved.row.prog My.viewQ ["DEEDS"] (λ s=>xlAt My.viewQ [] s && recOk (RowW.records PySem.Challenge.rw_twotabs_k35_window_saved.row.toRowW) s) (kHook My.dummy.heap_39 [2,3,15,17,18,20,21,22,29,30,31,32,35,42,43,44,47,54,55,56,59,66,67,68,71,78,79,80,83,90,91,92,95,102,103,104,107,114,115,116,119,121,122,124,125,126,128,129,131,132,133,135,136,138,139,140,142,143,145,146,147,149,150,152,153,154,156,157,159,160,161,163,164,166,167,168,170,171,173,174,175,177,178,180,181,182,184,185,187,188,189,191,192,194,195,196,198,199,201,202,203,205,206,208,209,210,212,213,215,216,217,219,220,222,223,224,226,227,229,230,231,233,234,236,237,238,240,241,243,244,245,247,248,250,251,252,255,256,257,265,267,268,270,271,272,274,275,277,278,279,281,282,284,285,286,288,289,291,292,293,295,296,298,299,300,302,303,305,306,307,309,310,312,313,314,317,318,319,320,321,322,323,326,328,329,331,332,340,342,343,345,346,347,349,350,352,353,354,356,357,359,360,361,363,364,366,367,368,370,371,373,374,375,377,378,380,381,382,385,386,387,390,391,392,395,396,397,400,401,402,404,405,407,408,409,411,412,414,415,416,418,419,421,422,423,424,425,426,427,437,439,440,442,443,444,446,447,449,450,451,454,455,456,459,460,461,463,464,466,467,468,470,471,473,474,475,477,478,480,481,482,484,485,487,488,489,492,493,494,496,497,499,500,501,502,503,504,505,508,510,511,513,514,515,517,518,520,521,522,524,525,527,528,529,531,532,534,535,536,538,539,541,542,543,545,546,548,549,550,552,553,555,556,557,559,560,562,563,564,566,567,569,570] (λ _=>rfl)).obs (kHook My.dummy.heap_39 [2,3,15,17,18,20,21,22,29,30,31,32,35,42,43,44,47,54,55,56,59,66,67,68,71,78,79,80,83,90,91,92,95,102,103,104,107,114,115,116,119,121,122,124,125,126,128,129,131,132,133,135,136,138,139,140,142,143,145,146,147,149,150,152,153,154,156,157,159,160,161,163,164,166,167,168,170,171,173,174,175,177,178,180,181,182,184,185,187,188,189,191,192,194,195,196,198,199,201,202,203,205,206,208,209,210,212,213,215,216,217,219,220,222,223,224,226,227,229,230,231,233,234,236,237,238,240,241,243,244,245,247,248,250,251,252,255,256,257,265,267,268,270,271,272,274,275,277,278,279,281,282,284,285,286,288,289,291,292,293,295,296,298,299,300,302,303,305,306,307,309,310,312,313,314,317,318,319,320,321,322,323,326,328,329,331,332,340,342,343,345,346,347,349,350,352,353,354,356,357,359,360,361,363,364,366,367,368,370,371,373,374,375,377,378,380,381,382,385,386,387,390,391,392,395,396,397,400,401,402,404,405,407,408,409,411,412,414,415,416,418,419,421,422,423,424,425,426,427,437,439,440,442,443,444,446,447,449,450,451,454,455,456,459,460,461,463,464,466,467,468,470,471,473,474,475,477,478,480,481,482,484,485,487,488,489,492,493,494,496,497,499,500,501,502,503,504,505,508,510,511,513,514,515,517,518,520,521,522,524,525,527,528,529,531,532,534,535,536,538,539,541,542,543,545,546,548,549,550,552,553,555,556,557,559,560,562,563,564,566,567,569,570] (λ _=>rfl)).val 8990:=by
 exact My.left_treeS "special-get-raises" (m0:=11) (T0:=λ P=>My.treeOf (boot_heap P).objs.toList) (L0:=λ P=>(boot_heap P).life) (by kernel_rfl) (by kernel_rfl) (λ s=>by kernel_rfl) (λ P=>by kernel_rfl) (λ P=>by kernel_rfl) My.hl_false My.hl_true
end
namespace L2
open PySem PySem.Spec PyProof.Rows
noncomputable abbrev Key:=Sum Int Str
noncomputable def zxy:Key→Value→Bool
 | .inl k,v=>Value.isInt k v
 | .inr x,v=>Value.isStrOf x v
noncomputable def keyH (w:World):Key→Int
 | .inl k=>hashInt k
 | .inr x=>hashStr w x
theorem zua:∀ {k:Key} {v:Value},zxy k v=true→(∃ i t,k=Sum.inl i∧v=Value.int i t) ∨ (∃ x t,k=Sum.inr x∧v=Value.str x t)
 | .inl i,v,h=>by
  obtain ⟨t,e⟩:=Value.isInt_shape (k:=i) (v:=v) h
  exact .inl ⟨i,t,rfl,e⟩
 | .inr x,v,h=>by
  obtain ⟨t,e⟩:=Value.isStrOf_shape (x:=x) (v:=v) h
  exact .inr ⟨x,t,rfl,e⟩
theorem zeq (i:Int) (t:Tok):zxy (.inl i) (.int i t)=true:=by simp [zxy,Value.isInt]
theorem zm1 (a b:Int):decide ((Sum.inl a:Key)=Sum.inl b)=(a == b):=by
 by_cases e:a=b
 ·subst e;simp
 ·have h:¬ (Sum.inl a:Key)=Sum.inl b:=λ q=>e (Sum.inl.inj q)
  rw [decide_eq_false h]
  exact (beq_eq_false_iff_ne.mpr e).symm
theorem zt3 (a b:Str):decide ((Sum.inr a:Key)=Sum.inr b)=decide (a=b):=by
 by_cases e:a=b
 ·subst e;simp
 ·have h:¬ (Sum.inr a:Key)=Sum.inr b:=λ q=>e (Sum.inr.inj q)
  rw [decide_eq_false h,decide_eq_false e]
theorem zh4 (a:Int) (b:Str):decide ((Sum.inl a:Key)=Sum.inr b)=false:=decide_eq_false (λ q=>nomatch q)
theorem zv4 (a:Str) (b:Int):decide ((Sum.inr a:Key)=Sum.inl b)=false:=decide_eq_false (λ q=>nomatch q)
noncomputable def zph (prog:Program) (w:World):PySem.KeyKind prog w Key where
 is:=zxy
 hash:=keyH w
 inj:=λ v a b ha hb=>by
  rcases zua ha with ⟨i,t,rfl,rfl⟩ | ⟨x,t,rfl,rfl⟩
  ·rcases zua hb with ⟨j,u,rfl,e⟩ | ⟨y,u,rfl,e⟩
   ·injection e with e1 _;rw [e1]
   ·exact nomatch e
  ·rcases zua hb with ⟨j,u,rfl,e⟩ | ⟨y,u,rfl,e⟩
   ·exact nomatch e
   ·injection e with e1 _;rw [e1]
 byValue:=λ k v h=>by
  rcases zua h with ⟨i,t,rfl,rfl⟩ | ⟨x,t,rfl,rfl⟩ <;> rfl
 pyHash:=λ hv h=>by
  rcases zua hv with ⟨i,t,rfl,rfl⟩ | ⟨x,t,rfl,rfl⟩
  ·exact wpAny_pyHash_int h
  ·exact wpAny_pyHash_str h
 eqBool:=λ hu hv h=>by
  rcases zua hu with ⟨i,t,rfl,rfl⟩ | ⟨x,t,rfl,rfl⟩
  ·rcases zua hv with ⟨j,u,rfl,rfl⟩ | ⟨y,u,rfl,rfl⟩
   ·rw [zm1] at h;exact wpAny_eqBool_int h
   ·rw [zh4] at h;exact SeqAt.EqAt.int_str i t y u _ _ _ _ h
  ·rcases zua hv with ⟨j,u,rfl,rfl⟩ | ⟨y,u,rfl,rfl⟩
   ·rw [zv4] at h;exact SeqAt.EqAt.str_int x t j u _ _ _ _ h
   ·rw [zt3] at h;exact wpAny_eqBool_str h
 «strs» := λ k x t v h=>by
  rcases zua h with ⟨i,u,rfl,e⟩ | ⟨y,u,rfl,e⟩
  ·exact nomatch e
  ·injection e with e1 _
   subst e1
   cases v <;> rfl
theorem zkf (prog:Program) (w:World) (i:Int) (t:Tok):(zph prog w).is (.inl i) (.int i t)=true:=zeq i t
end L2
namespace L2
open PySem PySem.Spec PyProof.Rows
inductive V where
 | non | bl (b:Bool) | int (i:Int) | str (x:Str) | byt (b:Array UInt8) | flt (b:UInt64) | ref (a:Addr) | ty (n:String)
 deriving DecidableEq
noncomputable def RelV:V→Value→Prop
 | .non,u=>u=Value.none
 | .bl b,u=>u=Value.bool b
 | .int i,u=>∃ t,u=Value.int i t
 | .str x,u=>∃ t,u=Value.str x t
 | .byt b,u=>∃ t,u=Value.bytes b t
 | .flt b,u=>∃ t,u=Value.float b t
 | .ref a,u=>u=Value.ref a
 | .ty n,u=>u=Value.type n
noncomputable abbrev Vals:List V→List Value→Prop:=Paired RelV
theorem Vals.length {xs:List V} {us:List Value} (r:Vals xs us):xs.length=us.length:=Paired.length r
theorem Vals.get:∀ {xs:List V} {us:List Value} {i:Nat} {x:V},Vals xs us→xs[i]? = some x→∃ u,us[i]? = some u∧RelV x u
 | _,_,_,_,.nil,e=>by simp at e
 | _,_,0,_,.cons r _,e=>by simp at e;subst e;exact ⟨_,rfl,r⟩
 | _,_,i+1,x,.cons _ t,e=>by
  obtain ⟨u,h1,h2⟩:=Vals.get (i:=i) (x:=x) t (by simpa using e)
  exact ⟨u,by simpa using h1,h2⟩
theorem Vals.set {x:V} {u:Value} (r:RelV x u):∀ {xs:List V} {us:List Value} (i:Nat),Vals xs us→Vals (xs.set i x) (us.set i u)
 | _,_,_,.nil=>.nil
 | _,_,0,.cons _ t=>.cons r t
 | _,_,i+1,.cons q t=>.cons q (Vals.set r i t)
theorem Vals.append:∀ {xs ys:List V} {us ws:List Value},Vals xs us→Vals ys ws→Vals (xs++ys) (us++ws)
 | _,_,_,_,.nil,s=>s
 | _,_,_,_,.cons r t,s=>.cons r (Vals.append t s)
theorem Vals.take:∀ {xs:List V} {us:List Value} (n:Nat),Vals xs us→Vals (xs.take n) (us.take n)
 | _,_,0,_=>.nil
 | _,_,_+1,.nil=>.nil
 | _,_,n+1,.cons r t=>.cons r (Vals.take n t)
theorem Vals.drop:∀ {xs:List V} {us:List Value} (n:Nat),Vals xs us→Vals (xs.drop n) (us.drop n)
 | _,_,0,r=>r
 | _,_,_+1,.nil=>.nil
 | _,_,n+1,.cons _ t=>Vals.drop n t
noncomputable def RelO:Option V→Option Value→Prop
 | some v,some u=>RelV v u
 | none,none=>True
 | _,_=>False
noncomputable def KV {κ:Type}:List (κ×V)→List (κ×Value)→Prop:=Paired λ (p:κ×V) (q:κ×Value)=>p.1=q.1∧RelV p.2 q.2
noncomputable def kV:Key→V
 | .inl i=>.int i
 | .inr x=>.str x
inductive HO where
 | lst (xs:List V)
 | tup (xs:List V)
 | dK (kvs:List (Key×V)) | dT (kvs:List (List Key×V))
 | set (S:Int→Bool) (n:Nat)
 | ins (C dx:Addr) (fs:List (Str×V))
 | own (x:Addr)
 | xd (fs:List (Str×V))
 | met (f x:Addr)
 | rng (lo hi:Int)
 | frz (o:Obj) (u:HO)
 | tbl (ps:Array Value)
 | ext (φ:Heap→Prop)
noncomputable abbrev Hp:=Addr→Option HO
noncomputable def upd (H:Hp) (a:Addr) (o:HO):Hp:=λ b=>if b=a then some o else H b
theorem upd_same {H:Hp} {a:Addr} {o:HO}:upd H a o a=some o:=by unfold upd;rw [if_pos rfl]
theorem zha {H:Hp} {a b:Addr} {o:HO} (h:b≠a):upd H a o b=H b:=by unfold upd;rw [if_neg h]
theorem zxd {H:Hp} {a b:Addr} {o u:HO} (h:H a=some o) (h':H b=some u) (d:o≠u):a≠b:=by
 intro e;subst e;rw [h] at h';exact d (Option.some.inj h')
theorem zca {H:Hp} {a b:Addr} {o:HO} (h:H a=some o) (h':H b=none):a≠b:=by
 intro e;subst e;rw [h] at h';cases h'
section
variable (P:Program) (w:World)
noncomputable def ObjOk (H:Hp) (h:Heap) (a:Addr):HO→Prop
 | .lst xs=>xs.length≤sizeLine∧∃ (its:List Value) (n:Nat),Vals xs its∧h.get? a=some { cls := .type "list",data := .seq its.toArray n }
 | .tup xs=>xs.length≤sizeLine∧∃ its:List Value,Vals xs its∧IsTup h a its.toArray
 | .dK kvs=>kvs.length≤sizeLine∧(a == sysModules)=false∧∃ vs,KV kvs vs∧h.DictOf (zph P w) a vs
 | .dT kvs=>kvs.length≤sizeLine∧(a == sysModules)=false∧∃ xs:List (List Key×Addr×Value),
   Paired (λ (p:List Key×V) (q:List Key×Addr×Value)=>p.1=q.1∧H q.2.1=some (.tup (p.1.map kV))∧RelV p.2 q.2.2) kvs xs ∧
   ∃ o es ep,h.get? a=some o∧o.ExactDict∧o.data = .dict es ep∧es.toList=xs.map (entryOfKey (tupleKind (zph P w)))∧(xs.map (·.1)).Nodup
 | .set S n=>h.SetOf (intKind P w) a S n
 | .ins C dx fs=>H dx=some (.own a)∧fs.length≤1000∧dx≠a∧h.get? a=some (W.instObj C dx) ∧
   ∃ mA,h.Ns1 dx mA∧(∀ f,RelO (fs.lookup f) (mA f))∧PySem.Within mA (fs.map (·.1))
 | .own _=>∃ o,h.get? a=some o
 | .xd fs=>∃ mA,h.Ns1 a mA∧∀ f,RelO (fs.lookup f) (mA f)
 | .rng lo hi=>∃ t u v,h.get? a=some { cls := .type "range",data := .fields #[.int lo t,.int hi u,.int 1 v] }
 | .frz o u=>h.get? a=some o∧ObjOk H h a u
 | .tbl ps=>h.get? a=some { cls := .none,data := .fields ps }
 | .met f x=>h.get? a=some (W.methodObj (.ref f) (.ref x))
 | .ext φ=>φ h∧(∃ o,h.get? a=some o)∧∀ h1 h2:Heap,φ h1→(∀ o,h1.get? a=some o→h2.get? a=some o)→φ h2
noncomputable def HOk (H:Hp) (h:Heap):Prop:=∀ a o,H a=some o→ObjOk P w H h a o
end
section
variable {P:Program} {w:World} {H H':Hp} {h h':Heap} {a:Addr} {o:HO}
theorem ObjOk.lt (x:ObjOk P w H h a o):a<h.objs.size:=by
 cases o with
 | lst xs=>obtain ⟨_,_,_,_,e⟩:=x;exact Heap.lt_size e
 | tup xs=>obtain ⟨_,_,_,p⟩:=x;exact p.lt
 | dK kvs=>obtain ⟨_,_,_,_,o,_,_,e,_⟩:=x;exact Heap.lt_size e
 | dT kvs=>obtain ⟨_,_,_,_,o,_,_,e,_⟩:=x;exact Heap.lt_size e
 | set S n=>obtain ⟨o,_,_,_,e,_⟩:=x;exact Heap.lt_size e
 | ins C dx fs=>obtain ⟨_,_,_,e,_⟩:=x;exact Heap.lt_size e
 | own y=>obtain ⟨_,e⟩:=x;exact Heap.lt_size e
 | xd fs=>obtain ⟨_,⟨_,_,_,e,_⟩,_⟩:=x;exact Heap.lt_size e
 | rng lo hi=>obtain ⟨_,_,_,e⟩:=x;exact Heap.lt_size e
 | frz ob u=>obtain ⟨e,_⟩:=x;exact Heap.lt_size e
 | tbl ps=>exact Heap.lt_size (show h.get? a=some _ from x)
 | met f y=>exact Heap.lt_size (show h.get? a=some _ from x)
 | ext φ=>obtain ⟨_,⟨_,e⟩,_⟩:=x;exact Heap.lt_size e
theorem Paired.mapP {α β:Type} {F G:α→β→Prop}:∀ {l₁:List α} {l₂:List β},Paired F l₁ l₂→(∀ a b,F a b→G a b)→Paired G l₁ l₂
 | _,_,.nil,_=>.nil
 | _,_,.cons r t,f=>.cons (f _ _ r) (Paired.mapP t f)
theorem ObjOk.stay (x:ObjOk P w H h a o) (k:∀ b u,(b=a ∨ H b=some (.own a))→h.get? b=some u→h'.get? b=some u)
  (ho:∀ b,H b=some (.own a)→H' b=some (.own a)) (ht:∀ b xs,H b=some (.tup xs)→H' b=some (.tup xs)):ObjOk P w H' h' a o:=by
 induction o with
 | lst xs=>obtain ⟨z,its,n,r,e⟩:=x;exact ⟨z,its,n,r,k _ _ (.inl rfl) e⟩
 | tup xs=>obtain ⟨z,its,r,ob,e,c⟩:=x;exact ⟨z,its,r,ob,k _ _ (.inl rfl) e,c⟩
 | dK kvs=>obtain ⟨z,y,vs,r,ob,es,ep,e,c⟩:=x;exact ⟨z,y,vs,r,ob,es,ep,k _ _ (.inl rfl) e,c⟩
 | dT kvs =>
  obtain ⟨z,y,xs,r,ob,es,ep,e,c⟩:=x
  exact ⟨z,y,xs,Paired.mapP r λ p q z=>⟨z.1,ht _ _ z.2.1,z.2.2⟩,ob,es,ep,k _ _ (.inl rfl) e,c⟩
 | set S n=>obtain ⟨ob,es,ep,t,e,c⟩:=x;exact ⟨ob,es,ep,t,k _ _ (.inl rfl) e,c⟩
 | ins C dx fs =>
  obtain ⟨d,z,ne,e,mA,⟨od,es,ep,e2,c⟩,r⟩:=x
  exact ⟨ho _ d,z,ne,k _ _ (.inl rfl) e,mA,⟨od,es,ep,k _ _ (.inr d) e2,c⟩,r⟩
 | own y=>obtain ⟨ob,e⟩:=x;exact ⟨ob,k _ _ (.inl rfl) e⟩
 | xd fs=>obtain ⟨mA,⟨od,es,ep,e,c⟩,r⟩:=x;exact ⟨mA,⟨od,es,ep,k _ _ (.inl rfl) e,c⟩,r⟩
 | rng lo hi=>obtain ⟨t,u,v,e⟩:=x;exact ⟨t,u,v,k _ _ (.inl rfl) e⟩
 | frz ob u ih=>obtain ⟨e,q⟩:=x;exact ⟨k _ _ (.inl rfl) e,ih q⟩
 | tbl ps =>
  have e:h.get? a=some { cls := .none,data := .fields ps }:=x
  show h'.get? a=some { cls := .none,data := .fields ps }
  exact k a _ (.inl rfl) e
 | met f y =>
  have e:h.get? a=some (W.methodObj (.ref f) (.ref y)):=x
  show h'.get? a=some (W.methodObj (.ref f) (.ref y))
  exact k a _ (.inl rfl) e
 | ext φ=>obtain ⟨p,⟨o,e⟩,st⟩:=x;exact ⟨st _ _ p λ o q=>k _ _ (.inl rfl) q,⟨o,k _ _ (.inl rfl) e⟩,st⟩
theorem HOk.lt (x:HOk P w H h) (e:H a=some o):a<h.objs.size:=(x a o e).lt
theorem HOk.fresh (x:HOk P w H h) (e:h.objs.size≤a):H a=none:=by
 cases q:H a with
 | none=>rfl
 | some u=>exact absurd (Nat.lt_of_lt_of_le (x.lt q) e) (Nat.lt_irrefl _)
theorem HOk.kept (x:HOk P w H h) (k:∀ b u,h.get? b=some u→h'.get? b=some u):HOk P w H h':=λ a o e =>
 (x a o e).stay (λ b u _ q=>k b u q) (λ _ q=>q) λ _ _ q=>q
theorem HOk.laid (x:HOk P w H h) (k:∀ b u,h.get? b=some u→h'.get? b=some u) (hp:h.objs.size≤a) (new:ObjOk P w (upd H a o) h' a o):HOk P w (upd H a o) h':=λ b u e=>by
 have hn:=x.fresh hp
 by_cases hb:b=a
 ·subst hb;rw [upd_same] at e;cases e;exact new
 ·rw [zha hb] at e
  exact (x b u e).stay (λ c v _ q=>k c v q) (λ c q=>by rw [zha (zca q hn)];exact q) λ c xs q=>by rw [zha (zca q hn)];exact q
end
noncomputable def Rd (H:Hp) (a:Addr) (u:HO):Prop:=H a=some u ∨ ∃ o,H a=some (.frz o u)
theorem Rd.ok {P:Program} {w:World} {H:Hp} {h:Heap} {a:Addr} {u:HO} (r:Rd H a u) (x:HOk P w H h):ObjOk P w H h a u:=by
 rcases r with r | ⟨o,r⟩
 ·exact x a u r
 ·obtain ⟨_,q⟩:=x a _ r
  exact q
noncomputable def Mut:Option HO→Prop
 | some (.lst _)=>True
 | some (.dK _)=>True
 | some (.dT _)=>True
 | some (.set _ _)=>True
 | some (.ins _ _ _)=>True
 | some (.ext _)=>True
 | _=>False
section
variable {P:Program} {w:World} {H:Hp} {h h':Heap} {x e:Addr} {o':HO}
theorem HOk.write (ok:HOk P w H h) (mu:Mut (H x)) (he:e=x ∨ H e=some (.own x)) (k:∀ b u,b≠e→h.get? b=some u→h'.get? b=some u) (heo:∃ u,h'.get? e=some u)
  (new:ObjOk P w (upd H x o') h' x o'):HOk P w (upd H x o') h':=λ b u q=>by
 have nown:∀ c y,H c=some (.own y)→c≠x:=λ c y r z=>by subst z;rw [r] at mu;exact mu
 have ntup:∀ c xs,H c=some (.tup xs)→c≠x:=λ c xs r z=>by subst z;rw [r] at mu;exact mu
 by_cases hb:b=x
 ·subst hb;rw [upd_same] at q;cases q;exact new
 ·rw [zha hb] at q
  by_cases hbe:b=e
  ·have q':H b=some (.own x):=by
    rcases he with z | z
    ·exact absurd (hbe.trans z) hb
    ·rw [hbe];exact z
   rw [q] at q';cases q'
   obtain ⟨v,hv⟩:=heo
   exact ⟨v,by rw [hbe];exact hv⟩
  ·refine (ok b u q).stay (λ c v hc r=>k c v ?_ r) (λ c r=>by rw [zha (nown c b r)];exact r) λ c xs r=>by rw [zha (ntup c xs r)];exact r
   rcases hc with rfl | hc
   ·exact hbe
   ·rintro rfl
    rcases he with z | z
    ·exact nown c b hc z
    ·rw [hc] at z;cases z;exact hb rfl
end
structure Un (fs ex:List Addr) (H H':Hp) (h h':Heap):Prop where
 keep:∀ b o,h.get? b=some o→H b=none→b∉fs→b∉ex→h'.get? b=some o
 slot:∀ b o,h.get? b=some o→H b=none→b∈fs→b∉ex→∃ sl,h'.get? b=some { o with slots:=sl }
 free:∀ b o,h.get? b=some o→H b=none→b∉ex→H' b=none
 there:∀ b o,h.get? b=some o→b∉ex→∃ o',h'.get? b=some o'
 tups:∀ b xs,H b=some (.tup xs)→H' b=some (.tup xs)
 frzs:∀ b o u,H b=some (.frz o u)→H' b=some (.frz o u)
 tbls:∀ b ps,H b=some (.tbl ps)→∃ more,H' b=some (.tbl (ps++more))
section
variable {fs fs' ex ex':List Addr} {H H1 H2:Hp} {h h1 h2 h':Heap} {a x e:Addr} {o:HO}
theorem Un.any (u:Un fs ex H H1 h h1) {b:Addr} {ob:Obj} (q:h.get? b=some ob) (n:H b=none) (hx:b∉ex):∃ sl,h1.get? b=some { ob with slots:=sl }:=by
 by_cases hb:b∈fs
 ·exact u.slot b ob q n hb hx
 ·exact ⟨ob.slots,u.keep b ob q n hb hx⟩
theorem Un.kept (k:∀ b u,h.get? b=some u→h'.get? b=some u):Un fs ex H H h h' :=
 ⟨λ b ob q _ _ _=>k b ob q,λ b ob q _ _ _=>⟨ob.slots,k b ob q⟩,λ _ _ _ n _=>n,λ b ob q _=>⟨ob,k b ob q⟩,λ _ _ q=>q,λ _ _ _ q=>q,λ _ ps q=>⟨#[],by rw [q];simp⟩⟩
theorem Un.refl:Un fs ex H H h h:=Un.kept λ _ _ q=>q
theorem Un.laid (k:∀ b u,h.get? b=some u→h'.get? b=some u) (hp:h.objs.size≤a) (hn:H a=none):Un fs ex H (upd H a o) h h' where
 keep:=λ b u q _ _ _=>k b u q
 slot:=λ b u q _ _ _=>⟨u.slots,k b u q⟩
 free:=λ b u q n _=>by rw [zha (Nat.ne_of_lt (Nat.lt_of_lt_of_le (Heap.lt_size q) hp))];exact n
 there:=λ b u q _=>⟨u,k b u q⟩
 tups:=λ b xs q=>by rw [zha (zca q hn)];exact q
 frzs:=λ b u xs q=>by rw [zha (zca q hn)];exact q
 tbls:=λ b ps q=>⟨#[],by rw [zha (zca q hn),q];simp⟩
theorem Un.write (mu:Mut (H x)) (he:e=x ∨ H e=some (.own x)) (k:∀ b u,b≠e→h.get? b=some u→h'.get? b=some u) (heo:∃ u,h'.get? e=some u):Un fs ex H (upd H x o) h h':=by
 have hx:∀ b,H b=none→b≠x:=λ b n z=>by subst z;rw [n] at mu;exact mu
 have hb:∀ b,H b=none→b≠e:=λ b n z=>by
  subst z
  rcases he with r | r
  ·exact hx b n r
  ·rw [n] at r;cases r
 have hm:∀ b u,H b=some u→¬ Mut (some u)→b≠x:=λ b u q nm z=>by subst z;rw [q] at mu;exact nm mu
 refine ⟨λ b u q n _ _=>k b u (hb b n) q,λ b u q n _ _=>⟨u.slots,k b u (hb b n) q⟩,λ b u q n _=>by rw [zha (hx b n)];exact n,λ b u q _=>?_,
  λ b xs q=>by rw [zha (hm b _ q λ z=>z)];exact q,λ b u xs q=>by rw [zha (hm b _ q λ z=>z)];exact q,λ b ps q=>⟨#[],by rw [zha (hm b _ q λ z=>z),q];simp⟩⟩
 by_cases hbe:b=e
 ·subst hbe;exact heo
 ·exact ⟨u,k b u hbe q⟩
end
noncomputable def trk (h:Heap) (H:Hp):List Addr:=(List.range h.objs.size).filter λ a=>(H a).isSome
noncomputable def hidT (h:Heap) (H:Hp):Heap:=W.hideAll h (trk h H)
theorem zbq (h:Heap) (H:Hp):(hidT h H).objs.size=h.objs.size:=W.hideAll_size _ _
theorem zat {h:Heap} {H:Hp} {b:Addr} {o:Obj} (e:h.get? b=some o) (n:H b=none):(hidT h H).get? b=some o :=
 W.hideAll_get _ e λ hm=>by
  have q:(H b).isSome=true:=(List.mem_filter.mp hm).2
  rw [n] at q;simp at q
theorem zsy {h:Heap} {H:Hp} {b:Addr} {o:Obj} (e:(hidT h H).get? b=some o):h.get? b=some o∧H b=none:=by
 have e':h.get? b=some o:=W.of_hideAll (trk h H) e
 refine ⟨e',?_⟩
 cases q:H b with
 | none=>rfl
 | some x =>
  have hm:b∈trk h H:=List.mem_filter.mpr ⟨List.mem_range.mpr (Heap.lt_size e'),by simp [q]⟩
  have z:(hidT h H).get? b=none:=W.hideAll_none (trk h H) hm
  rw [z] at e;cases e
end L2
namespace L2
open PySem PySem.Spec PyProof.Rows
structure Mod (K:W.Frag) (mg:Str→Option Value) (base:Heap):Prop where
 kin:K.In base
 glob:base.Ns mainGlobals mg
 blt:∃ mb,base.Ns builtinsNs mb∧∀ x:Str,x ≠ "__name__" → mb x=bootBuiltins x
 nolimit:base.NoLimit
structure Cx where
 prog:Program
 w:World
 K:W.Frag
 mg:Str→Option Value
 base:Heap
 A:Around
 N:List Str
 s₀:Shared
 H₀:Hp
 env:Env
 outer:List Env
 stack:List Env
 ex:List Addr
 fn:Str→Bool
 calm:Bool
 pn:List (Addr×Obj)
 xe:Value→Shared→Prop
noncomputable def frs (l:List Env):List Addr:=l.filterMap (·.frame)
noncomputable abbrev Cx.fs (X:Cx):List Addr:=frs X.outer
noncomputable def Vis (sc:Scope) (x:Str):Prop:=sc.names.lookup x=some .local ∨ sc.names.lookup x=some .cell ∨ sc.names.lookup x=some .free
noncomputable def Loc (sc:Scope) (x:Str):Prop:=sc.names.lookup x=some .local ∨ sc.names.lookup x=some .cell
noncomputable def Look (env:Env) (h:Heap) (m:Str→Option Value) (x:Str) (u:Value):Prop :=
 (env.kindOf x=some .local∧m x=some u) ∨ ((env.kindOf x=some .cell ∨ env.kindOf x=some .free)∧∃ c,env.cells.lookup x=some c∧h.IsCell c (some u))
structure Cx.Ok (X:Cx):Prop where
 mod:Mod X.K X.mg X.base
 kind:X.env.scope.kind = .function
 glob:X.env.globals=mainGlobals
 blt:X.env.builtins=builtinsNs
 above:X.s₀.heap.objs.size≤X.env.locals
 inj:∀ x y c,X.env.cells.lookup x=some c→X.env.cells.lookup y=some c→x=y
 has:∀ x,(X.env.kindOf x=some .cell ∨ X.env.kindOf x=some .free)→∃ c,X.env.cells.lookup x=some c
 cab:∀ x c,X.fn x=true→X.env.cells.lookup x=some c→X.s₀.heap.objs.size≤c
 hd:X.calm=true→X.A.handled=none
 frames:X.A.frames=some X.stack
 stk:X.stack=X.outer ∨ (X.stack=X.env::X.outer∧X.env.frame=some X.env.locals)
 exf:∀ b∈X.ex,b≠X.env.locals∧∀ x c,X.env.cells.lookup x=some c→c≠b
 bs:∀ b o,X.base.get? b=some o→X.s₀.heap.get? b=some o∧X.H₀ b=none
 bsz:X.base.objs.size≤X.s₀.heap.objs.size
 noex:∀ b o,X.base.get? b=some o→b∉X.ex
 exfs:∀ b∈X.ex,b∉X.fs
 funs:X.s₀.heap.FunFrames X.base X.outer
 frf:∀ b∈X.fs,X.H₀ b=none
structure Inv (X:Cx) (pins:List (Addr×Obj)) (σ:List (Option V)) (H:Hp) (s:Shared):Prop where
 ok:X.Ok
 os:s.os=X.s₀.os
 bare:AllBare s.gens
 base:Un X.fs X.ex X.H₀ H X.s₀.heap s.heap
 loc:∃ m,s.heap.Ns X.env.locals m∧∀ (i:Nat) (x:Str) (v:V),X.N[i]? = some x→σ[i]? = some (some v)→Vis X.env.scope x→∃ u,RelV v u∧Look X.env s.heap m x u
 cell:∀ x c,X.env.cells.lookup x=some c→∃ v,s.heap.IsCell c v
 free:H X.env.locals=none
 freeC:∀ x c,X.env.cells.lookup x=some c→H c=none
 pin:∀ p∈X.pn++pins,s.heap.get? p.1=some p.2∧H p.1=none∧p.1≠X.env.locals∧p.1∉X.fs∧∀ v,p.2.data ≠ .cell v
 hok:HOk X.prog X.w H s.heap
 len:σ.length=X.N.length
section
variable {X:Cx} {pins:List (Addr×Obj)} {σ:List (Option V)} {H H':Hp} {s:Shared} {h':Heap}
theorem Cx.Ok.nofr (ok:X.Ok) {b:Addr} {o:Obj} (e:X.base.get? b=some o):b∉X.fs:=λ hb=>by
 have:=(ok.funs.mem hb).1
 rw [e] at this;cases this
theorem Inv.bs (I:Inv X pins σ H s):∀ b o,X.base.get? b=some o→s.heap.get? b=some o∧H b=none:=λ b o e =>
 ⟨I.base.keep b o (I.ok.bs b o e).1 (I.ok.bs b o e).2 (I.ok.nofr e) (I.ok.noex b o e),I.base.free b o (I.ok.bs b o e).1 (I.ok.bs b o e).2 (I.ok.noex b o e)⟩
theorem Inv.bk (I:Inv X pins σ H s):∀ b o,X.base.get? b=some o→s.heap.get? b=some o:=λ b o e=>(I.bs b o e).1
theorem Inv.mod (I:Inv X pins σ H s):Mod X.K X.mg X.base:=I.ok.mod
theorem Inv.kIn (I:Inv X pins σ H s):X.K.In s.heap:=I.ok.mod.kin.keeps I.bk
theorem Inv.lt (I:Inv X pins σ H s):X.env.locals<s.heap.objs.size:=let ⟨_,hn,_⟩:=I.loc;hn.lt
theorem Inv.sz (I:Inv X pins σ H s):X.s₀.heap.objs.size≤s.heap.objs.size:=Nat.le_trans I.ok.above (Nat.le_of_lt I.lt)
theorem Inv.nofs (I:Inv X pins σ H s) {a:Addr} (h:s.heap.objs.size≤a):a∉X.fs:=λ hb=>by
 obtain ⟨_,o,ho,_⟩:=I.ok.funs.mem hb
 exact absurd (Nat.lt_of_lt_of_le (Heap.lt_size ho) (Nat.le_trans I.sz h)) (Nat.lt_irrefl _)
theorem Inv.cne (I:Inv X pins σ H s):∀ x c,X.env.cells.lookup x=some c→c≠X.env.locals:=λ x c e z=>by
 obtain ⟨v,o,ho,hd⟩:=I.cell x c e
 obtain ⟨m,⟨o',es,ep,ho',hd',_⟩,_⟩:=I.loc
 rw [z,ho'] at ho;cases ho;rw [hd'] at hd;cases hd
theorem Inv.funs (I:Inv X pins σ H s):s.heap.FunFrames X.base X.outer:=by
 have all:∀ (l:List Env),(∀ b∈frs l,b∈X.fs)→X.s₀.heap.FunFrames X.base l→s.heap.FunFrames X.base l:=by
  intro l
  induction l with
  | nil=>intro _ _;trivial
  | cons env r ih =>
   intro hs hl
   obtain ⟨hk,⟨L,o,hf,hn,ho,hd⟩,hr⟩:=hl
   have hL:L∈X.fs:=hs L (by unfold frs;rw [List.filterMap_cons,hf];exact List.mem_cons_self)
   obtain ⟨sl,e⟩:=I.base.slot L o ho (I.ok.frf L hL) hL λ z=>I.ok.exfs L z hL
   exact ⟨hk,⟨L,_,hf,hn,e,hd⟩,ih (λ b hb=>hs b (by unfold frs;rw [List.filterMap_cons,hf];exact List.mem_cons_of_mem _ hb)) hr⟩
 exact all X.outer (λ _ hb=>hb) I.ok.funs
theorem Inv.stack (I:Inv X pins σ H s):s.heap.FunFrames X.base X.stack:=by
 rcases I.ok.stk with e | ⟨e,hf⟩
 ·rw [e];exact I.funs
 ·rw [e]
  obtain ⟨m,hn,_⟩:=I.loc
  refine .cons (by rw [I.ok.kind];decide) hf hn ?_ I.funs
  exact Heap.get?_none_of_le (Nat.le_trans I.ok.bsz I.ok.above)
theorem Inv.stkSub (I:Inv X pins σ H s):∀ b∈frs X.stack,b∈X.env.locals::X.fs:=λ b hb=>by
 rcases I.ok.stk with e | ⟨e,hf⟩
 ·rw [e] at hb;exact List.mem_cons_of_mem _ hb
 ·rw [e] at hb
  unfold frs at hb
  rw [List.filterMap_cons,hf] at hb
  exact hb
theorem Inv.stkFree (I:Inv X pins σ H s):∀ b∈frs X.stack,H b=none:=λ b hb=>by
 rcases List.mem_cons.mp (I.stkSub b hb) with e | hb
 ·rw [e];exact I.free
 ·obtain ⟨_,o,ho,_⟩:=I.ok.funs.mem hb
  exact I.base.free b o ho (I.ok.frf b hb) λ z=>I.ok.exfs b z hb
theorem Inv.step {g':Array GenState} {t':Nat} {d':Drawn} {ch:List Addr} (I:Inv X pins σ H s)
  (hch:∀ b∈ch,(b∈X.ex ∨ X.s₀.heap.objs.size≤b)∧b≠X.env.locals∧(∀ x c,X.env.cells.lookup x=some c→c≠b)∧∀ p∈X.pn++pins,p.1≠b)
  (keep:∀ b o,b≠X.env.locals→b∉X.fs→b∉ch→s.heap.get? b=some o→H b=none→h'.get? b=some o)
  (slot:∀ b o,b≠X.env.locals→b∈X.fs→b∉ch→s.heap.get? b=some o→H b=none→∃ sl,h'.get? b=some { o with slots:=sl }) (free:∀ b o,b∉ch→s.heap.get? b=some o→H b=none→H' b=none)
  (there:∀ b o,b∉ch→s.heap.get? b=some o→∃ o',h'.get? b=some o')
  (tups:∀ b xs,H b=some (.tup xs)→H' b=some (.tup xs)) (frzs:∀ b o u,H b=some (.frz o u)→H' b=some (.frz o u)) (tbls:∀ b ps,H b=some (.tbl ps)→∃ more,H' b=some (.tbl (ps++more)))
  (ns:∀ m,s.heap.Ns X.env.locals m→h'.Ns X.env.locals m) (hok:HOk X.prog X.w H' h') (hg:AllBare g') :
  Inv X pins σ H' { s with heap:=h',gens:=g',drawn:=d',toks:=t' }:=by
 have neL:∀ b o,X.s₀.heap.get? b=some o→b≠X.env.locals:=λ b o e=>Nat.ne_of_lt (Nat.lt_of_lt_of_le (Heap.lt_size e) I.ok.above)
 have neC:∀ b o,X.s₀.heap.get? b=some o→b∉X.ex→b∉ch:=λ b o e hx hb=>by
  rcases (hch b hb).1 with z | z
  ·exact hx z
  ·exact absurd (Nat.lt_of_lt_of_le (Heap.lt_size e) z) (Nat.lt_irrefl _)
 have cellK:∀ x c,X.env.cells.lookup x=some c→∀ v,s.heap.IsCell c v→h'.IsCell c v:=λ x c e v ⟨o,ho,hd⟩=>by
  have nch:c∉ch:=λ z=>(hch c z).2.2.1 x c e rfl
  by_cases hc:c∈X.fs
  ·obtain ⟨sl,q⟩:=slot c o (I.cne x c e) hc nch ho (I.freeC x c e)
   exact ⟨_,q,hd⟩
  ·exact ⟨o,keep c o (I.cne x c e) hc nch ho (I.freeC x c e),hd⟩
 refine ⟨I.ok,I.os,hg,⟨λ b o e n hb hx=>?_,λ b o e n hb hx=>?_,λ b o e n hx=>?_,λ b o e hx=>?_,λ b xs e=>tups b xs (I.base.tups b xs e),λ b o xs e=>frzs b o xs (I.base.frzs b o xs e),λ b ps e=>?_⟩,?_,λ x c e=>?_,?_,λ x c e=>?_,λ p hp=>?_,hok,I.len⟩
 ·exact keep b o (neL b o e) hb (neC b o e hx) (I.base.keep b o e n hb hx) (I.base.free b o e n hx)
 ·obtain ⟨sl,e1⟩:=I.base.slot b o e n hb hx
  obtain ⟨sl',e2⟩:=slot b _ (neL b o e) hb (neC b o e hx) e1 (I.base.free b o e n hx)
  exact ⟨sl',e2⟩
 ·obtain ⟨o',e1⟩:=I.base.there b o e hx
  exact free b o' (neC b o e hx) e1 (I.base.free b o e n hx)
 ·obtain ⟨o',e1⟩:=I.base.there b o e hx
  exact there b o' (neC b o e hx) e1
 ·obtain ⟨m1,e1⟩:=I.base.tbls b ps e
  obtain ⟨m2,e2⟩:=tbls b _ e1
  exact ⟨m1++m2,by rw [e2,Array.append_assoc]⟩
 ·obtain ⟨m,hn,hl⟩:=I.loc
  refine ⟨m,ns m hn,λ i x v e1 e2 e3=>?_⟩
  obtain ⟨u,r,l⟩:=hl i x v e1 e2 e3
  refine ⟨u,r,?_⟩
  rcases l with l | ⟨k,c,e,z⟩
  ·exact .inl l
  ·exact .inr ⟨k,c,e,cellK x c e _ z⟩
 ·obtain ⟨v,z⟩:=I.cell x c e
  exact ⟨v,cellK x c e v z⟩
 ·obtain ⟨m,⟨o,_,_,ho,_⟩,_⟩:=I.loc
  exact free _ o (λ z=>(hch _ z).2.1 rfl) ho I.free
 ·obtain ⟨v,o,ho,hd⟩:=I.cell x c e
  exact free c o (λ z=>(hch c z).2.2.1 x c e rfl) ho (I.freeC x c e)
 ·obtain ⟨e,n,ne,nf,d⟩:=I.pin p hp
  have nch:p.1∉ch:=λ z=>(hch p.1 z).2.2.2 p hp rfl
  exact ⟨keep p.1 p.2 ne nf nch e n,free p.1 p.2 nch e n,ne,nf,d⟩
theorem Inv.un {t':Nat} (I:Inv X pins σ H s) (u:Un X.fs [] H H' s.heap h') (hok:HOk X.prog X.w H' h'):Inv X pins σ H' { s with heap:=h',toks:=t' }:=by
 obtain ⟨m,⟨o,es,ep,ho,r⟩,_⟩:=id I.loc
 obtain ⟨sl,hL⟩:=u.any ho I.free (by simp)
 exact I.step (g':=s.gens) (d':=s.drawn) (ch:=[]) (λ _ z=>nomatch z) (λ b o _ hb _ e n=>u.keep b o e n hb (by simp)) (λ b o _ hb _ e n=>u.slot b o e n hb (by simp)) (λ b o _ e n=>u.free b o e n (by simp)) (λ b o _ e=>u.there b o e (by simp)) u.tups u.frzs u.tbls (λ m' hm=>by
  obtain ⟨o',es',ep',ho',r'⟩:=hm
  rw [ho] at ho';cases ho'
  exact ⟨_,es',ep',hL,r'⟩) hok I.bare
theorem Inv.call {g':Array GenState} {t':Nat} {d':Drawn} {ch:List Addr} (I:Inv X pins σ H s) (u:Un (frs X.stack) ch H H' s.heap h') (hok:HOk X.prog X.w H' h') (hg:AllBare g')
  (hch:∀ b∈ch,(b∈X.ex ∨ X.s₀.heap.objs.size≤b)∧b≠X.env.locals∧(∀ x c,X.env.cells.lookup x=some c→c≠b)∧∀ p∈X.pn++pins,p.1≠b) :
  Inv X pins σ H' { s with heap:=h',gens:=g',drawn:=d',toks:=t' }:=by
 obtain ⟨m,⟨o,es,ep,ho,r⟩,_⟩:=id I.loc
 obtain ⟨sl,hL⟩:=u.any ho I.free λ z=>(hch _ z).2.1 rfl
 exact I.step (ch:=ch) hch (λ b o hL hb hc e n=>u.keep b o e n (λ z=>(List.mem_cons.mp (I.stkSub b z)).elim hL hb) hc) (λ b o _ _ hc e n=>u.any e n hc) (λ b o hc e n=>u.free b o e n hc) (λ b o hc e=>u.there b o e hc) u.tups u.frzs u.tbls (λ m' hm=>by
  obtain ⟨o',es',ep',ho',r'⟩:=hm
  rw [ho] at ho';cases ho'
  exact ⟨_,es',ep',hL,r'⟩) hok hg
theorem Inv.turned {t':Nat} {it:Addr} (I:Inv X pins σ H s) (k:∀ b o,b≠it→s.heap.get? b=some o→h'.get? b=some o) (hn:H it=none) (hL:it≠X.env.locals)
  (h1:it∈X.ex ∨ X.s₀.heap.objs.size≤it) (h2:∀ x c,X.env.cells.lookup x=some c→c≠it) (h3:∀ p∈X.pn++pins,p.1≠it):Inv X pins σ H { s with heap:=h',toks:=t' }:=by
 have nit:∀ b u,H b=some u→b≠it:=λ b u e z=>by rw [z,hn] at e;cases e
 refine I.step (g':=s.gens) (d':=s.drawn) (ch:=[it]) (λ b hb=>?_) (λ b o _ _ hc e _=>k b o (λ z=>hc (by simp [z])) e) (λ b o _ _ hc e _=>⟨o.slots,k b o (λ z=>hc (by simp [z])) e⟩) (λ _ _ _ _ n=>n)
  (λ b o hc e=>⟨o,k b o (λ z=>hc (by simp [z])) e⟩) (λ _ _ e=>e) (λ _ _ _ e=>e) (λ b ps e=>⟨#[],by rw [e];simp⟩) (λ m hm=>?_) (λ b u e=>?_) I.bare
 ·have e:b=it:=by simpa using hb
  subst e
  exact ⟨h1,hL,h2,h3⟩
 ·obtain ⟨o,es,ep,ho,r⟩:=hm
  exact ⟨o,es,ep,k _ o (Ne.symm hL) ho,r⟩
 ·refine (I.hok b u e).stay (λ c v hc q=>k c v ?_ q) (λ _ q=>q) λ _ _ q=>q
  rcases hc with z | z
  ·rw [z];exact nit b u e
  ·exact nit c _ z
theorem Inv.tok (I:Inv X pins σ H s) (t:Nat):Inv X pins σ H { s with toks:=t }:=I.un (h':=s.heap) (t':=t) Un.refl I.hok
theorem Inv.kept {t':Nat} (I:Inv X pins σ H s) (k:∀ b u,s.heap.get? b=some u→h'.get? b=some u):Inv X pins σ H { s with heap:=h',toks:=t' }:=I.un (Un.kept k) (I.hok.kept k)
theorem Inv.laid {a:Addr} {o:HO} {t':Nat} (I:Inv X pins σ H s) (k:∀ b u,s.heap.get? b=some u→h'.get? b=some u) (hp:s.heap.objs.size≤a) (new:ObjOk X.prog X.w (upd H a o) h' a o) :
  Inv X pins σ (upd H a o) { s with heap:=h',toks:=t' }:=I.un (Un.laid k hp (I.hok.fresh hp)) (I.hok.laid k hp new)
theorem Inv.write {x e:Addr} {o:HO} {t':Nat} (I:Inv X pins σ H s) (mu:Mut (H x)) (he:e=x ∨ H e=some (.own x)) (k:∀ b u,b≠e→s.heap.get? b=some u→h'.get? b=some u) (heo:∃ u,h'.get? e=some u)
  (new:ObjOk X.prog X.w (upd H x o) h' x o):Inv X pins σ (upd H x o) { s with heap:=h',toks:=t' }:=I.un (Un.write mu he k heo) (I.hok.write mu he k heo new)
theorem Inv.weak {σ':List (Option V)} (I:Inv X pins σ H s) (hl:σ'.length=σ.length) (w:∀ (i:Nat) v,σ'[i]? = some (some v)→σ[i]? = some (some v)):Inv X pins σ' H s :=
 ⟨I.ok,I.os,I.bare,I.base,let ⟨m,hn,hl'⟩:=I.loc; ⟨m,hn,λ i x v e1 e2 e3=>hl' i x v e1 (w i v e2) e3⟩,I.cell,I.free,I.freeC,I.pin,I.hok,hl.trans I.len⟩
theorem Inv.pins_of {pins':List (Addr×Obj)} (I:Inv X pins σ H s) (h:∀ p∈pins',s.heap.get? p.1=some p.2∧H p.1=none∧p.1≠X.env.locals∧p.1∉X.fs∧∀ v,p.2.data ≠ .cell v):Inv X pins' σ H s :=
 ⟨I.ok,I.os,I.bare,I.base,I.loc,I.cell,I.free,I.freeC,λ p hp=>(List.mem_append.mp hp).elim (λ z=>I.pin p (List.mem_append_left _ z)) (h p),I.hok,I.len⟩
theorem zhl {N:List Str} (hN:N.Nodup) {i j:Nat} {x:Str} (a:N[i]? = some x) (b:N[j]? = some x):i=j:=by
 obtain ⟨h1,e1⟩:=List.getElem?_eq_some_iff.mp a
 obtain ⟨h2,e2⟩:=List.getElem?_eq_some_iff.mp b
 exact (List.getElem_inj hN).mp (e1.trans e2.symm)
theorem zsi {M:Model} {A:Around} {E:Value→Shared→Prop} {i:Nat} {x:Str} {v:V} {u:Value} {Q:Unit→Shared→Prop} (I:Inv X pins σ H s) (hN:X.N.Nodup) (hi:X.N[i]? = some x) (hx:Loc X.env.scope x) (r:RelV v u)
  (h:∀ s',Inv X pins (σ.set i (some v)) H s'→(∃ a,Heap.SameBut a s.heap s'.heap∧(a=X.env.locals ∨ X.env.cells.lookup x=some a))→Q () s') (hf:X.fn x=true ∨ X.env.scope.names.lookup x=some .local:=by first | exact .inl rfl | exact .inr rfl | assumption):wpAny M A (storeName X.env x u) Q E s:=by
 obtain ⟨m,hn,hl⟩:=id I.loc
 have hcls:(X.env.scope.kind == .class || (X.env.scope.kind == .module && X.env.locals != X.env.globals))=false:=by rw [I.ok.kind];rfl
 have hiσ:i<σ.length:=by rw [I.len];exact (List.getElem?_eq_some_iff.mp hi).1
 have cne:=I.cne
 have tracked:∀ {a:Addr} {h':Heap},(∃ o,s.heap.get? a=some o∧H a=none)→Heap.SameBut a s.heap h'→HOk X.prog X.w H h':=fun {a h'} ha hs b ob e=>by
  obtain ⟨_,_,hfree⟩:=ha
  refine (I.hok b ob e).stay (λ c w' hc q=>(hs.2 c ?_).trans q) (λ _ q=>q) λ _ _ q=>q
  rintro rfl
  rcases hc with rfl | hc
  ·rw [hfree] at e;cases e
  ·rw [hfree] at hc;cases hc
 rcases hx with hk | hk
 ·refine wpAny_storeName_local hk hn (λ h' hn' hs=>?_) hcls
  obtain ⟨oL,_,_,hoL,_⟩:=id hn
  refine h _ ⟨I.ok,I.os,I.bare,⟨λ b o e n hb hx=>?_,λ b o e n hb hx=>?_,I.base.free,λ b o e hx=>?_,I.base.tups,I.base.frzs,I.base.tbls⟩,⟨_,hn',λ j y v' e1 e2 e3=>?_⟩,λ y c e=>?_,I.free,I.freeC,λ p hp=>?_,tracked ⟨oL,hoL,I.free⟩ hs,by simpa using I.len⟩ ⟨_,hs,.inl rfl⟩
  ·exact (hs.2 b (Nat.ne_of_lt (Nat.lt_of_lt_of_le (Heap.lt_size e) I.ok.above))).trans (I.base.keep b o e n hb hx)
  ·obtain ⟨sl,e1⟩:=I.base.slot b o e n hb hx
   exact ⟨sl,(hs.2 b (Nat.ne_of_lt (Nat.lt_of_lt_of_le (Heap.lt_size e) I.ok.above))).trans e1⟩
  ·obtain ⟨o',e1⟩:=I.base.there b o e hx
   exact ⟨o',(hs.2 b (Nat.ne_of_lt (Nat.lt_of_lt_of_le (Heap.lt_size e) I.ok.above))).trans e1⟩
  ·by_cases hj:j=i
   ·subst hj
    rw [hi] at e1;cases e1
    rw [List.getElem?_set_self hiσ] at e2
    cases e2
    exact ⟨u,r,.inl ⟨hk,by simp⟩⟩
   ·rw [List.getElem?_set_ne (Ne.symm hj)] at e2
    obtain ⟨u',r',q⟩:=hl j y v' e1 e2 e3
    refine ⟨u',r',?_⟩
    rcases q with ⟨k,e⟩ | ⟨k,c,e,z⟩
    ·refine .inl ⟨k,?_⟩
     have:y≠x:=λ e=>hj (zhl hN e1 (e ▸ hi))
     simp [this,e]
    ·exact .inr ⟨k,c,e,z.sameBut hs (cne y c e)⟩
  ·obtain ⟨w',z⟩:=I.cell y c e
   exact ⟨w',z.sameBut hs (cne y c e)⟩
  ·obtain ⟨e,n,ne,nf,d⟩:=I.pin p hp
   exact ⟨(hs.2 p.1 ne).trans e,n,ne,nf,d⟩
 ·have hfn:X.fn x=true:=by
   rcases hf with z | z
   ·exact z
   ·rw [z] at hk;cases hk
  obtain ⟨c,hc⟩:=I.ok.has x (.inl hk)
  obtain ⟨w',z⟩:=I.cell x c hc
  refine wpAny_storeName_cell I.ok.kind hk hc z (λ h' hc' hs=>?_)
  obtain ⟨oc,hoc,hocd⟩:=id z
  refine h { s with heap:=h' } ⟨I.ok,I.os,I.bare,⟨λ b o e n hb hx=>?_,λ b o e n hb hx=>?_,I.base.free,λ b o e hx=>?_,I.base.tups,I.base.frzs,I.base.tbls⟩,⟨m,hn.sameBut hs (Ne.symm (cne x c hc)),λ j y v' e1 e2 e3=>?_⟩,λ y c' e=>?_,I.free,I.freeC,λ p hp=>?_,tracked ⟨oc,hoc,I.freeC x c hc⟩ hs,by simpa using I.len⟩ ⟨c,hs,.inr hc⟩
  ·exact (hs.2 b (Nat.ne_of_lt (Nat.lt_of_lt_of_le (Heap.lt_size e) (I.ok.cab x c hfn hc)))).trans (I.base.keep b o e n hb hx)
  ·obtain ⟨sl,e1⟩:=I.base.slot b o e n hb hx
   exact ⟨sl,(hs.2 b (Nat.ne_of_lt (Nat.lt_of_lt_of_le (Heap.lt_size e) (I.ok.cab x c hfn hc)))).trans e1⟩
  ·obtain ⟨o',e1⟩:=I.base.there b o e hx
   exact ⟨o',(hs.2 b (Nat.ne_of_lt (Nat.lt_of_lt_of_le (Heap.lt_size e) (I.ok.cab x c hfn hc)))).trans e1⟩
  ·by_cases hj:j=i
   ·subst hj
    rw [hi] at e1;cases e1
    rw [List.getElem?_set_self hiσ] at e2
    cases e2
    exact ⟨u,r,.inr ⟨.inl hk,c,hc,hc'⟩⟩
   ·rw [List.getElem?_set_ne (Ne.symm hj)] at e2
    obtain ⟨u',r',q⟩:=hl j y v' e1 e2 e3
    refine ⟨u',r',?_⟩
    rcases q with q | ⟨k,c',e,z'⟩
    ·exact .inl q
    ·refine .inr ⟨k,c',e,z'.sameBut hs ?_⟩
     rintro rfl
     exact hj (zhl hN e1 (I.ok.inj _ _ _ e hc ▸ hi))
  ·by_cases hcc:c'=c
   ·subst hcc;exact ⟨_,hc'⟩
   ·obtain ⟨w2,z2⟩:=I.cell y c' e
    exact ⟨w2,z2.sameBut hs hcc⟩
  ·obtain ⟨e,n,ne,nf,d⟩:=I.pin p hp
   refine ⟨(hs.2 p.1 ?_).trans e,n,ne,nf,d⟩
   intro q
   rw [q,hoc] at e
   have q':oc=p.2:=Option.some.inj e
   exact d w' (by rw [← q'];exact hocd)
theorem zon {M:Model} {A:Around} {E:Value→Shared→Prop} {i:Nat} {x:Str} {v:V} {u:Value} {Q:Unit→Shared→Prop} (I:Inv X pins σ H s) (hN:X.N.Nodup) (hi:X.N[i]? = some x) (hx:Loc X.env.scope x) (r:RelV v u)
  (h:∀ s',Inv X pins (σ.set i (some v)) H s'→Q () s') (hf:X.fn x=true ∨ X.env.scope.names.lookup x=some .local:=by first | exact .inl rfl | exact .inr rfl | assumption):wpAny M A (storeName X.env x u) Q E s :=
 zsi I hN hi hx r (λ s' I' _=>h s' I') hf
theorem Inv.call' {s':Shared} {ch:List Addr} (I:Inv X pins σ H s) (ho:s'.os=s.os) (u:Un (frs X.stack) ch H H' s.heap s'.heap) (hok:HOk X.prog X.w H' s'.heap) (hg:AllBare s'.gens)
  (hch:∀ b∈ch,(b∈X.ex ∨ X.s₀.heap.objs.size≤b)∧b≠X.env.locals∧(∀ x c,X.env.cells.lookup x=some c→c≠b)∧∀ p∈X.pn++pins,p.1≠b):Inv X pins σ H' s':=by
 obtain ⟨h',g',d',t',o'⟩:=s'
 have e:o'=s.os:=ho
 subst e
 exact I.call (g':=g') (t':=t') (d':=d') u hok hg hch
end
noncomputable abbrev XK:=Value→Option Addr→Hp→Prop
noncomputable abbrev St:=List (Option V)
noncomputable abbrev VK:=V→Hp→Prop
noncomputable abbrev TE:=St→Hp→VK→Prop
noncomputable abbrev TT:=St→Hp→(Bool→Hp→Prop)→Prop
noncomputable abbrev TA:=St→Hp→(List V→Hp→Prop)→Prop
structure Ends where
 nx:St→Hp→Prop
 rt:VK
 bk:St→Hp→Prop:=λ _ _=>False
 ct:St→Hp→Prop:=λ _ _=>False
noncomputable abbrev TS:=Ends→St→Hp→Prop
noncomputable def EP (X:Cx) (pins:List (Addr×Obj)) (σ:St) (Q:VK) (u:Value) (s':Shared):Prop:=∃ v H',Inv X pins σ H' s'∧RelV v u∧Q v H'
noncomputable def TP (X:Cx) (pins:List (Addr×Obj)) (σ:St) (Q:Bool→Hp→Prop) (b:Bool) (s':Shared):Prop:=∃ H',Inv X pins σ H' s'∧Q b H'
noncomputable def AP (X:Cx) (pins:List (Addr×Obj)) (σ:St) (Q:List V→Hp→Prop) (us:List Value) (s':Shared):Prop:=∃ vs H',Inv X pins σ H' s'∧Vals vs us∧Q vs H'
noncomputable def SP (X:Cx) (pins:List (Addr×Obj)) (D:Ends) (f:Flow) (s':Shared):Prop :=
 match f with
 | .next=>∃ σ' H',Inv X pins σ' H' s'∧D.nx σ' H'
 | .brk=>∃ σ' H',Inv X pins σ' H' s'∧D.bk σ' H'
 | .cont=>∃ σ' H',Inv X pins σ' H' s'∧D.ct σ' H'
 | .ret u=>∃ v σ' H',Inv X pins σ' H' s'∧RelV v u∧D.rt v H'
structure PE (X:Cx) (e:Expr) (t:TE):Prop where
 run :
 ∀ (pins:List (Addr×Obj)) (s:Shared) (σ:St) (H:Hp) (Q:VK),Inv X pins σ H s→t σ H Q→wpAny (model X.prog X.w) X.A (eval e X.env) (EP X pins σ Q) X.xe s
noncomputable instance {X:Cx} {e:Expr} {t:TE}:CoeFun (PE X e t) (λ _ =>
 ∀ (pins:List (Addr×Obj)) (s:Shared) (σ:St) (H:Hp) (Q:VK),Inv X pins σ H s→t σ H Q→wpAny (model X.prog X.w) X.A (eval e X.env) (EP X pins σ Q) X.xe s
 ):=⟨λ h=>h.run⟩
structure PT (X:Cx) (e:Expr) (t:TT):Prop where
 run :
 ∀ (pins:List (Addr×Obj)) (s:Shared) (σ:St) (H:Hp) (Q:Bool→Hp→Prop),Inv X pins σ H s→t σ H Q→wpAny (model X.prog X.w) X.A (isTrue e X.env (eval e X.env)) (TP X pins σ Q) X.xe s
noncomputable instance {X:Cx} {e:Expr} {t:TT}:CoeFun (PT X e t) (λ _ =>
 ∀ (pins:List (Addr×Obj)) (s:Shared) (σ:St) (H:Hp) (Q:Bool→Hp→Prop),Inv X pins σ H s→t σ H Q→wpAny (model X.prog X.w) X.A (isTrue e X.env (eval e X.env)) (TP X pins σ Q) X.xe s
 ):=⟨λ h=>h.run⟩
structure PW (X:Cx) (e:Expr) (t:TT):Prop where
 run :
 ∀ (whole:Sem Value) (pins:List (Addr×Obj)) (s:Shared) (σ:St) (H:Hp) (Q:Bool→Hp→Prop),Inv X pins σ H s→t σ H Q→wpAny (model X.prog X.w) X.A (isTrue e X.env whole) (TP X pins σ Q) X.xe s
noncomputable instance {X:Cx} {e:Expr} {t:TT}:CoeFun (PW X e t) (λ _ =>
 ∀ (whole:Sem Value) (pins:List (Addr×Obj)) (s:Shared) (σ:St) (H:Hp) (Q:Bool→Hp→Prop),Inv X pins σ H s→t σ H Q→wpAny (model X.prog X.w) X.A (isTrue e X.env whole) (TP X pins σ Q) X.xe s
 ):=⟨λ h=>h.run⟩
theorem PW.pt {X:Cx} {e:Expr} {t:TT} (h:PW X e t):PT X e t := .mk (h _)
structure PA (X:Cx) (es:List Expr) (t:TA):Prop where
 run :
 ∀ (pos:Pos) (pins:List (Addr×Obj)) (s:Shared) (σ:St) (H:Hp) (Q:List V→Hp→Prop),Inv X pins σ H s→t σ H Q→wpAny (model X.prog X.w) X.A (spliced (backTo pos (starEach es X.env))) (AP X pins σ Q) X.xe s
noncomputable instance {X:Cx} {es:List Expr} {t:TA}:CoeFun (PA X es t) (λ _ =>
 ∀ (pos:Pos) (pins:List (Addr×Obj)) (s:Shared) (σ:St) (H:Hp) (Q:List V→Hp→Prop),Inv X pins σ H s→t σ H Q→wpAny (model X.prog X.w) X.A (spliced (backTo pos (starEach es X.env))) (AP X pins σ Q) X.xe s
 ):=⟨λ h=>h.run⟩
structure PS (X:Cx) (st:Stmt) (t:TS):Prop where
 run :
 ∀ (pins:List (Addr×Obj)) (s:Shared) (σ:St) (H:Hp) (D:Ends),Inv X pins σ H s→t D σ H→wpAny (model X.prog X.w) X.A (exec st X.env) (SP X pins D) X.xe s
noncomputable instance {X:Cx} {st:Stmt} {t:TS}:CoeFun (PS X st t) (λ _ =>
 ∀ (pins:List (Addr×Obj)) (s:Shared) (σ:St) (H:Hp) (D:Ends),Inv X pins σ H s→t D σ H→wpAny (model X.prog X.w) X.A (exec st X.env) (SP X pins D) X.xe s
 ):=⟨λ h=>h.run⟩
structure PSs (X:Cx) (st:List Stmt) (t:TS):Prop where
 run :
 ∀ (pins:List (Addr×Obj)) (s:Shared) (σ:St) (H:Hp) (D:Ends),Inv X pins σ H s→t D σ H→wpAny (model X.prog X.w) X.A (execs st X.env) (SP X pins D) X.xe s
noncomputable instance {X:Cx} {st:List Stmt} {t:TS}:CoeFun (PSs X st t) (λ _ =>
 ∀ (pins:List (Addr×Obj)) (s:Shared) (σ:St) (H:Hp) (D:Ends),Inv X pins σ H s→t D σ H→wpAny (model X.prog X.w) X.A (execs st X.env) (SP X pins D) X.xe s
 ):=⟨λ h=>h.run⟩
theorem thn {α:Type} {t:Sem α} {Q Q':α→Shared→Prop} {M:Model} {A:Around} {E:Value→Shared→Prop} {s:Shared} (h:wpAny M A t Q E s) (hQ:∀ a s,Q a s→Q' a s):wpAny M A t Q' E s:=wpAny_mono h hQ λ _ _ x=>x
end L2
namespace L2
open PySem PySem.Spec PyProof.Rows
section
variable {X:Cx}
noncomputable def tVar (i:Nat):TE:=λ σ H Q=>∃ v,σ[i]? = some (some v)∧Q v H
noncomputable def tC (v:V):TE:=λ _ H Q=>Q v H
theorem zyw {i:Nat} {x:Str} {pos:Pos} (hN:X.N[i]? = some x) (hv:Vis X.env.scope x) (hd:(x == ("__debug__" : Str))=false:=by decide) (hcd:(x == ("__classdict__" : Str))=false:=by decide):PE X (.Name x pos) (tVar i) := .mk <| by
 intro pins s σ H Q I h
 obtain ⟨v,e,h⟩:=h
 obtain ⟨m,hn,hl⟩:=I.loc
 obtain ⟨u,r,l⟩:=hl i x v hN e hv
 have fin:EP X pins σ Q u s:=⟨v,H,I,r,h⟩
 rcases l with ⟨hk,hm⟩ | ⟨hk,c,hc,hcell⟩
 ·exact wpAny_Name (wpAny_loadName_local I.ok.kind hk hn hm fin) hd
 ·rcases hk with hk | hk
  ·exact wpAny_Name (wpAny_loadName_cell I.ok.kind hk hc hcell fin) hd
  ·exact wpAny_Name (wpAny_loadName_free I.ok.kind hk hc hcell fin hcd) hd
theorem zia {i j pos}:PE X (.Constant (.int i) j pos) (tC (.int i)) := .mk <| λ _ _ _ H _ I h=>wpAny_Constant_int ⟨.int i,H,I.tok _,⟨_,rfl⟩,h⟩
theorem zti {b j pos}:PE X (.Constant (.bool b) j pos) (tC (.bl b)) := .mk <| λ _ _ _ H _ I h=>Constant_bool ⟨.bl b,H,I,rfl,h⟩
theorem zxg {j pos}:PE X (.Constant .none j pos) (tC .non) := .mk <| λ _ _ _ H _ I h=>Constant_none ⟨.non,H,I,rfl,h⟩
theorem zbb {x j pos}:PE X (.Constant (.str x) j pos) (tC (.str x)) := .mk <| λ _ _ _ H _ I h=>Calls.Constant_str ⟨.str x,H,I.tok _,⟨_,rfl⟩,h⟩
noncomputable def Gl (X:Cx) (x:Str):Prop:=X.env.kindOf x=some .globalImplicit
theorem zef {E:Value→Shared→Prop} {pins:List (Addr×Obj)} {s:Shared} {σ:St} {H:Hp} {x:Str} {u:Value} {pos:Pos} {Q:Value→Shared→Prop} (I:Inv X pins σ H s) (hg:Gl X x) (hm:X.mg x=some u) (h:Q u s)
  (hd:(x == ("__debug__" : Str))=false:=by decide):wpAny (model X.prog X.w) X.A (eval (.Name x pos) X.env) Q E s :=
 Calls.Name_function_global I.ok.kind hg (Calls.loadGlobal_global (by rw [I.ok.glob];exact I.mod.glob.keeps I.bk) hm h) hd
theorem zdn {E:Value→Shared→Prop} {pins:List (Addr×Obj)} {s:Shared} {σ:St} {H:Hp} {x:Str} {u:Value} {pos:Pos} {Q:Value→Shared→Prop} (I:Inv X pins σ H s) (hg:Gl X x) (hm:X.mg x=none) (hv:bootBuiltins x=some u) (h:Q u s)
  (hn:x ≠ "__name__" := by decide) (hd:(x == ("__debug__" : Str))=false:=by decide):wpAny (model X.prog X.w) X.A (eval (.Name x pos) X.env) Q E s:=by
 obtain ⟨mb,h1,h2⟩:=I.mod.blt
 exact Calls.Name_function_global I.ok.kind hg (Calls.loadGlobal_builtin (by rw [I.ok.glob];exact I.mod.glob.keeps I.bk) hm (by rw [I.ok.blt];exact h1.keeps I.bk) ((h2 x hn).trans hv) h) hd
theorem zpv {x:Str} {v:V} {u:Value} {pos:Pos} (hg:Gl X x) (hm:X.mg x=some u) (r:RelV v u) (hd:(x == ("__debug__" : Str))=false:=by decide):PE X (.Name x pos) (tC v) := .mk <| λ _ _ _ H _ I h=>zef I hg hm ⟨v,H,I,r,h⟩ hd
variable {a b:Expr} {ta tb:TE} {pos:Pos}
noncomputable def tB (t:TE):TT:=λ σ H Q=>t σ H λ x H1=>∃ c,x = .bl c∧Q c H1
theorem zji {e:Expr} {t:TE} (h:PE X e t) (he:∀ whole,isTrue e X.env whole=(do let v ← whole;standAt e.pos;holding [v] (truthy v)):=by intro _;rfl):PT X e (tB t) := .mk <| by
 intro pins s σ H Q I hw
 refine isTrue_plain (thn (h pins s σ H _ I hw) λ v s1 ⟨x,H1,I1,r1,q1⟩=>?_) (he _)
 obtain ⟨d,rfl,q⟩:=q1
 cases r1
 exact wpAny_truthy_bool ⟨H1,I1,q⟩
variable {tA tB':TT} {rest:List Expr}
noncomputable def tAnd (t u:TT):TT:=λ σ H Q=>t σ H λ c H1=>if c=true then u σ H1 Q else Q false H1
noncomputable def tOr (t u:TT):TT:=λ σ H Q=>t σ H λ c H1=>if c=true then Q true H1 else u σ H1 Q
noncomputable def tNot (t:TT):TT:=λ σ H Q=>t σ H λ c H1=>Q (!c) H1
theorem zsn (ha:PT X a tA):PW X (.BoolOp .And [a] pos) tA := .mk <| by
 intro wh pins s σ H Q I h
 refine isTrue_and (thn (ha pins s σ H Q I h) λ c s1 e=>?_)
 cases c with
 | true=>exact isTrue_and_nil e
 | false=>exact e
theorem zus (ha:PT X a tA):PW X (.BoolOp .Or [a] pos) tA := .mk <| by
 intro wh pins s σ H Q I h
 refine isTrue_or (thn (ha pins s σ H Q I h) λ c s1 e=>?_)
 cases c with
 | false=>exact isTrue_or_nil e
 | true=>exact e
theorem zgs (ha:PT X a tA) (hb:PW X (.BoolOp .And (b::rest) pos) tB'):PW X (.BoolOp .And (a::b::rest) pos) (tAnd tA tB') := .mk <| by
 intro wh pins s σ H Q I h
 refine isTrue_and (thn (ha pins s σ H _ I h) λ c s1 ⟨H1,I1,q1⟩=>?_)
 cases c with
 | true=>exact hb wh pins s1 σ H1 Q I1 q1
 | false=>exact ⟨H1,I1,q1⟩
theorem zrw (ha:PT X a tA) (hb:PW X (.BoolOp .Or (b::rest) pos) tB'):PW X (.BoolOp .Or (a::b::rest) pos) (tOr tA tB') := .mk <| by
 intro wh pins s σ H Q I h
 refine isTrue_or (thn (ha pins s σ H _ I h) λ c s1 ⟨H1,I1,q1⟩=>?_)
 cases c with
 | true=>exact ⟨H1,I1,q1⟩
 | false=>exact hb wh pins s1 σ H1 Q I1 q1
theorem zds (ha:PT X a tA):PT X (.UnaryOp .Not a pos) (tNot tA) := .mk <| by
 intro pins s σ H Q I h
 exact isTrue_not (ha pins s σ H (λ c H1=>Q (!c) H1) I h)
noncomputable def zj8 (ta tb:TE):TE:=λ σ H Q=>ta σ H λ x H1=>∃ c,x = .bl c∧if c=true then tb σ H1 Q else Q (.bl false) H1
theorem zxe {op} {t:TE} (h:PE X a t):PE X (.BoolOp op [a] pos) t := .mk <| λ pins s σ H Q I hw=>BoolOp_one (h pins s σ H Q I hw)
theorem zme (ha:PE X a ta) (hb:PE X (.BoolOp .And (b::rest) pos) tb):PE X (.BoolOp .And (a::b::rest) pos) (zj8 ta tb) := .mk <| by
 intro pins s σ H Q I h
 refine BoolOp_and (thn (ha pins s σ H _ I h) λ v s1 ⟨x,H1,I1,r1,q1⟩=>?_)
 obtain ⟨c,rfl,q1⟩:=q1
 cases r1
 refine wpAny_truthy_bool ?_
 cases c with
 | true=>exact hb pins s1 σ H1 Q I1 q1
 | false=>exact ⟨.bl false,H1,I1,rfl,q1⟩
noncomputable def tIf (t:TT) (ta tb:TE):TE:=λ σ H Q=>t σ H λ c H1=>if c=true then ta σ H1 Q else tb σ H1 Q
theorem zut {c:Expr} (hc:PT X c tA) (ha:PE X a ta) (hb:PE X b tb):PE X (.IfExp c a b pos) (tIf tA ta tb) := .mk <| by
 intro pins s σ H Q I h
 refine wpAny_IfExp (thn (hc pins s σ H _ I h) λ d s1 ⟨H1,I1,q1⟩=>?_)
 cases d with
 | true=>exact ha pins s1 σ H1 Q I1 q1
 | false=>exact hb pins s1 σ H1 Q I1 q1
end
end L2
namespace L2
open PySem PySem.Spec PyProof.Rows
noncomputable def SqL (K:W.Frag) (H:Hp) (a:Addr) (xs:List V):Prop :=
 Rd H a (.lst xs) ∨
  ∃ (o:Obj) (its:Array Value) (n:Nat),K.lookup a=some o∧o.cls = .type "list" ∧ o.dict=none∧o.data = .seq its n∧its.size≤sizeLine∧Vals xs its.toList
noncomputable def SqT (K:W.Frag) (H:Hp) (a:Addr) (xs:List V):Prop :=
 Rd H a (.tup xs) ∨
  ∃ (o:Obj) (its:Array Value) (n:Nat),K.lookup a=some o∧o.cls = .type "tuple" ∧ o.data = .seq its n∧its.size≤sizeLine∧Vals xs its.toList
noncomputable def absV:Value→Option V
 | .none=>some .non
 | .bool b=>some (.bl b)
 | .int i _=>some (.int i)
 | .str x _=>some (.str x)
 | .bytes b _=>some (.byt b)
 | .float b _=>some (.flt b)
 | .ref a=>some (.ref a)
 | .type n=>some (.ty n)
 | _=>none
theorem RelV.abs {x:V} {u:Value} (r:RelV x u):absV u=some x:=by
 cases x with
 | non=>cases r;rfl
 | bl _=>cases r;rfl
 | int _=>obtain ⟨t,rfl⟩:=r;rfl
 | str _=>obtain ⟨t,rfl⟩:=r;rfl
 | byt _=>obtain ⟨t,rfl⟩:=r;rfl
 | flt _=>obtain ⟨t,rfl⟩:=r;rfl
 | ref _=>cases r;rfl
 | ty _=>cases r;rfl
theorem RelV.inj {x y:V} {u:Value} (r:RelV x u) (q:RelV y u):x=y:=Option.some.inj (r.abs.symm.trans q.abs)
theorem Vals.inj:∀ {xs ys:List V} {us:List Value},Vals xs us→Vals ys us→xs=ys
 | _,_,_,.nil,.nil=>rfl
 | _,_,_,.cons r t,.cons r' t'=>by rw [r.inj r',Vals.inj t t']
section
variable {X:Cx} {pins:List (Addr×Obj)} {σ:St} {H:Hp} {s:Shared} {a:Addr} {xs ys:List V}
theorem SqL.of {K:W.Frag} (h:H a=some (.lst xs)):SqL K H a xs := .inl (.inl h)
theorem SqT.of {K:W.Frag} (h:H a=some (.tup xs)):SqT K H a xs := .inl (.inl h)
theorem Inv.list (I:Inv X pins σ H s) (h:SqL X.K H a xs):∃ its:List Value,Vals xs its∧PlainL s.heap a its.toArray∧xs.length≤sizeLine:=by
 rcases h with h | ⟨o,its,n,hk,hc,hd,hs,hz,r⟩
 ·obtain ⟨z,its,n,r,e⟩:=h.ok I.hok
  exact ⟨its,r,⟨_,n,e,rfl,rfl,rfl⟩,z⟩
 ·refine ⟨its.toList,r,⟨o,n,I.kIn a o hk,hc,hd,by simpa using hs⟩,?_⟩
  have e:=r.length
  simp only [Array.length_toList] at e
  omega
theorem Inv.tuple (I:Inv X pins σ H s) (h:SqT X.K H a xs):∃ its:List Value,Vals xs its∧IsTup s.heap a its.toArray∧xs.length≤sizeLine:=by
 rcases h with h | ⟨o,its,n,hk,hc,hs,hz,r⟩
 ·obtain ⟨z,its,r,p⟩:=h.ok I.hok
  exact ⟨its,r,p,z⟩
 ·refine ⟨its.toList,r,⟨o,I.kIn a o hk,hc,n,by simpa using hs⟩,?_⟩
  have e:=r.length
  simp only [Array.length_toList] at e
  omega
theorem Inv.list_inj (I:Inv X pins σ H s) (h:SqL X.K H a xs) (h':SqL X.K H a ys):xs=ys:=by
 obtain ⟨its,r,⟨o,n,e,_,_,d⟩,_⟩:=I.list h
 obtain ⟨its',r',⟨o',n',e',_,_,d'⟩,_⟩:=I.list h'
 rw [e] at e';cases e'
 rw [d] at d'
 injection d' with d1 _
 have:its=its':=by simpa using congrArg Array.toList d1
 subst this
 exact r.inj r'
end
noncomputable abbrev Cx.wish (X:Cx) (E:Value→Shared→Prop):Cx:={ X with xe:=E }
noncomputable abbrev Cx.nox (X:Cx):Cx:=X.wish λ _ _=>False
theorem Cx.Ok.wish {X:Cx} (ok:X.Ok) (E:Value→Shared→Prop):(X.wish E).Ok :=
 ⟨ok.mod,ok.kind,ok.glob,ok.blt,ok.above,ok.inj,ok.has,ok.cab,ok.hd,ok.frames,ok.stk,ok.exf,ok.bs,ok.bsz,ok.noex,ok.exfs,ok.funs,ok.frf⟩
theorem Cx.Ok.unwish {X:Cx} {E:Value→Shared→Prop} (ok:(X.wish E).Ok):X.Ok :=
 ⟨ok.mod,ok.kind,ok.glob,ok.blt,ok.above,ok.inj,ok.has,ok.cab,ok.hd,ok.frames,ok.stk,ok.exf,ok.bs,ok.bsz,ok.noex,ok.exfs,ok.funs,ok.frf⟩
section
variable {X:Cx} {pins:List (Addr×Obj)} {σ:St} {H:Hp} {s:Shared} {E:Value→Shared→Prop}
theorem Inv.wish (I:Inv X pins σ H s) (E:Value→Shared→Prop):Inv (X.wish E) pins σ H s:=⟨I.ok.wish E,I.os,I.bare,I.base,I.loc,I.cell,I.free,I.freeC,I.pin,I.hok,I.len⟩
theorem Inv.unwish (I:Inv (X.wish E) pins σ H s):Inv X pins σ H s:=⟨I.ok.unwish,I.os,I.bare,I.base,I.loc,I.cell,I.free,I.freeC,I.pin,I.hok,I.len⟩
theorem SP.unwish {D:Ends} {f:Flow} {s':Shared} (h:SP (X.wish E) pins D f s'):SP X pins D f s':=by
 cases f with
 | next=>obtain ⟨σ',H',I,q⟩:=h;exact ⟨σ',H',I.unwish,q⟩
 | brk=>obtain ⟨σ',H',I,q⟩:=h;exact ⟨σ',H',I.unwish,q⟩
 | cont=>obtain ⟨σ',H',I,q⟩:=h;exact ⟨σ',H',I.unwish,q⟩
 | ret u=>obtain ⟨v,σ',H',I,r,q⟩:=h;exact ⟨v,σ',H',I.unwish,r,q⟩
theorem PSs.nox {st:List Stmt} {t:TS} (h:PSs X.nox st t):PSs X st t := .mk <| λ pins s σ H D I hw =>
 wpAny_mono (h pins s σ H D (I.wish _) hw) (λ _ _ q=>q.unwish) λ _ _ z=>False.elim z
end
section
variable {X:Cx} {st:Stmt} {rest:List Stmt} {t u:TS} {e:Expr} {te:TE} {pos:Pos}
noncomputable def zp7:TS:=λ D σ H=>D.nx σ H
noncomputable def tSeq (t u:TS):TS:=λ D σ H=>t { D with nx:=u D } σ H
theorem zxa:PSs X [] zp7 := .mk <| λ _ _ σ H _ I h=>wpAny_execs_nil ⟨σ,H,I,h⟩
theorem zba (h1:PS X st t) (h2:PSs X rest u):PSs X (st::rest) (tSeq t u) := .mk <| by
 intro pins s σ H D I h
 refine wpAny_execs_cons (thn (h1 pins s σ H { D with nx:=u D } I h) λ f s1 q=>?_)
 cases f with
 | next =>
  obtain ⟨σ',H',I',q⟩:=q
  exact h2 pins s1 σ' H' D I' q
 | ret v=>exact q
 | brk=>exact q
 | cont=>exact q
theorem zfa (h1:PS X st t):PSs X [st] t := .mk <| by
 intro pins s σ H D I h
 refine wpAny_execs_cons (thn (h1 pins s σ H D I h) λ f s1 q=>?_)
 cases f with
 | next=>exact wpAny_execs_nil q
 | ret v=>exact q
 | brk=>exact q
 | cont=>exact q
theorem Inv.quiet {pins:List (Addr×Obj)} {σ:St} {H:Hp} {s:Shared} (I:Inv X pins σ H s):interactive X.env=false:=by simp [interactive,I.ok.kind]
noncomputable def zq7 (te:TE):TS:=λ D σ H=>te σ H λ _ H1=>D.nx σ H1
theorem zvb (he:PE X e te) (hs:swapsWith e none pos.line X.env=pure false:=by rfl):PS X (.Expr e pos) (zq7 te) := .mk <| by
 intro pins s σ H D I h
 exact wpAny_Expr_any (thn (he pins s σ H _ I h) λ v s1 ⟨x,H1,I1,r1,q1⟩=>⟨σ,H1,I1,q1⟩) I.quiet hs
noncomputable def tRet (te:TE):TS:=λ D σ H=>te σ H D.rt
theorem zla (he:PE X e te):PS X (.Return (some e) pos) (tRet te) := .mk <| by
 intro pins s σ H D I h
 exact wpAny_Return_some (thn (he pins s σ H _ I h) λ v s1 ⟨x,H1,I1,r1,q1⟩=>⟨x,σ,H1,I1,r1,q1⟩)
noncomputable def tIfS (c:TT) (t u:TS):TS:=λ D σ H=>c σ H λ b H1=>if b=true then t D σ H1 else u D σ H1
theorem zce {c:Expr} {a b:List Stmt} {tc:TT} (hc:PT X c tc) (ha:PSs X a t) (hb:PSs X b u):PS X (.If c a b pos) (tIfS tc t u) := .mk <| by
 intro pins s σ H D I h
 refine wpAny_If (thn (hc pins s σ H _ I h) λ d s1 ⟨H1,I1,q1⟩=>?_)
 cases d with
 | true=>exact ha pins s1 σ H1 D I1 q1
 | false=>exact hb pins s1 σ H1 D I1 q1
end
noncomputable abbrev TG:=V→St→Hp→(St→Hp→Prop)→Prop
noncomputable abbrev TGs:=List V→St→Hp→(St→Hp→Prop)→Prop
structure PG (X:Cx) (target:Expr) (t:TG):Prop where
 run :
 ∀ (pins:List (Addr×Obj)) (s:Shared) (σ:St) (H:Hp) (v:V) (u:Value) (Q:St→Hp→Prop),Inv X pins σ H s→RelV v u→t v σ H Q →
  wpAny (model X.prog X.w) X.A (assign target X.env u) (λ _ s'=>∃ σ' H',Inv X pins σ' H' s'∧Q σ' H') X.xe s
noncomputable instance {X:Cx} {target:Expr} {t:TG}:CoeFun (PG X target t) (λ _ =>
 ∀ (pins:List (Addr×Obj)) (s:Shared) (σ:St) (H:Hp) (v:V) (u:Value) (Q:St→Hp→Prop),Inv X pins σ H s→RelV v u→t v σ H Q →
  wpAny (model X.prog X.w) X.A (assign target X.env u) (λ _ s'=>∃ σ' H',Inv X pins σ' H' s'∧Q σ' H') X.xe s
 ):=⟨λ h=>h.run⟩
structure PGs (X:Cx) (ts:List Expr) (t:TGs):Prop where
 run :
 ∀ (pins:List (Addr×Obj)) (s:Shared) (σ:St) (H:Hp) (vs:List V) (us:List Value) (Q:St→Hp→Prop),Inv X pins σ H s→Vals vs us→t vs σ H Q →
  wpAny (model X.prog X.w) X.A (assignInOrder ((assignEach ts X.env).map (·.2)) us) (λ _ s'=>∃ σ' H',Inv X pins σ' H' s'∧Q σ' H') X.xe s
noncomputable instance {X:Cx} {ts:List Expr} {t:TGs}:CoeFun (PGs X ts t) (λ _ =>
 ∀ (pins:List (Addr×Obj)) (s:Shared) (σ:St) (H:Hp) (vs:List V) (us:List Value) (Q:St→Hp→Prop),Inv X pins σ H s→Vals vs us→t vs σ H Q →
  wpAny (model X.prog X.w) X.A (assignInOrder ((assignEach ts X.env).map (·.2)) us) (λ _ s'=>∃ σ' H',Inv X pins σ' H' s'∧Q σ' H') X.xe s
 ):=⟨λ h=>h.run⟩
noncomputable abbrev TSet:=V→V→V→Hp→(Hp→Prop)→Prop
noncomputable def PSet (X:Cx) (t:TSet):Prop :=
 ∀ (pins:List (Addr×Obj)) (s:Shared) (σ:St) (H:Hp) (o i v:V) (ov iv u:Value) (Q:Hp→Prop),Inv X pins σ H s→RelV o ov→RelV i iv→RelV v u→t o i v H Q →
  wpAny (model X.prog X.w) X.A (setItem ov iv u) (λ _ s'=>∃ H',Inv X pins σ H' s'∧Q H') X.xe s
section
variable {X:Cx} {pos:Pos}
noncomputable def zgo (i:Nat):TG:=λ v σ H Q=>Q (σ.set i (some v)) H
theorem zma {i:Nat} {x:Str} (hN:X.N.Nodup) (hi:X.N[i]? = some x) (hx:Loc X.env.scope x) (hf:X.fn x=true ∨ X.env.scope.names.lookup x=some .local:=by first | exact .inl rfl | exact .inr rfl | assumption):PG X (.Name x pos) (zgo i) := .mk <| by
 intro pins s σ H v u Q I r h
 exact wpAny_assign_Name (zon I hN hi hx r (λ s' I'=>⟨_,H,I',h⟩) hf)
noncomputable def gNil:TGs:=λ vs σ H Q=>vs=[]∧Q σ H
noncomputable def zsu (t:TG) (u:TGs):TGs:=λ vs σ H Q=>∃ v r,vs=v::r∧t v σ H λ σ' H'=>u r σ' H' Q
theorem zub:PGs X [] gNil := .mk <| by
 intro pins s σ H vs us Q I r h
 obtain ⟨e,h⟩:=h
 subst e
 cases r
 exact assignInOrder_nil ⟨σ,H,I,h⟩
theorem zka {e:Expr} {es:List Expr} {t:TG} {u:TGs} (h1:PG X e t) (h2:PGs X es u)
  (hs:(assignEach (e::es) X.env).map (·.2)=assign e X.env::(assignEach es X.env).map (·.2):=by rfl):PGs X (e::es) (zsu t u) := .mk <| by
 intro pins s σ H vs us Q I r h
 obtain ⟨v,vr,e1,h⟩:=h
 subst e1
 cases r with
 | cons r rr =>
  rw [hs]
  refine assignInOrder_cons (thn (h1 pins s σ H _ _ _ I r h) λ _ s1 ⟨σ1,H1,I1,q1⟩=>?_)
  exact h2 pins s1 σ1 H1 _ _ Q I1 rr q1
noncomputable def gTup (K:W.Frag) (n:Nat) (t:TGs):TG:=λ v σ H Q=>∃ a xs,v = .ref a∧SqT K H a xs∧xs.length=n∧t xs σ H Q
theorem zbd {es:List Expr} {k:Nat} {t:TGs} {n:Nat} (hc:X.calm=true) (h:PGs X es t)
  (hn:(assignEach es X.env).length=n:=by rfl) (hst:(assignEach es X.env).findIdx? (·.1)=none:=by rfl):PG X (.Tuple es k pos) (gTup X.K n t) := .mk <| by
 intro pins s σ H v u Q I r hw
 obtain ⟨a,xs,e1,hq,hl,hw⟩:=hw
 subst e1
 cases r
 obtain ⟨its,rv,ht,hz⟩:=I.tuple hq
 refine assign_Tuple_tuple (I.ok.hd hc) ht (by simp [hn,← hl,rv.length]) hst λ h' hx=>?_
 have I1:Inv X pins σ H { s with heap:=h' }:=I.kept (t':=s.toks) λ b o e=>hx b o (Nat.ne_of_lt (Heap.lt_size e)) e
 exact h pins _ σ H xs _ Q I1 (by simpa using rv) hw
noncomputable def gSub (to ti:TE) (t:TSet):TG:=λ v σ H Q=>to σ H λ o H1=>ti σ H1 λ i H2=>t o i v H2 λ H3=>Q σ H3
theorem zh2 {o i:Expr} {to ti:TE} {t:TSet} (ho:PE X o to) (hi:PE X i ti) (hs:PSet X t)
  (ha:∀ v,assign (.Subscript o i pos) X.env v=(do
   let ov ← holding [v] (eval o X.env)
   let iv ← holding [v,ov] (eval i X.env)
   standAt pos
   holding [v,ov,iv] (setItem ov iv v)
   release [v,ov,iv] []):=by intro _;rfl):PG X (.Subscript o i pos) (gSub to ti t) := .mk <| by
 intro pins s σ H v u Q I r h
 rw [ha]
 refine wpAny_bind (wpAny_holding (thn (ho pins s σ H _ I h) λ ov s1 ⟨x,H1,I1,r1,q1⟩=>?_))
 refine wpAny_bind (wpAny_holding (thn (hi pins s1 σ H1 _ I1 q1) λ iv s2 ⟨y,H2,I2,r2,q2⟩=>?_))
 refine wpAny_bind (wpAny_standAt (wpAny_bind (wpAny_holding (thn (hs pins s2 σ H2 x y v ov iv u _ I2 r1 r2 r q2) λ _ s3 ⟨H3,I3,q3⟩=>?_))))
 exact wpAny_release ⟨σ,H3,I3,q3⟩
noncomputable def tAsg (te:TE) (g:TG):TS:=λ D σ H=>te σ H λ x H1=>g x σ H1 D.nx
theorem zum {tg e:Expr} {te:TE} {g:TG} (he:PE X e te) (hg:PG X tg g) (hs:swapsWithSole [tg] e pos.line X.env=pure false:=by rfl) (hw:swappedStores [tg] e X.env=pure none:=by rfl)
  (h1:(assignEach [tg] X.env).map (·.2)=[assign tg X.env]:=by rfl):PS X (.Assign [tg] e pos) (tAsg te g) := .mk <| by
 intro pins s σ H D I h
 refine wpAny_Assign_stores (thn (he pins s σ H _ I h) λ v s1 ⟨x,H1,I1,r1,q1⟩=>?_) hs hw
 rw [h1]
 exact thn (hg pins s1 σ H1 x v _ I1 r1 q1) λ _ s2 q=>q
theorem zra {i:Nat} {x:Str} {e:Expr} {te:TE} {pos':Pos} (hN:X.N.Nodup) (hi:X.N[i]? = some x) (hx:Loc X.env.scope x) (he:PE X e te) (hs:swapsWith e (some (.Name x pos')) pos.line X.env=pure false:=by rfl) (hf:X.fn x=true ∨ X.env.scope.names.lookup x=some .local:=by first | exact .inl rfl | exact .inr rfl | assumption) :
  PS X (.Assign [.Name x pos'] e pos) (tAsg te (zgo i)) := .mk <| by
 intro pins s σ H D I h
 refine wpAny_Assign_Name (thn (he pins s σ H _ I h) λ v s1 ⟨y,H1,I1,r1,q1⟩=>?_) hs
 exact zon I1 hN hi hx r1 (λ s2 I2=>⟨_,H1,I2,q1⟩) hf
end
section
variable {X:Cx} {pos:Pos}
end
structure It where
 go:Nat→Hp→Prop
 yld:Nat→Hp→V→Hp→Prop
 stop:Nat→Hp→Prop
noncomputable def FpOk (X:Cx) (pins:List (Addr×Obj)) (H:Hp) (b:Addr):Prop :=
 H b=none∧b≠X.env.locals∧b∉X.fs∧(b∈X.ex ∨ X.s₀.heap.objs.size≤b)∧(∀ x c,X.env.cells.lookup x=some c→c≠b)∧∀ p∈X.pn++pins,p.1≠b
theorem Inv.fpOk {X:Cx} {pins:List (Addr×Obj)} {σ:St} {H H':Hp} {s:Shared} {b:Addr} (I:Inv X pins σ H s) (hb:s.heap.objs.size≤b) (hn:H' b=none):FpOk X pins H' b:=by
 refine ⟨hn,Nat.ne_of_gt (Nat.lt_of_lt_of_le I.lt hb),I.nofs hb,.inr (Nat.le_trans I.sz hb),λ x c e z=>?_,λ p hp z=>?_⟩
 ·obtain ⟨v,q⟩:=I.cell x c e
  exact absurd (Nat.lt_of_lt_of_le q.lt (by rw [z];exact hb)) (Nat.lt_irrefl _)
 ·exact absurd (Nat.lt_of_lt_of_le (Heap.lt_size (I.pin p hp).1) (by rw [z];exact hb)) (Nat.lt_irrefl _)
structure Turn (P:Program) (w:World) (K:W.Frag) (tg:Expr) (J:It) (fp:List Addr) (it:Addr) (tn:Nat→Heap→Prop):Prop where
 mem:it∈fp
 obj:∀ i h,tn i h→∀ b∈fp,∃ o,h.get? b=some o∧∀ v,o.data ≠ .cell v
 keep:∀ i h h',tn i h→(∀ b∈fp,∀ o,h.get? b=some o→h'.get? b=some o)→tn i h'
 item:∀ (X:Cx),X.prog=P→X.w=w→X.K=K→X.calm=true→∀ (i:Nat) (pins:List (Addr×Obj)) (s:Shared) (σ:St) (H:Hp) (E:Value→Shared→Prop),Inv X pins σ H s→(∀ b∈fp,FpOk X pins H b)→tn i s.heap→J.go i H →
  wpAny (model P w) X.A (pyNext (.ref it)) (λ r s1=>∃ u,r=some u ∧
   wpAny (model P w) X.A (letOwnedTupleGo tg (.ref it) u) (λ _ s2=>∃ x H',Inv X pins σ H' s2∧RelV x u∧J.yld i H x H'∧tn (i+1) s2.heap∧∀ b∈fp,H' b=none) E s1) E s
 done:∀ (X:Cx),X.prog=P→X.w=w→X.K=K→X.calm=true→∀ (i:Nat) (pins:List (Addr×Obj)) (s:Shared) (σ:St) (H:Hp) (E:Value→Shared→Prop),Inv X pins σ H s→(∀ b∈fp,FpOk X pins H b)→tn i s.heap→J.stop i H →
  wpAny (model P w) X.A (pyNext (.ref it)) (λ r s1=>r=none∧Inv X pins σ H s1) E s
 self:∀ (A:Around) (i:Nat) (s:Shared) (Q:Value→Shared→Prop) (E:Value→Shared→Prop),tn i s.heap→Q (.ref it) s→wpAny (model P w) A (pyIter (.ref it)) Q E s
noncomputable abbrev TI:=St→Hp→(It→Hp→Prop)→Prop
noncomputable def PIE (X:Cx) (pins:List (Addr×Obj)) (σ:St) (tg:Expr) (R:It→Hp→Prop) (itv:Value) (s2:Shared):Prop :=
 ∃ (it:Addr) (fp:List Addr) (tn:Nat→Heap→Prop) (J:It) (H':Hp),itv = .ref it∧Inv X pins σ H' s2∧Turn X.prog X.w X.K tg J fp it tn∧tn 0 s2.heap∧(∀ b∈fp,FpOk X pins H' b)∧R J H'
structure PI (X:Cx) (tg iter:Expr) (wi:TI):Prop where
 run :
 ∀ (pins:List (Addr×Obj)) (s:Shared) (σ:St) (H:Hp) (R:It→Hp→Prop),Inv X pins σ H s→wi σ H R →
  wpAny (model X.prog X.w) X.A (eval iter X.env) (λ v s1=>wpAny (model X.prog X.w) X.A (pyIter v) (PIE X pins σ tg R) X.xe s1) X.xe s
noncomputable instance {X:Cx} {tg iter:Expr} {wi:TI}:CoeFun (PI X tg iter wi) (λ _ =>
 ∀ (pins:List (Addr×Obj)) (s:Shared) (σ:St) (H:Hp) (R:It→Hp→Prop),Inv X pins σ H s→wi σ H R →
  wpAny (model X.prog X.w) X.A (eval iter X.env) (λ v s1=>wpAny (model X.prog X.w) X.A (pyIter v) (PIE X pins σ tg R) X.xe s1) X.xe s
 ):=⟨λ h=>h.run⟩
theorem zh6 {M:Model} {A:Around} {E:Value→Shared→Prop} {s:Shared} {tg:Expr} {it:Addr} {u:Value} {o:Obj} {n:String} {vs:Array Value} {Q:Unit→Shared→Prop} (ho:s.heap.get? it=some o) (hc:o.cls = .type n) (hd:o.data = .fields vs)
  (hn:["enumerate", "zip", "dict_itemiterator", "dict_reverseitemiterator", "odict_iterator", "itertools.zip_longest", "itertools.pairwise"].contains n=false) (hQ:Q () s):wpAny M A (letOwnedTupleGo tg (.ref it) u) Q E s:=by
 unfold letOwnedTupleGo
 cases tg <;> first
  | exact wpAny_pure hQ
  | (cases u <;> first
    | exact wpAny_pure hQ
    | (refine wpAny_bind (wpAny_load ho ?_)
       rw [hc,hd]
       show wpAny M A (if (["enumerate", "zip", "dict_itemiterator", "dict_reverseitemiterator", "odict_iterator", "itertools.zip_longest", "itertools.pairwise"].contains n && vs[0]? == some (rawInt _))=true then _ else _) Q E s
       rw [if_neg (by intro h;rw [hn,Bool.false_and] at h;cases h)]
       exact wpAny_pure hQ))
noncomputable def Itl (K:W.Frag) (a:Addr):It :=
 ⟨λ i H=>∃ xs x,SqL K H a xs∧xs[i]? = some x,λ i H x H'=>H'=H∧∀ xs,SqL K H a xs→xs[i]? = some x,λ i H=>∃ xs,SqL K H a xs∧xs.length≤i⟩
noncomputable def Itr (lo:Int) (n:Nat):It:=⟨λ i _=>i<n,λ i H x H'=>H'=H∧x = .int (lo+i),λ i _=>n≤i⟩
theorem zio {P:Program} {w:World} {K:W.Frag} {tg:Expr} (a it:Addr):Turn P w K tg (Itl K a) [it] it (λ i h=>h.IsListIter it a i) where
 mem:=by simp
 obj:=λ i h st b hb=>by
  have e:b=it:=by simpa using hb
  subst e
  obtain ⟨o,e,c,d⟩:=st
  exact ⟨o,e,λ v z=>by rw [d] at z;cases z⟩
 keep:=λ i h h' st k=>st.at λ o e=>k it (by simp) o e
 item:=by
  intro X hP hw hK hc i pins s σ H E I hf st hg
  subst hP hw hK
  obtain ⟨xs,x,hq,hx⟩:=hg
  obtain ⟨its,rv,p,hz⟩:=I.list hq
  obtain ⟨u,hu,ru⟩:=rv.get hx
  obtain ⟨f0,f1,f2,f3,f4,f5⟩:=hf it (by simp)
  refine wpAny_pyNext_list_item st p.isList (x:=u) (by simpa using hu) λ h' st' sb=>?_
  have I1:Inv X pins σ H { s with heap:=h' }:=I.turned (t':=s.toks) (λ b o hb e=>(sb.2 b hb).trans e) f0 f1 f3 f4 f5
  obtain ⟨o,e,c,d⟩:=id st'
  exact ⟨u,rfl,zh6 (s:={ s with heap:=h' }) e c d (by decide) ⟨x,H,I1,ru,⟨rfl,λ ys hy=>by rw [I.list_inj hy hq];exact hx⟩,st',λ b hb=>(hf b hb).1⟩⟩
 done:=by
  intro X hP hw hK hc i pins s σ H E I hf st hg
  subst hP hw hK
  obtain ⟨xs,hq,hx⟩:=hg
  obtain ⟨its,rv,p,hz⟩:=I.list hq
  obtain ⟨f0,f1,f2,f3,f4,f5⟩:=hf it (by simp)
  have hl:=rv.length
  exact wpAny_pyNext_list_end (I.ok.hd hc) st p.isList (by simp;omega) λ h' eb=>⟨rfl,I.turned (t':=s.toks) (λ b o hb e=>eb b o hb e) f0 f1 f3 f4 f5⟩
 self:=λ _ _ _ _ _ st h=>wpAny_pyIter_listiter st h
theorem zbn {P:Program} {w:World} {K:W.Frag} {tg:Expr} (it:Addr) (lo:Int) (n:Nat):Turn P w K tg (Itr lo n) [it] it (λ i h=>IsRangeIter h it (lo+(i:Nat) * 1) ((n:Int) - (i:Nat)) 1) where
 mem:=by simp
 obj:=λ i h st b hb=>by
  have e:b=it:=by simpa using hb
  subst e
  exact ⟨_,st,λ v z=>by
   have z':Data.fields _=Data.cell v:=z
   cases z'⟩
 keep:=λ i h h' st k=>k it (by simp) _ st
 item:=by
  intro X hP hw hK hc i pins s σ H E I hf st hg
  subst hP hw hK
  obtain ⟨f0,f1,f2,f3,f4,f5⟩:=hf it (by simp)
  have W:=Walks.range (prog:=X.prog) (w:=X.w) (I.ok.hd hc) it lo 1 n
  refine W.item i s _ _ hg st λ v h' tk hv st' kk=>?_
  obtain ⟨t,rfl⟩:=hv
  have I1:Inv X pins σ H { s with heap:=h',toks:=tk }:=I.turned (λ b o hb e=>kk b o (by simpa using hb) e) f0 f1 f3 f4 f5
  refine ⟨_,rfl,zh6 (s:={ s with heap:=h',toks:=tk }) (n := "range_iterator") st' rfl rfl (by decide) ⟨.int (lo+i),H,I1,⟨t,?_⟩,⟨rfl,rfl⟩,st',λ b hb=>(hf b hb).1⟩⟩
  rw [Int.mul_one]
 done:=by
  intro X hP hw hK hc i pins s σ H E I hf st hg
  subst hP hw hK
  obtain ⟨f0,f1,f2,f3,f4,f5⟩:=hf it (by simp)
  exact wpAny_pyNext_range_end (I.ok.hd hc) st (by have:n≤i:=hg;omega) λ h' eb=>⟨rfl,I.turned (t':=s.toks) (λ b o hb e=>eb b o hb e) f0 f1 f3 f4 f5⟩
 self:=λ _ _ _ _ _ st h=>wpAny_pyIter_rangeiter st h
end L2
namespace L2
open PySem PySem.Spec PyProof.Rows
section
variable {X:Cx} {tg:Expr}
noncomputable def zn8 (K:W.Frag) (tl:TE):TI:=λ σ H R=>tl σ H λ x H1=>∃ a,x = .ref a∧(∃ xs,SqL K H1 a xs)∧R (Itl K a) H1
theorem zsd {l:Expr} {tl:TE} (hl:PE X l tl):PI X tg l (zn8 X.K tl) := .mk <| by
 intro pins s σ H R I h
 refine thn (hl pins s σ H _ I h) λ v s1 ⟨x,H1,I1,r1,q1⟩=>?_
 obtain ⟨a,e,⟨xs,hq⟩,q⟩:=q1
 subst e
 cases r1
 obtain ⟨its,rv,p,hz⟩:=I1.list hq
 refine wpAny_pyIter_list p.isList ?_
 refine ⟨s1.heap.objs.size,[s1.heap.objs.size],_,_,H1,rfl,I1.kept (t':=s1.toks) λ b o e=>Heap.get?_push_of_some _ e,zio a _,⟨_,Heap.get?_push_size _ rfl,rfl,rfl⟩,λ b hb=>?_,q⟩
 have e:b=s1.heap.objs.size:=by simpa using hb
 subst e
 exact I1.fpOk (Nat.le_refl _) (I1.hok.fresh (Nat.le_refl _))
theorem zcu {pins:List (Addr×Obj)} {σ:St} {H:Hp} {s:Shared} {R:It→Hp→Prop} {E:Value→Shared→Prop} {lo hi:Int} {t u v:Tok} {tk:Nat} (I:Inv X pins σ H s) (h1 : -(2 ^ 62)≤lo) (h2:lo<2 ^ 62) (h3 : -(2 ^ 62)≤hi) (h4:hi<2 ^ 62)
  (q:R (Itr lo (hi - lo).toNat) H):wpAny (model X.prog X.w) X.A (pyIter (.ref s.heap.objs.size)) (PIE X pins σ tg R) E { s with heap:=s.heap.push { cls := .type "range",data := .fields #[.int lo t,.int hi u,.int 1 v] },toks:=tk }:=by
 refine wpAny_pyIter_range (IsRange.new ..) (small_one h1 h2 h3 h4) ?_
 have I1:Inv X pins σ H { s with heap:=s.heap.push { cls := .type "range",data := .fields #[.int lo t,.int hi u,.int 1 v] },toks:=tk }:=I.kept λ b o e=>Heap.get?_push_of_some _ e
 refine ⟨(s.heap.push { cls := .type "range",data := .fields #[.int lo t,.int hi u,.int 1 v] }).objs.size,[(s.heap.push { cls := .type "range",data := .fields #[.int lo t,.int hi u,.int 1 v] }).objs.size],_,_,H,rfl,
  I1.kept (t':=tk) λ b o e=>Heap.get?_push_of_some _ e,zbn _ lo (hi - lo).toNat,?_,λ b hb=>?_,q⟩
 ·have e1:lo+((0:Nat):Int) * 1=lo:=by simp
  have e2:(((hi - lo).toNat:Nat):Int) - ((0:Nat):Int)=Builtin.Range.rangeSize lo hi 1:=by rw [rangeSize_one];split <;> omega
  show IsRangeIter _ _ (lo+((0:Nat):Int) * 1) ((((hi - lo).toNat:Nat):Int) - ((0:Nat):Int)) 1
  rw [e1,e2]
  exact Heap.get?_push_size _ rfl
 ·have e:b=(s.heap.push { cls := .type "range",data := .fields #[.int lo t,.int hi u,.int 1 v] }).objs.size:=by simpa using hb
  subst e
  exact I1.fpOk (Nat.le_refl _) (I1.hok.fresh (Nat.le_refl _))
noncomputable def zt8 (ta:TA):TI:=λ σ H R=>ta σ H λ vs H1=>∃ j:Int,vs=[.int j] ∧ -(2 ^ 62)≤j∧j<2 ^ 62∧R (Itr 0 j.toNat) H1
theorem zlp {a:Expr} {ta:TA} {p pos:Pos} (hg:Gl X "range") (hm:X.mg "range" = none) (ha:PA X [a] ta) (hs:starEach [a] X.env=[(false,eval a X.env)]:=by rfl):PI X tg (.Call (.Name "range" p) [a] [] pos) (zt8 ta) := .mk <| by
 intro pins s σ H R I h
 refine Call_ (zdn I hg hm boot_range (PyProof.Rows.callWith_type1 (thn (ha pos pins s σ H _ I h) λ us s1 ⟨vs,H1,I1,r1,q1⟩=>?_) hs rfl))
 obtain ⟨j,e,q1,q2,q⟩:=q1
 subst e
 cases r1 with
 | cons r rr =>
  cases rr
  obtain ⟨t,rfl⟩:=r
  exact call_range_1 (zcu I1 (by omega) (by omega) q1 q2 (by simpa using q))
noncomputable def tFor (wi:TI) (g:TG) (tb:TS):TS:=λ D σ H=>wi σ H λ J H1=>∃ W:Nat→Nat→St→Hp→Prop,(∃ m,W 0 m σ H1)∧∀ i m σ H,W i m σ H →
 (J.stop i H∧D.nx σ H) ∨ (J.go i H∧∃ N:St→Hp→Prop,(∀ σ' H',N σ' H'→∃ m',m'<m∧W (i+1) m' σ' H')∧∀ x H',J.yld i H x H'→g x σ H' λ σ2 H2=>tb { D with nx:=N,ct:=N,bk:=D.nx } σ2 H2)
noncomputable def znk (fp:List Addr) (h:Heap):List (Addr×Obj):=fp.filterMap λ b=>(h.get? b).map λ o=>(b,o)
theorem zyb {fp:List Addr} {h:Heap} {b:Addr} {o:Obj} (hb:b∈fp) (e:h.get? b=some o):(b,o)∈znk fp h:=List.mem_filterMap.mpr ⟨b,hb,by rw [e];rfl⟩
theorem zjp {fp:List Addr} {h:Heap} {p:Addr×Obj} (hp:p∈znk fp h):p.1∈fp∧h.get? p.1=some p.2:=by
 obtain ⟨b,hb,e⟩:=List.mem_filterMap.mp hp
 cases q:h.get? b with
 | none=>rw [q] at e;cases e
 | some o =>
  rw [q] at e
  have e':(b,o)=p:=Option.some.inj e
  subst e'
  exact ⟨hb,q⟩
theorem Inv.pinned {pins:List (Addr×Obj)} {σ:St} {H:Hp} {s:Shared} {fp:List Addr} (I:Inv X pins σ H s) (hf:∀ b∈fp,FpOk X pins H b) (ho:∀ b∈fp,∃ o,s.heap.get? b=some o∧∀ v,o.data ≠ .cell v):Inv X (pins++znk fp s.heap) σ H s :=
 I.pins_of λ p hp=>(List.mem_append.mp hp).elim (λ z=>I.pin p (List.mem_append_right _ z)) λ z=>by
  obtain ⟨hb,e⟩:=zjp z
  obtain ⟨f0,f1,f2,_⟩:=hf p.1 hb
  obtain ⟨o,e',d⟩:=ho p.1 hb
  rw [e] at e';cases e'
  exact ⟨e,f0,f1,f2,d⟩
theorem Inv.unpinned {pins pl:List (Addr×Obj)} {σ:St} {H:Hp} {s:Shared} (I:Inv X (pins++pl) σ H s):Inv X pins σ H s:=I.pins_of λ p hp=>I.pin p (List.mem_append_right _ (List.mem_append_left _ hp))
theorem zhu {iter:Expr} {body:List Stmt} {wi:TI} {g:TG} {tb:TS} {pos:Pos} (hp:PassesOwn (model X.prog X.w) X.A X.env X.xe) (hc:X.calm=true) (hi:PI X tg iter wi) (hg:PG X tg g) (hb:PSs X body tb)
  (hs:∀ x,foldedSetIterable iter X.env x=pure x:=by intro _;rfl):PS X (.For tg iter body [] pos) (tFor wi g tb) := .mk <| by
 intro pins s σ H D I h
 refine wpAny_For (thn (hi pins s σ H _ I h) λ v s1 h1=>thn h1 λ itv s2 h2=>?_) hs
 obtain ⟨it,fp,tn,J,H2,e,I2,T,st2,f2,W,⟨m0,w0⟩,turn⟩:=h2
 subst e
 have stat:∀ {H':Hp},(∀ b∈fp,H' b=none)→∀ b∈fp,FpOk X pins H' b:=λ hn b hb=>⟨hn b hb,(f2 b hb).2⟩
 refine codeAny_forLoop_any (λ n s'=>∃ i σ' H',Inv X pins σ' H' s'∧tn i s'.heap∧(∀ b∈fp,H' b=none)∧W i n σ' H') ?_ m0 ⟨0,σ,H2,I2,st2,λ b hb=>(f2 b hb).1,w0⟩
 rintro n s3 ⟨i,σ3,H3,I3,st3,fr3,w3⟩
 rcases turn i n σ3 H3 w3 with ⟨stop,qn⟩ | ⟨go,N,hN,step⟩
 ·refine wpAny_passesOwn hp (thn (T.done X rfl rfl rfl hc i pins s3 σ3 H3 X.xe I3 (stat fr3) st3 stop) λ r s4 ⟨hr,I4⟩=>?_)
  subst hr
  exact wpAny_execs_nil ⟨σ3,H3,I4,qn⟩
 ·refine wpAny_passesOwn hp (thn (T.item X rfl rfl rfl hc i pins s3 σ3 H3 X.xe I3 (stat fr3) st3 go) λ r s4 ⟨u,hr,h4⟩=>?_)
  subst hr
  refine wpAny_passesOwn hp (thn h4 λ _ s5 ⟨x,H5,I5,r5,y5,st5,fr5⟩=>?_)
  have I5':=I5.pinned (stat fr5) (T.obj _ _ st5)
  refine wpAny_passesOwn hp (thn (hg _ s5 σ3 H5 x u _ I5' r5 (step x H5 y5)) λ _ s6 ⟨σ6,H6,I6,q6⟩=>?_)
  refine wpAny_passesOwn hp (thn (hb _ s6 σ6 H6 _ I6 q6) λ f s7 q7=>?_)
  have again:∀ {σ7:St} {H7:Hp},Inv X (pins++znk fp s5.heap) σ7 H7 s7→N σ7 H7→∃ m,m<n∧∃ i σ' H',Inv X pins σ' H' s7∧tn i s7.heap∧(∀ b∈fp,H' b=none)∧W i m σ' H':=fun {σ7 H7} I7 n7=>by
   obtain ⟨m',hm,w7⟩:=hN σ7 H7 n7
   refine ⟨m',hm,i+1,σ7,H7,I7.unpinned,T.keep _ _ _ st5 λ b hb o e=>(I7.pin (b,o) (List.mem_append_right _ (List.mem_append_right _ (zyb hb e)))).1,λ b hb=>?_,w7⟩
   obtain ⟨o,e,d⟩:=T.obj _ _ st5 b hb
   exact (I7.pin (b,o) (List.mem_append_right _ (List.mem_append_right _ (zyb hb e)))).2.1
  cases f with
  | next=>obtain ⟨σ7,H7,I7,n7⟩:=q7;exact again I7 n7
  | cont=>obtain ⟨σ7,H7,I7,n7⟩:=q7;exact again I7 n7
  | brk=>obtain ⟨σ7,H7,I7,q7⟩:=q7;exact ⟨σ7,H7,I7.unpinned,q7⟩
  | ret v=>obtain ⟨x7,σ7,H7,I7,r7,q7⟩:=q7;exact ⟨x7,σ7,H7,I7.unpinned,r7,q7⟩
end
theorem ztr {K:W.Frag} {a:Addr} {xs:List V} {g:TG} {tb:TS} {D:Ends} {σ:St} {H:Hp} (Pv:Nat→St→Hp→Prop) (h0:Pv 0 σ H) (hl:∀ i σ H,i≤xs.length→Pv i σ H→SqL K H a xs)
  (hs:∀ i x σ H,xs[i]? = some x→Pv i σ H→g x σ H λ σ2 H2=>tb { D with nx:=Pv (i+1),ct:=Pv (i+1),bk:=D.nx } σ2 H2) (hd:∀ σ H,Pv xs.length σ H→D.nx σ H) :
  ∃ W:Nat→Nat→St→Hp→Prop,(∃ m,W 0 m σ H)∧∀ i m σ H,W i m σ H →
   ((Itl K a).stop i H∧D.nx σ H) ∨ ((Itl K a).go i H∧∃ N:St→Hp→Prop,(∀ σ' H',N σ' H'→∃ m',m'<m∧W (i+1) m' σ' H')∧∀ x H',(Itl K a).yld i H x H'→g x σ H' λ σ2 H2=>tb { D with nx:=N,ct:=N,bk:=D.nx } σ2 H2):=by
 refine ⟨λ i m σ H=>m=xs.length - i∧i≤xs.length∧Pv i σ H,⟨xs.length,by simp,Nat.zero_le _,h0⟩,?_⟩
 rintro i m σ H ⟨rfl,hi,p⟩
 have q:=hl i σ H hi p
 by_cases hlt:i<xs.length
 ·refine .inr ⟨⟨xs,xs[i],q,by simp [hlt]⟩,Pv (i+1),λ σ' H' p'=>⟨xs.length - (i+1),by omega,rfl,hlt,p'⟩,λ x H' y=>?_⟩
  obtain ⟨e,y⟩:=y
  subst e
  exact hs i x σ _ (y xs q) p
 ·have e:i=xs.length:=by omega
  subst e
  exact .inl ⟨⟨xs,q,Nat.le_refl _⟩,hd σ H p⟩
theorem zgp {lo:Int} {n:Nat} {g:TG} {tb:TS} {D:Ends} {σ:St} {H:Hp} (Pv:Nat→St→Hp→Prop) (h0:Pv 0 σ H)
  (hs:∀ i σ H,i<n→Pv i σ H→g (.int (lo+i)) σ H λ σ2 H2=>tb { D with nx:=Pv (i+1),ct:=Pv (i+1),bk:=D.nx } σ2 H2) (hd:∀ σ H,Pv n σ H→D.nx σ H) :
  ∃ W:Nat→Nat→St→Hp→Prop,(∃ m,W 0 m σ H)∧∀ i m σ H,W i m σ H →
   ((Itr lo n).stop i H∧D.nx σ H) ∨ ((Itr lo n).go i H∧∃ N:St→Hp→Prop,(∀ σ' H',N σ' H'→∃ m',m'<m∧W (i+1) m' σ' H')∧∀ x H',(Itr lo n).yld i H x H'→g x σ H' λ σ2 H2=>tb { D with nx:=N,ct:=N,bk:=D.nx } σ2 H2):=by
 refine ⟨λ i m σ H=>m=n - i∧i≤n∧Pv i σ H,⟨n,by simp,Nat.zero_le _,h0⟩,?_⟩
 rintro i m σ H ⟨rfl,hi,p⟩
 by_cases hlt:i<n
 ·refine .inr ⟨hlt,Pv (i+1),λ σ' H' p'=>⟨n - (i+1),by omega,rfl,hlt,p'⟩,λ x H' y=>?_⟩
  obtain ⟨e,y⟩:=y
  subst e y
  exact hs i σ _ hlt p
 ·have e:i=n:=by omega
  subst e
  exact .inl ⟨Nat.le_refl _,hd σ H p⟩
end L2
namespace L2
open PySem PySem.Spec PyProof.Rows
noncomputable abbrev R2:=V→V→Hp→VK→Prop
noncomputable def OpR (X:Cx) (f:Value→Value→Sem Value) (r:R2):Prop :=
 ∀ (pins:List (Addr×Obj)) (s:Shared) (σ:St) (H:Hp) (x y:V) (v u:Value) (Q:VK),Inv X pins σ H s→RelV x v→RelV y u→r x y H Q →
  wpAny (model X.prog X.w) X.A (f v u) (EP X pins σ Q) X.xe s
noncomputable def zqk (X:Cx) (f:Value) (r:List V→Hp→VK→Prop):Prop :=
 ∀ (pins:List (Addr×Obj)) (s:Shared) (σ:St) (H:Hp) (xs:List V) (us:List Value) (Q:VK),Inv X pins σ H s→Vals xs us→r xs H Q →
  wpAny (model X.prog X.w) X.A (call f us) (EP X pins σ Q) X.xe s
noncomputable def tOp (r:R2) (ta tb:TE):TE:=λ σ H Q=>ta σ H λ x H1=>tb σ H1 λ y H2=>r x y H2 Q
noncomputable def rI (C:Int→Int→Prop) (g:Int→Int→V):R2:=λ x y H Q=>∃ i j,x = .int i∧y = .int j∧C i j∧Q (g i j) H
noncomputable def rI0 (g:Int→Int→V):R2:=λ x y H Q=>∃ i j,x = .int i∧y = .int j∧Q (g i j) H
section
variable {X:Cx} {a b c:Expr} {ta tb tc:TE} {pos:Pos}
theorem binT (ha:PE X a ta) (hb:PE X b tb) {pins:List (Addr×Obj)} {s:Shared} {σ:St} {H:Hp} {R:V→V→Hp→Prop} (I:Inv X pins σ H s)
  (h:ta σ H λ x H1=>tb σ H1 λ y H2=>R x y H2) {Q:Value→Shared→Prop} {f:Value→Value→Sem Value}
  (hf:∀ v u s2 x y H2,Inv X pins σ H2 s2→RelV x v→RelV y u→R x y H2→wpAny (model X.prog X.w) X.A (f v u) Q X.xe s2) :
  wpAny (model X.prog X.w) X.A (eval a X.env) (λ v s₁=>wpAny (model X.prog X.w) X.A (eval b X.env) (λ u s₂=>wpAny (model X.prog X.w) X.A (f v u) Q X.xe s₂) X.xe s₁) X.xe s:=by
 refine thn (ha pins s σ H _ I h) λ v s1 ⟨x,H1,I1,r1,q1⟩=>?_
 refine thn (hb pins s1 σ H1 _ I1 q1) λ u s2 ⟨y,H2,I2,r2,q2⟩=>?_
 exact hf v u s2 x y H2 I2 r1 r2 q2
theorem zta {op:Operator} {r:R2} (ho:OpR X (binaryOp op) r) (ha:PE X a ta) (hb:PE X b tb):PE X (.BinOp a op b pos) (tOp r ta tb) := .mk <| by
 intro pins s σ H Q I h
 exact wpAny_BinOp (binT ha hb I h λ v u s2 x y H2 I2 rx ry q=>ho pins s2 σ H2 x y v u Q I2 rx ry q)
theorem opI {f:Value→Value→Sem Value} {C:Int→Int→Prop} {g:Int→Int→Int}
  (rule:∀ (i j:Int) (t u:Tok) (s:Shared) (Q:Value→Shared→Prop) (E:Value→Shared→Prop),C i j→Q (.int (g i j) s.toks) { s with toks:=s.toks+1 }→wpAny (model X.prog X.w) X.A (f (.int i t) (.int j u)) Q E s) :
  OpR X f (rI C λ i j=>.int (g i j)):=by
 intro pins s σ H x y v u Q I rx ry h
 obtain ⟨i,j,rfl,rfl,hc,q⟩:=h
 obtain ⟨t,rfl⟩:=rx
 obtain ⟨t',rfl⟩:=ry
 exact rule i j t t' s _ _ hc ⟨.int (g i j),H,I.tok _,⟨_,rfl⟩,q⟩
theorem opI0 {f:Value→Value→Sem Value} {g:Int→Int→Int}
  (rule:∀ (i j:Int) (t u:Tok) (s:Shared) (Q:Value→Shared→Prop) (E:Value→Shared→Prop),Q (.int (g i j) s.toks) { s with toks:=s.toks+1 }→wpAny (model X.prog X.w) X.A (f (.int i t) (.int j u)) Q E s) :
  OpR X f (rI0 λ i j=>.int (g i j)):=by
 intro pins s σ H x y v u Q I rx ry h
 obtain ⟨i,j,rfl,rfl,q⟩:=h
 obtain ⟨t,rfl⟩:=rx
 obtain ⟨t',rfl⟩:=ry
 exact rule i j t t' s _ _ ⟨.int (g i j),H,I.tok _,⟨_,rfl⟩,q⟩
theorem opB0 {f:Value→Value→Sem Value} {g:Int→Int→Bool}
  (rule:∀ (i j:Int) (t u:Tok) (s:Shared) (Q:Value→Shared→Prop) (E:Value→Shared→Prop),Q (.bool (g i j)) s→wpAny (model X.prog X.w) X.A (f (.int i t) (.int j u)) Q E s) :
  OpR X f (rI0 λ i j=>.bl (g i j)):=by
 intro pins s σ H x y v u Q I rx ry h
 obtain ⟨i,j,rfl,rfl,q⟩:=h
 obtain ⟨t,rfl⟩:=rx
 obtain ⟨t',rfl⟩:=ry
 exact rule i j t t' s _ _ ⟨.bl (g i j),H,I,rfl,q⟩
noncomputable def CDiv (i j:Int):Prop:=0<j∧j<1073741824
noncomputable def CPow (i j:Int):Prop:=0≤j∧j≤1000000∧i.natAbs<2 ^ 64
noncomputable def CMul (i j:Int):Prop:=(-(2 ^ 64)<i∧i<2 ^ 64) ∨ (-(2 ^ 64)<j∧j<2 ^ 64)
theorem CMul.ok {i j:Int} (h:CMul i j):IntMulOk i j:=by
 rcases h with ⟨h1,h2⟩ | ⟨h1,h2⟩
 ·exact .of_left (intBits_le_64 h1 h2)
 ·exact .of_right (intBits_le_64 h1 h2)
theorem zxb:OpR X (binaryOp .Add) (rI0 λ i j=>.int (i+j)):=opI0 λ _ _ _ _ _ _ _ q=>add_int q
theorem zfo:OpR X (binaryOp .Sub) (rI0 λ i j=>.int (i - j)):=opI0 λ _ _ _ _ _ _ _ q=>sub_int q
theorem zgd:OpR X (binaryOp .Mult) (rI CMul λ i j=>.int (i * j)):=opI λ _ _ _ _ _ _ _ hc q=>mul_int q hc.ok
theorem zic:OpR X (binaryOp .FloorDiv) (rI CDiv λ i j=>.int (i / j)):=opI λ i j _ _ _ _ _ hc q=>by
 have h1:(0:Int)<j:=hc.1
 have h2:j<1073741824:=hc.2
 exact floordiv_int (by omega) (by rw [Int.fdiv_eq_ediv_of_nonneg i (by omega)];exact q) (.inl (PyProof.noPylong_small (by omega)))
theorem zmc:OpR X (binaryOp .Mod) (rI (λ _ j=>0<j) λ i j=>.int (i % j)):=opI λ i j _ _ _ _ _ hc q=>by
 have h1:(0:Int)<j:=hc
 exact mod_int' (by omega) (by rw [Int.fmod_eq_emod_of_nonneg i (by omega)];exact q)
theorem zrz:OpR X (binaryOp .Pow) (rI CPow λ i j=>.int (i ^ j.toNat)):=opI λ _ _ _ _ _ _ _ hc q=>pow_int_small hc.1 hc.2.1 hc.2.2 q
end
noncomputable def scal:V→V→Bool
 | .non,.non=>true | .non,.int _=>true | .int _,.non=>true | .non,.bl _=>true | .bl _,.non=>true | .non,.str _=>true | .str _,.non=>true
 | .int _,.int _=>true | .bl _,.bl _=>true | .str _,.str _=>true | .byt _,.byt _=>true
 | .int _,.str _=>true | .str _,.int _=>true | .bl _,.str _=>true | .str _,.bl _=>true
 | _,_=>false
noncomputable def rEq:R2:=λ x y H Q=>scal x y=true∧Q (.bl (decide (x=y))) H
noncomputable def rNe:R2:=λ x y H Q=>scal x y=true∧Q (.bl (!decide (x=y))) H
theorem zlr {i j:Int}:decide (V.int i=V.int j)=(i == j):=by
 rw [Bool.eq_iff_iff]
 simp
theorem zcx {i j:Bool}:decide (V.bl i=V.bl j)=(i == j):=by
 rw [Bool.eq_iff_iff]
 simp
theorem zyq {i j:Str}:decide (V.str i=V.str j)=(i == j):=by
 rw [Bool.eq_iff_iff]
 simp
theorem zzq {i j:Array UInt8}:decide (V.byt i=V.byt j)=(i.toList == j.toList):=by
 rw [Bool.eq_iff_iff]
 cases i
 cases j
 simp
section
variable {X:Cx} {a b c:Expr} {ta tb tc:TE} {pos:Pos}
theorem zwa {pins:List (Addr×Obj)} {σ:St} {H:Hp} {s:Shared} {Q:VK} {k k':Bool} (I:Inv X pins σ H s) (q:Q (.bl k) H) (e:k=k'):EP X pins σ Q (.bool k') s:=by
 subst e
 exact ⟨.bl k,H,I,rfl,q⟩
theorem zko:OpR X (compareOp .Eq) rEq:=by
 intro pins s σ H x y v u Q I rx ry h
 obtain ⟨hs,q⟩:=h
 cases x with
 | non =>
  cases rx
  cases y with
  | non=>cases ry;exact PySem.EqNone.eq_none_none (zwa I q (by simp))
  | bl j=>cases ry;exact PySem.EqNone.eq_none_bool (zwa I q (by simp))
  | int j=>obtain ⟨t',rfl⟩:=ry;exact PySem.EqNone.eq_none_int (zwa I q (by simp))
  | str j=>obtain ⟨t',rfl⟩:=ry;exact PySem.EqNone.eq_none_str (zwa I q (by simp))
  | _=>exact absurd (show false=true from hs) Bool.false_ne_true
 | bl i =>
  cases rx
  cases y with
  | non=>cases ry;exact PySem.EqNone.eq_bool_none (zwa I q (by simp))
  | bl j=>cases ry;exact eq_bool (zwa I q zcx)
  | str j=>obtain ⟨t',rfl⟩:=ry;exact PySem.EqMixed.eq_bool_str (zwa I q (by simp))
  | _=>exact absurd (show false=true from hs) Bool.false_ne_true
 | int i =>
  obtain ⟨t,rfl⟩:=rx
  cases y with
  | non=>cases ry;exact PySem.EqNone.eq_int_none (zwa I q (by simp))
  | int j=>obtain ⟨t',rfl⟩:=ry;exact eq_int (zwa I q zlr)
  | str j=>obtain ⟨t',rfl⟩:=ry;exact PySem.EqMixed.eq_int_str (zwa I q (by simp))
  | _=>exact absurd (show false=true from hs) Bool.false_ne_true
 | str i =>
  obtain ⟨t,rfl⟩:=rx
  cases y with
  | non=>cases ry;exact PySem.EqNone.eq_str_none (zwa I q (by simp))
  | bl j=>cases ry;exact PySem.EqMixed.eq_str_bool (zwa I q (by simp))
  | int j=>obtain ⟨t',rfl⟩:=ry;exact PySem.EqMixed.eq_str_int (zwa I q (by simp))
  | str j=>obtain ⟨t',rfl⟩:=ry;exact eq_str (zwa I q zyq)
  | _=>exact absurd (show false=true from hs) Bool.false_ne_true
 | byt i =>
  obtain ⟨t,rfl⟩:=rx
  cases y with
  | byt j=>obtain ⟨t',rfl⟩:=ry;exact W.eq_bytes (zwa I q zzq)
  | _=>exact absurd (show false=true from hs) Bool.false_ne_true
 | _=>cases y <;> exact absurd (show false=true from hs) Bool.false_ne_true
theorem zaz:OpR X (compareOp .NotEq) rNe:=by
 intro pins s σ H x y v u Q I rx ry h
 obtain ⟨hs,q⟩:=h
 cases x with
 | non =>
  cases rx
  cases y with
  | non=>cases ry;exact PySem.EqNone.ne_none_none (zwa I q (by simp))
  | bl j=>cases ry;exact PySem.EqNone.ne_none_bool (zwa I q (by simp))
  | int j=>obtain ⟨t',rfl⟩:=ry;exact PySem.EqNone.ne_none_int (zwa I q (by simp))
  | str j=>obtain ⟨t',rfl⟩:=ry;exact PySem.EqNone.ne_none_str (zwa I q (by simp))
  | _=>exact absurd (show false=true from hs) Bool.false_ne_true
 | bl i =>
  cases rx
  cases y with
  | non=>cases ry;exact PySem.EqNone.ne_bool_none (zwa I q (by simp))
  | bl j=>cases ry;exact ne_bool (zwa I q (congrArg not zcx))
  | str j=>obtain ⟨t',rfl⟩:=ry;exact PySem.EqMixed.ne_bool_str (zwa I q (by simp))
  | _=>exact absurd (show false=true from hs) Bool.false_ne_true
 | int i =>
  obtain ⟨t,rfl⟩:=rx
  cases y with
  | non=>cases ry;exact PySem.EqNone.ne_int_none (zwa I q (by simp))
  | int j=>obtain ⟨t',rfl⟩:=ry;exact ne_int (zwa I q (congrArg not zlr))
  | str j=>obtain ⟨t',rfl⟩:=ry;exact PySem.EqMixed.ne_int_str (zwa I q (by simp))
  | _=>exact absurd (show false=true from hs) Bool.false_ne_true
 | str i =>
  obtain ⟨t,rfl⟩:=rx
  cases y with
  | non=>cases ry;exact PySem.EqNone.ne_str_none (zwa I q (by simp))
  | bl j=>cases ry;exact PySem.EqMixed.ne_str_bool (zwa I q (by simp))
  | int j=>obtain ⟨t',rfl⟩:=ry;exact PySem.EqMixed.ne_str_int (zwa I q (by simp))
  | str j=>obtain ⟨t',rfl⟩:=ry;exact ne_str (zwa I q (congrArg not zyq))
  | _=>exact absurd (show false=true from hs) Bool.false_ne_true
 | byt i =>
  obtain ⟨t,rfl⟩:=rx
  cases y with
  | byt j=>obtain ⟨t',rfl⟩:=ry;exact W.ne_bytes (zwa I q (congrArg not zzq))
  | _=>exact absurd (show false=true from hs) Bool.false_ne_true
 | _=>cases y <;> exact absurd (show false=true from hs) Bool.false_ne_true
theorem zo6:OpR X (compareOp .Lt) (rI0 λ i j=>.bl (decide (i<j))):=opB0 λ _ _ _ _ _ _ _ q=>lt_int q
theorem zi6:OpR X (compareOp .Gt) (rI0 λ i j=>.bl (decide (j<i))):=opB0 λ _ _ _ _ _ _ _ q=>gt_int q
theorem zt7:OpR X (compareOp .GtE) (rI0 λ i j=>.bl (decide (j≤i))):=opB0 λ _ _ _ _ _ _ _ q=>ge_int q
theorem zot:OpR X (compareOp .Is) (λ x y H Q=>y = .non∧Q (.bl (decide (x = .non))) H):=by
 intro pins s σ H x y v u Q I rx ry h
 obtain ⟨rfl,q⟩:=h
 cases ry
 refine is_none_gen (zwa I q ?_)
 cases x <;> first
  | (cases rx;rfl)
  | (obtain ⟨t,rfl⟩:=rx;rfl)
theorem zpl:OpR X (compareOp .IsNot) (λ x y H Q=>y = .non∧Q (.bl (!decide (x = .non))) H):=by
 intro pins s σ H x y v u Q I rx ry h
 obtain ⟨rfl,q⟩:=h
 cases ry
 refine isnot_none_gen (zwa I q ?_)
 cases x <;> first
  | (cases rx;rfl)
  | (obtain ⟨t,rfl⟩:=rx;rfl)
theorem zee:OpR X (compareOp .NotIn) (λ x y H Q=>∃ i j,x = .str i∧y = .str j∧Q (.bl (!(!(Builtin.Str.occurrences j i 0 j.length 1).isEmpty))) H):=by
 intro pins s σ H x y v u Q I rx ry h
 obtain ⟨i,j,rfl,rfl,q⟩:=h
 obtain ⟨t,rfl⟩:=rx
 obtain ⟨t',rfl⟩:=ry
 exact notIn_str (zwa I q rfl)
theorem zsa (b:Expr) {op:CmpOp} (h:op ≠ .In:=by decide) (h2:op ≠ .NotIn:=by decide):behindInMarks op b=false:=by
 have e1:(op == CmpOp.In)=false:=by cases op <;> first | rfl | exact absurd rfl h
 have e2:(op == CmpOp.NotIn)=false:=by cases op <;> first | rfl | exact absurd rfl h2
 cases b <;> simp [behindInMarks,e1,e2]
theorem zmb {op:CmpOp} {r:R2} (ho:OpR X (compareOp op) r) (ha:PE X a ta) (hb:PE X b tb) (hm:behindInMarks op b=false):PE X (.Compare a [op] [b] pos) (tOp r ta tb) := .mk <| by
 intro pins s σ H Q I h
 exact wpAny_Compare1 (binT ha hb I h λ v u s2 x y H2 I2 rx ry q=>ho pins s2 σ H2 x y v u Q I2 rx ry q) hm
noncomputable def zl7 (t:TE):TT:=λ σ H Q=>t σ H λ x H'=>∃ k,x = .bl k∧Q k H'
theorem zqa {op:CmpOp} {r:R2} (ho:OpR X (compareOp op) r) (ha:PE X a ta) (hb:PE X b tb) (hm:behindInMarks op b=false):PT X (.Compare a [op] [b] pos) (zl7 (tOp r ta tb)) := .mk <| by
 intro pins s σ H Q I h
 refine wpAny_isTrue_Compare1 (thn (ha pins s σ H _ I h) λ v s1 ⟨x,H1,I1,r1,q1⟩=>thn (hb pins s1 σ H1 _ I1 q1) λ u s2 ⟨y,H2,I2,r2,q2⟩ =>
  thn (ho pins s2 σ H2 x y v u _ I2 r1 r2 q2) λ c s3 ⟨z,H3,I3,r3,k,e,q3⟩=>?_) hm
 subst e
 cases r3
 exact wpAny_truthy_bool ⟨H3,I3,q3⟩
theorem zjo:(sizeLine:Nat)<2 ^ 63:=by rw [sizeLine_eq];decide
theorem zig:OpR X (binaryOp .Add) (λ x y H Q=>∃ i j,x = .str i∧y = .str j∧i.length+j.length≤sizeLine∧Q (.str (i++j)) H):=by
 intro pins s σ H x y v u Q I rx ry h
 obtain ⟨i,j,rfl,rfl,hz,q⟩:=h
 obtain ⟨t,rfl⟩:=rx
 obtain ⟨t',rfl⟩:=ry
 exact add_str (λ t' tk=>⟨.str (i++j),H,I.tok _,⟨_,rfl⟩,q⟩) hz
theorem zsm {x:V} {us:List Value} (r:Vals [x] us):∃ u,us=[u]∧RelV x u:=by
 cases r with
 | cons r1 r2=>cases r2;exact ⟨_,rfl,r1⟩
end
end L2
namespace L2
open PySem PySem.Spec PyProof.Rows
structure ObjM (h:Heap) (x dx C:Addr) (mA:Str→Option Value):Prop where
 obj:h.get? x=some (W.instObj C dx)
 ns:h.Ns1 dx mA
 ne:dx≠x
theorem zcp {h:Heap} {dx:Addr} {mA:Str→Option Value} (n:h.Ns1 dx mA):∃ od,h.get? dx=some od∧∀ name,W.lookIn name od=some (mA name):=by
 obtain ⟨o,es,ep,ho,hd,hk,_,hm⟩:=n
 refine ⟨o,ho,λ name=>?_⟩
 have e:=hm name
 unfold nsFind findBy at e
 rw [← Array.find?_toList] at e
 unfold W.lookIn
 rw [hd]
 dsimp only
 split
 ·rename_i y q
  rw [q] at e
  exact congrArg some e
 ·rename_i q
  rw [q] at e
  have a:es.toList.any (·.refKey)=false:=by
   rw [List.any_eq_false]
   intro y hy
   obtain ⟨z,t,hkey⟩:=hk y (Array.mem_toList_iff.mp hy)
   simp [DictEntry.refKey,hkey]
  have a':¬ es.toList.any (·.refKey)=true:=by rw [a];exact Bool.false_ne_true
  rw [if_neg a']
  exact congrArg some e
theorem ObjM.look {h:Heap} {x dx C:Addr} {mA:Str→Option Value} (I:ObjM h x dx C mA):∃ od,W.InstAt h x (W.instObj C dx) C (some od)∧∀ name,W.lookIn name od=some (mA name) :=
 let ⟨od,ho,hl⟩:=zcp I.ns
 ⟨od,⟨I.obj,rfl,rfl,ho⟩,hl⟩
section
variable {prog:Program} {w:World} {A:Around} {E:Value→Shared→Prop} {s:Shared} {K:W.Frag} {x dx C f:Addr} {mA:Str→Option Value} {name:Str} {v:Value}
theorem zfv {expr:Bool} {Q:Value→Shared→Prop} (X:K.In s.heap) (I:ObjM s.heap x dx C mA) (hg:W.plainGet K C name=true) (hh:W.hasDictIn K C=true)
  (ha:W.findIn K (.ref C) name=some none) (hv:mA name=some v) (hv':W.handedIn v=true) (h:Q v { s with toks:=s.toks+1 }) :
  wpAny (model prog w) A (getAttr (.ref x) name expr) Q E s:=by
 obtain ⟨od,J,hl⟩:=I.look
 exact W.get_value X J (W.plainGet_of hg).1 (W.findObj_own hh ha rfl (by rw [hl,hv])) hv' h
theorem ztt {pl:Sem Bool} {Q:Value×List Value→Shared→Prop} (X:K.In s.heap) (I:ObjM s.heap x dx C mA) (hg:W.plainGet K C name=true)
  (hf:W.findIn K (.ref C) name=some (some (.ref f))) (ht:W.isFn K (.ref f)=true) (hv:mA name=none) (h:Q (.ref f,[.ref x]) s) :
  wpAny (model prog w) A (getMethod (.ref x) name pl) Q E s:=by
 obtain ⟨od,J,hl⟩:=I.look
 exact W.method_fn X J (W.plainGet_of hg).1 (W.plainGet_of hg).2 hf (beq_iff_eq.mp ht) (by show (W.lookIn name od).map (·.isSome)=some false;rw [hl,hv];rfl) h
theorem zrv {ns:List Str} {Q:Unit→Shared→Prop} (X:K.In s.heap) (I:ObjM s.heap x dx C mA)
  (hs:W.findIn K (.ref C) "__setattr__" = some (some (.builtin "object.__setattr__"))) (hp:W.plainOver K C=true) (ht:W.takerIn K C name=some none) (hh:W.hasDictIn K C=true)
  (hw:PySem.Within mA ns) (hsz:ns.length≤sizeLine)
  (h:∀ h',ObjM h' x dx C (λ y=>if y=name then some v else mA y)→Heap.SameBut dx s.heap h'→Q () { s with heap:=h',toks:=s.toks+2 }) :
  wpAny (model prog w) A (setAttr (.ref x) name v) Q E s:=by
 obtain ⟨od,J,hl⟩:=I.look
 refine W.set_plain X J hs (W.osa_open (s:={ s with toks:=s.toks+1 }) (r:=none) X J hp ht λ b=>?_)
 obtain ⟨cd,hc,hd'⟩:=W.any_some hh
 have hx:s.heap.get? x=some ⟨.ref C,some dx,.plain, #[]⟩:=I.obj
 refine wpAny_bind (wpAny_pure (wpAny_bind (wpAny_bind (wpAny_loadPart hx (wpAny_bind (W.Looks.here (s:={ s with toks:=s.toks+1 }) (W.looks_clsIn X hc) ?_))))))
 rw [hd']
 refine wpAny_pure (a:=some dx) (wpAny_bind (wpAny_pure (wpAny_bind ?_)))
 refine wpAny_nsSet1 (s:={ s with toks:=s.toks+1 }) I.ns λ h' hn2 hs2=>?_
 obtain ⟨oD,esD,epD,hoD,hdD,hcD⟩:=hn2.count (PySem.Within.cons name v hw)
 refine wpAny_bind (wpAny_lookBehind hoD (by rw [hdD];exact pastItsLine_dict (Nat.le_trans hcD (by rw [List.length_cons];omega))) ?_)
 exact wpAny_pure (h _ ⟨(hs2.2 _ (Ne.symm I.ne)).trans I.obj,hn2,I.ne⟩ hs2)
theorem zms {R:Result→Shared→Prop} {vs:List Value} {kw:List (Str×Value)} (X:K.In s.heap) (hm:W.makesIn K C=true)
  (hi:W.findIn K (.ref C) "__init__" = some (some (.ref f))) (hf:W.typeIn K (.ref f)=some (.type "function"))
  (h:codeAny (model prog w) (A.under (.builtin "type.__call__" ⟨.ref C::vs,kw⟩)) (.call (.ref f) ⟨.ref (s.heap.objs.size+1)::vs,kw⟩) (W.InitBack (s.heap.objs.size+1) R)
   { s with heap:=(s.heap.push W.emptyDict).push (W.instObj C s.heap.objs.size) }) :
  codeAny (model prog w) A (.call (.ref C) ⟨vs,kw⟩) R s:=by
 obtain ⟨hh,g,d,t,os⟩:=s
 exact W.make_core (W.makes_of X hm) (W.looks_findIn X hi) (λ self=>W.bind_fn X self hf) (.inl rfl) h
end
noncomputable def putF (f:Str) (v:V):List (Str×V)→List (Str×V)
 | []=>[(f,v)]
 | (g,x)::r=>if g=f then (g,v)::r else (g,x)::putF f v r
theorem zgb (f g:Str) (v:V):∀ fs:List (Str×V),(putF f v fs).lookup g=if g=f then some v else fs.lookup g
 | []=>by
  show List.lookup g [(f,v)]=_
  by_cases h:g=f
  ·have hb:(g == f)=true:=beq_iff_eq.mpr h
   simp only [List.lookup,hb,if_pos h]
  ·have hb:(g == f)=false:=beq_eq_false_iff_ne.mpr h
   simp only [List.lookup,hb,if_neg h]
 | (k,x)::r=>by
  have ih:=zgb f g v r
  rw [show putF f v ((k,x)::r)=(if k=f then (k,v)::r else (k,x)::putF f v r) from rfl]
  by_cases hk:k=f
  ·rw [if_pos hk]
   by_cases h:g=k
   ·have hb:(g == k)=true:=beq_iff_eq.mpr h
    simp only [List.lookup,hb,if_pos (h.trans hk)]
   ·have hb:(g == k)=false:=beq_eq_false_iff_ne.mpr h
    simp only [List.lookup,hb,if_neg (λ e:g=f=>h (e.trans hk.symm))]
  ·rw [if_neg hk]
   by_cases h:g=k
   ·have hb:(g == k)=true:=beq_iff_eq.mpr h
    simp only [List.lookup,hb,if_neg (λ e:g=f=>hk (h.symm.trans e))]
   ·have hb:(g == k)=false:=beq_eq_false_iff_ne.mpr h
    simp only [List.lookup,hb]
    exact ih
theorem zyf (f:Str) (v:V):∀ fs:List (Str×V),f∈(putF f v fs).map (·.1)∧∀ g,g∈fs.map (·.1)→g∈(putF f v fs).map (·.1)
 | []=>⟨by simp [putF],λ g h=>by simp at h⟩
 | (k,x)::r=>by
  obtain ⟨i1,i2⟩:=zyf f v r
  rw [show putF f v ((k,x)::r)=(if k=f then (k,v)::r else (k,x)::putF f v r) from rfl]
  by_cases hk:k=f
  ·rw [if_pos hk]
   subst hk
   exact ⟨by simp,λ g h=>by simpa using h⟩
  ·rw [if_neg hk]
   refine ⟨?_,λ g h=>?_⟩
   ·rw [List.map_cons]
    exact List.mem_cons_of_mem _ i1
   ·rw [List.map_cons] at h ⊢
    rcases List.mem_cons.mp h with e | e
    ·exact List.mem_cons.mpr (.inl e)
    ·exact List.mem_cons_of_mem _ (i2 g e)
theorem zdf (f:Str) (v:V):∀ fs:List (Str×V),(putF f v fs).length≤fs.length+1
 | []=>by simp [putF]
 | (k,x)::r=>by
  have ih:=zdf f v r
  rw [show putF f v ((k,x)::r)=(if k=f then (k,v)::r else (k,x)::putF f v r) from rfl]
  by_cases hk:k=f
  ·rw [if_pos hk,List.length_cons,List.length_cons];omega
  ·rw [if_neg hk,List.length_cons,List.length_cons];omega
theorem RelO.some_of {v:V} {o:Option Value} (r:RelO (some v) o):∃ u,o=some u∧RelV v u:=by
 cases o with
 | none=>exact (show False from r).elim
 | some u=>exact ⟨u,rfl,r⟩
theorem RelO.none_of {o:Option Value} (r:RelO none o):o=none:=by
 cases o with
 | none=>rfl
 | some u=>exact (show False from r).elim
theorem zso {v:V} {u:Value} (r:RelV v u):W.handedIn u=true:=by
 cases v with
 | non=>cases (show u=Value.none from r);rfl
 | bl b=>cases (show u=Value.bool b from r);rfl
 | int i=>obtain ⟨t,e⟩:=(show ∃ t,u=Value.int i t from r);cases e;rfl
 | str x=>obtain ⟨t,e⟩:=(show ∃ t,u=Value.str x t from r);cases e;rfl
 | byt b=>obtain ⟨t,e⟩:=(show ∃ t,u=Value.bytes b t from r);cases e;rfl
 | flt b=>obtain ⟨t,e⟩:=(show ∃ t,u=Value.float b t from r);cases e;rfl
 | ref a=>cases (show u=Value.ref a from r);rfl
 | ty n=>cases (show u=Value.type n from r);rfl
section
variable {P:Program} {w:World} {H H':Hp} {h h':Heap} {a C dx:Addr} {fs fs':List (Str×V)}
theorem zyn (hok:HOk P w H h) (e:H a=some (.ins C dx fs)):∃ mA,ObjM h a dx C mA∧(∀ f,RelO (fs.lookup f) (mA f))∧PySem.Within mA (fs.map (·.1))∧fs.length≤1000∧H dx=some (.own a):=by
 obtain ⟨d,z,ne,ob,mA,n,r,q⟩:=(show ObjOk P w H h a (.ins C dx fs) from hok a _ e)
 exact ⟨mA,⟨ob,n,ne⟩,r,q,z,d⟩
end
structure Cls (K:W.Frag) (C:Addr):Prop where
 pg:W.plainGet K C Str.empty=true
 hd:W.hasDictIn K C=true
 po:W.plainOver K C=true
 sa:W.findIn K (.ref C) "__setattr__" = some (some (.builtin "object.__setattr__"))
theorem Cls.get {K:W.Frag} {C:Addr} (c:Cls K C) (f:Str):W.plainGet K C f=true:=c.pg
noncomputable def NoAttr (K:W.Frag) (C:Addr) (f:Str):Prop:=W.findIn K (.ref C) f=some none
theorem NoAttr.taker {K:W.Frag} {C:Addr} {f:Str} (n:NoAttr K C f):W.takerIn K C f=some none:=by
 unfold W.takerIn
 rw [show W.findIn K (.ref C) f=some none from n]
 rfl
structure Meth (K:W.Frag) (C:Addr) (m:Str) (f:Addr):Prop where
 at_:W.findIn K (.ref C) m=some (some (.ref f))
 fn:W.isFn K (.ref f)=true
 kp:W.keepIn K (.ref f)=true
section
variable {X:Cx} {pins:List (Addr×Obj)} {σ:St} {H:Hp} {s:Shared} {a C dx:Addr} {fs:List (Str×V)} {f:Str} {v:V} {A:Around} {E:Value→Shared→Prop}
theorem zmn {b:Bool} {Q:Value→Shared→Prop} (I:Inv X pins σ H s) (e:H a=some (.ins C dx fs)) (c:Cls X.K C) (n:NoAttr X.K C f) (l:fs.lookup f=some v)
  (h:∀ u s',Inv X pins σ H s'→RelV v u→Q u s'):wpAny (model X.prog X.w) A (getAttr (.ref a) f b) Q E s:=by
 obtain ⟨mA,O,r,_,_,_⟩:=zyn I.hok e
 obtain ⟨u,hu,ru⟩:=RelO.some_of (v:=v) (o:=mA f) (by rw [← l];exact r f)
 exact zfv I.kIn O (c.get f) c.hd n hu (zso ru) (h u _ (I.tok _) ru)
theorem zwd {m:Str} {g:Addr} {pl:Sem Bool} {Q:Value×List Value→Shared→Prop} (I:Inv X pins σ H s) (e:H a=some (.ins C dx fs)) (c:Cls X.K C) (k:Meth X.K C m g) (l:fs.lookup m=none)
  (h:Q (.ref g,[.ref a]) s):wpAny (model X.prog X.w) A (getMethod (.ref a) m pl) Q E s:=by
 obtain ⟨mA,O,r,_,_,_⟩:=zyn I.hok e
 have hn:mA m=none:=RelO.none_of (by rw [← l];exact r m)
 exact ztt I.kIn O (c.get m) k.at_ k.fn hn h
theorem zbm {y:V} {u:Value} {Q:Unit→Shared→Prop} (I:Inv X pins σ H s) (e:H a=some (.ins C dx fs)) (c:Cls X.K C) (n:NoAttr X.K C f) (hl:fs.length<1000) (ry:RelV y u)
  (h:∀ s',Inv X pins σ (upd H a (.ins C dx (putF f y fs))) s'→Q () s'):wpAny (model X.prog X.w) A (setAttr (.ref a) f u) Q E s:=by
 obtain ⟨mA,O,r,wi,_,ho⟩:=zyn I.hok e
 have hz:(fs.map (·.1)).length≤sizeLine:=by rw [List.length_map,sizeLine_eq];omega
 refine zrv I.kIn O c.sa c.po n.taker c.hd wi hz λ h' O' sb=>h _ ?_
 have hd:∃ o,h'.get? dx=some o:=let ⟨o,_,_,e',_⟩:=O'.ns; ⟨o,e'⟩
 refine I.write (x:=a) (e:=dx) (by rw [e];exact True.intro) (.inr ho) (λ b q hb z=>(sb.2 b hb).trans z) hd ?_
 refine ⟨by rw [zha O.ne];exact ho,?_,O.ne,O'.obj,_,O'.ns,λ g=>?_,λ g hg=>?_⟩
 ·have:=zdf f y fs;omega
 ·show RelO ((putF f y fs).lookup g) (if g=f then some u else mA g)
  rw [zgb]
  by_cases q:g=f
  ·rw [if_pos q,if_pos q];exact ry
  ·rw [if_neg q,if_neg q];exact r g
 ·by_cases q:g=f
  ·rw [q];exact (zyf f y fs).1
  ·refine (zyf f y fs).2 g (wi g λ z=>hg ?_)
   show (if g=f then some u else mA g)=none
   rw [if_neg q];exact z
theorem Inv.made (I:Inv X pins σ H s):Inv X pins σ (upd (upd H s.heap.objs.size (.own (s.heap.objs.size+1))) (s.heap.objs.size+1) (.ins C s.heap.objs.size []))
  { s with heap:=(s.heap.push W.emptyDict).push (W.instObj C s.heap.objs.size) }:=by
 have e1:(s.heap.push W.emptyDict).get? s.heap.objs.size=some W.emptyDict:=Heap.get?_push_size s.heap rfl
 have e2:((s.heap.push W.emptyDict).push (W.instObj C s.heap.objs.size)).get? (s.heap.objs.size+1)=some (W.instObj C s.heap.objs.size):=by
  have:=Heap.get?_push_size (s.heap.push W.emptyDict) (o:=W.instObj C s.heap.objs.size) rfl
  rwa [Heap.size_push] at this
 have e3:(s.heap.push W.emptyDict).Ns s.heap.objs.size (λ _=>none):=⟨W.emptyDict, #[],_,e1,rfl,(λ e he=>absurd he (by simp)),λ _=>rfl⟩
 have I1:=I.laid (a:=s.heap.objs.size) (o := .own (s.heap.objs.size+1)) (h':=s.heap.push W.emptyDict) (t':=s.toks) (λ b u q=>Heap.get?_push_of_some _ q) (Nat.le_refl _) ⟨_,e1⟩
 refine I1.laid (a:=s.heap.objs.size+1) (o := .ins C s.heap.objs.size []) (t':=s.toks) (λ b u q=>Heap.get?_push_of_some _ q) (Nat.le_of_eq (Heap.size_push _ _)) ?_
 have ne:s.heap.objs.size≠s.heap.objs.size+1:=Nat.ne_of_lt (Nat.lt_succ_self _)
 refine ⟨by rw [zha ne,upd_same],Nat.zero_le _,ne,e2,λ _=>none,(Heap.Ns1.of_empty e3).at λ o q=>Heap.get?_push_of_some _ q,λ _=>True.intro,λ y hy=>absurd rfl hy⟩
theorem zbw {prog:Program} {w:World} {env:Env} {e:Expr} {f:Str} {pos:Pos} {s:Shared} {Q:Value→Shared→Prop} (hb:attributeBase e f env (eval e env)=eval e env)
  (h:wpAny (model prog w) A (eval e env) (λ o s₁=>wpAny (model prog w) A (getAttr o f true) Q E s₁) E s):wpAny (model prog w) A (eval (.Attribute e f pos) env) Q E s :=
 Attribute_any_ h (by rw [arm_eval_Attribute,hb])
end
noncomputable def tFld (K:W.Frag) (ta:TE) (f:Str):TE:=λ σ H Q=>ta σ H λ x H1=>∃ a C dx fs v,x = .ref a∧H1 a=some (.ins C dx fs)∧Cls K C∧NoAttr K C f∧fs.lookup f=some v∧Q v H1
noncomputable def sFld (K:W.Frag) (ta tv:TE) (f:Str):TS:=λ D σ H=>tv σ H λ y H1=>ta σ H1 λ x H2=>∃ a C dx fs,x = .ref a∧H2 a=some (.ins C dx fs)∧Cls K C∧NoAttr K C f∧fs.length<1000 ∧
 D.nx σ (upd H2 a (.ins C dx (putF f y fs)))
section
variable {X:Cx} {o e value:Expr} {f:Str} {pos pos' tpos:Pos} {ta tv:TE}
theorem zcb (he:PE X e ta) (hb:attributeBase e f X.env (eval e X.env)=eval e X.env):PE X (.Attribute e f pos) (tFld X.K ta f) := .mk <| by
 intro pins s σ H Q I h
 refine zbw hb (thn (he pins s σ H _ I h) λ u s1 ⟨x,H1,I1,rx,a,C,dx,fs,v,ex,ea,c,n,l,q⟩=>?_)
 subst ex
 obtain rfl:u=Value.ref a:=rx
 exact zmn I1 ea c n l λ u' s2 I2 ru=>⟨v,H1,I2,ru,q⟩
theorem zhc (ha:PE X o ta) (hv:PE X value tv) (hs:swapsWith value (some (.Attribute o f pos')) pos.line X.env=pure false):PS X (.Assign [.Attribute o f pos'] value pos) (sFld X.K ta tv f) := .mk <| by
 intro pins s σ H D I h
 refine plainObj_wpAny_Assign_Attribute (thn (hv pins s σ H _ I h) λ u s1 ⟨y,H1,I1,ry,q⟩=>thn (ha pins s1 σ H1 _ I1 q) λ ov s2 ⟨x,H2,I2,rx,a,C,dx,fs,ex,ea,c,n,l,q2⟩=>?_) hs
 subst ex
 obtain rfl:ov=Value.ref a:=rx
 exact zbm I2 ea c n l ry λ s3 I3=>⟨σ,_,I3,q2⟩
end
section
variable {X:Cx} {pins:List (Addr×Obj)} {σ:St} {H:Hp} {s:Shared} {A:Around} {E:Value→Shared→Prop} {Q:Value→Shared→Prop} {c:Value} {b:Bool}
end
end L2
namespace L2
open PySem PySem.Spec PyProof.Rows
structure Room (k:Nat) (A:Around):Prop where
 hd:A.handled=none
 dp:A.depth+3 * k+5<recursionLimit
 un:A.units+16 * k+200<cLine
theorem Room.mono {j k:Nat} {A:Around} (r:Room k A) (h:j≤k):Room j A:=⟨r.hd,by have:=r.dp;omega,by have:=r.un;omega⟩
theorem Room.deeper {k:Nat} {A:Around} (r:Room (k+1) A) (env:Env):Room k (A.deeper env) :=
 ⟨r.hd,by have:=r.dp;show A.depth+1+3 * k+5<_;omega,by have:=r.un;show A.units+3+16 * k+200<_;omega⟩
theorem zbo {A:Around} {C:Addr} {us:List Value} {kw:List (Str×Value)}:(A.under (.builtin "type.__call__" ⟨.ref C::us,kw⟩)).depth=A.depth+1:=by
 first | rfl | simp [Around.under,Code.weight,Code.isCreation,Code.isGuard,Code.isCaller,Code.frames,Code.isFrame,guardIds]
theorem zln {A:Around} {C:Addr} {us:List Value} {kw:List (Str×Value)}:(A.under (.builtin "type.__call__" ⟨.ref C::us,kw⟩)).units=A.units+1:=by
 first | rfl | simp [Around.under,Code.cUnits,Code.frames,Code.isFrame]
theorem Room.make {k:Nat} {A:Around} (r:Room (k+1) A) (C:Addr) (us:List Value) (kw:List (Str×Value)):Room k (A.under (.builtin "type.__call__" ⟨.ref C::us,kw⟩)) :=
 ⟨r.hd,by have:=r.dp;rw [zbo];omega,by have:=r.un;rw [zln];omega⟩
theorem Room.depth {k:Nat} {A:Around} (r:Room k A):A.depth<recursionLimit:=by have:=r.dp;omega
theorem Room.units {k:Nat} {A:Around} (r:Room k A):A.units+64<cLine:=by have:=r.un;omega
noncomputable def tNil:TA:=λ _ H Q=>Q [] H
noncomputable def zb8 (ta:TE) (tr:TA):TA:=λ σ H Q=>ta σ H λ x H1=>tr σ H1 λ xs H2=>Q (x::xs) H2
section
variable {X:Cx} {e:Expr} {es:List Expr} {te:TE} {t:TA} {pos:Pos}
theorem zda:PA X [] tNil := .mk <| λ _ _ _ _ H Q I h=>Calls.spliced_nil ⟨[],H,I,.nil,h⟩
theorem zaa (ha:PE X e te) (hr:PA X es t) (hs:starEach (e::es) X.env=(false,eval e X.env)::starEach es X.env:=by rfl):PA X (e::es) (zb8 te t) := .mk <| by
 intro pos pins s σ H Q I h
 rw [hs]
 show wpAny _ _ (spliced ((false,eval e X.env)::backTo pos (starEach es X.env))) _ _ s
 refine Calls.spliced_cons (thn (ha pins s σ H _ I h) λ u s1 ⟨x,H1,I1,r1,q1⟩=>?_)
 exact thn (hr pos pins s1 σ H1 _ I1 q1) λ us s2 ⟨xs,H2,I2,r2,q2⟩=>⟨x::xs,H2,I2,.cons r1 r2,q2⟩
noncomputable def tTup (t:TA):TE:=λ σ H Q=>t σ H λ xs H1=>xs.length≤sizeLine∧∀ p,H1 p=none→Q (.ref p) (upd H1 p (.tup xs))
noncomputable def tLst (t:TA):TE:=λ σ H Q=>t σ H λ xs H1=>xs.length≤sizeLine∧∀ p,H1 p=none→Q (.ref p) (upd H1 p (.lst xs))
theorem zya {x1} (h:PA X es t):PE X (.Tuple es x1 pos) (tTup t) := .mk <| by
 intro pins s σ H Q I hq
 refine wpAny_Tuple_spliced (thn (h pos pins s σ H _ I hq) λ us s1 ⟨xs,H1,I1,r,z,q⟩=>⟨by rw [← r.length];exact z,?_⟩)
 have hf:H1 s1.heap.objs.size=none:=I1.hok.fresh (Nat.le_refl _)
 refine ⟨.ref s1.heap.objs.size,upd H1 s1.heap.objs.size (.tup xs),I1.laid (t':=s1.toks) (λ b u e=>Heap.get?_push_of_some _ e) (Nat.le_refl _) ?_,rfl,q _ hf⟩
 exact ⟨z,us,r,⟨_,Heap.get?_push_size _ rfl,rfl,_,rfl⟩⟩
theorem zbc (h:PA X es t):PE X (.List es pos) (tLst t) := .mk <| by
 intro pins s σ H Q I hq
 refine wpAny_List_spliced (thn (h pos pins s σ H _ I hq) λ us s1 ⟨xs,H1,I1,r,z,q⟩=>⟨by rw [← r.length];exact z,?_⟩)
 have hf:H1 s1.heap.objs.size=none:=I1.hok.fresh (Nat.le_refl _)
 refine ⟨.ref s1.heap.objs.size,upd H1 s1.heap.objs.size (.lst xs),I1.laid (t':=s1.toks) (λ b u e=>Heap.get?_push_of_some _ e) (Nat.le_refl _) ?_,rfl,q _ hf⟩
 exact ⟨z,us,0,r,Heap.get?_push_size _ rfl⟩
end
noncomputable abbrev Sp:=List V→Hp→VK→XK→Prop
noncomputable abbrev CXT:=List Env→Hp→Shared→XK→Value→Shared→Prop
structure Env0 (P:Program) (w:World) (K:W.Frag) (mg:Str→Option Value) (base:Heap) (A:Around) (outer:List Env) (s:Shared) (H:Hp):Prop where
 frames:A.frames=some outer
 mod:Mod K mg base
 bs:∀ b o,base.get? b=some o→s.heap.get? b=some o∧H b=none
 bsz:base.objs.size≤s.heap.objs.size
 funs:s.heap.FunFrames base outer
 frf:∀ b∈frs outer,H b=none
 hok:HOk P w H s.heap
 bare:AllBare s.gens
noncomputable def CE (outer:List Env) (P:Program) (w:World) (H:Hp) (s:Shared) (Q:VK) (u:Value) (s':Shared):Prop :=
 ∃ v H',s'.os=s.os∧AllBare s'.gens∧Un (frs outer) [] H H' s.heap s'.heap∧HOk P w H' s'.heap∧RelV v u∧Q v H'
noncomputable def CR (CX:CXT) (outer:List Env) (P:Program) (w:World) (H:Hp) (s:Shared) (Q:VK) (E:XK) (r:Result) (s':Shared):Prop :=
 match r with
 | .ok (.ret u)=>CE outer P w H s Q u s'
 | .ok _=>False
 | .error e=>CX outer H s E e s'
structure FnOk (P:Program) (w:World) (K:W.Frag) (mg:Str→Option Value) (base:Heap) (CX:CXT) (k:Nat) (f:Addr) (fd:FuncData) (ps:List Str) (sp:Sp):Prop where
 len:∀ vs H Q E,sp vs H Q E→vs.length=ps.length
 run:∀ (A:Around) (outer:List Env) (s:Shared) (H:Hp) (args:Args) (us:List Value) (vs:List V) (Q:VK) (E:XK),Room k A→Env0 P w K mg base A outer s H→BindsTo s fd args (ps.zip us)→Vals vs us→sp vs H Q E →
  codeAny (model P w) A (.call (.ref f) args) (CR CX outer P w H s Q E) s
theorem FnOk.mono {P:Program} {w:World} {K:W.Frag} {mg:Str→Option Value} {base:Heap} {CX:CXT} {j k:Nat} {f:Addr} {fd:FuncData} {ps:List Str} {sp:Sp} (F:FnOk P w K mg base CX j f fd ps sp) (h:j≤k) :
  FnOk P w K mg base CX k f fd ps sp:=⟨F.len,λ A outer s H args us vs Q E hr=>F.run A outer s H args us vs Q E (hr.mono h)⟩
theorem FnOk.imp {P:Program} {w:World} {K:W.Frag} {mg:Str→Option Value} {base:Heap} {CX:CXT} {k:Nat} {f:Addr} {fd:FuncData} {ps:List Str} {sp sp':Sp} (F:FnOk P w K mg base CX k f fd ps sp)
  (h:∀ vs H Q E,sp' vs H Q E→sp vs H Q E):FnOk P w K mg base CX k f fd ps sp' :=
 ⟨λ vs H Q E q=>F.len vs H Q E (h _ _ _ _ q),λ A outer s H args us vs Q E hr he hb hv hs=>F.run A outer s H args us vs Q E hr he hb hv (h _ _ _ _ hs)⟩
theorem Env0.make {P:Program} {w:World} {K:W.Frag} {mg:Str→Option Value} {base:Heap} {A:Around} {outer:List Env} {s:Shared} {H:Hp} (e:Env0 P w K mg base A outer s H) (C:Addr) (us:List Value) (kw:List (Str×Value)) :
  Env0 P w K mg base (A.under (.builtin "type.__call__" ⟨.ref C::us,kw⟩)) outer s H:=⟨by first | exact e.frames | (simpa [Around.under,Code.envs,Code.isFrame,pushEnvs] using e.frames),e.mod,e.bs,e.bsz,e.funs,e.frf,e.hok,e.bare⟩
section
variable {X:Cx} {pins:List (Addr×Obj)} {σ:St} {H:Hp} {s s':Shared}
theorem Inv.env0 (I:Inv X pins σ H s):Env0 X.prog X.w X.K X.mg X.base X.A X.stack s H :=
 ⟨I.ok.frames,I.ok.mod,I.bs,Nat.le_trans I.ok.bsz I.sz,I.stack,I.stkFree,I.hok,I.bare⟩
theorem Inv.after {Q:VK} {u:Value} (I:Inv X pins σ H s) (h:CE X.stack X.prog X.w H s Q u s'):EP X pins σ Q u s':=by
 obtain ⟨v,H',os,bare,un,hok,r,q⟩:=h
 obtain ⟨hh,g,d,t,os'⟩:=s'
 obtain rfl:os'=s.os:=os
 exact ⟨v,H',I.call (h':=hh) (g':=g) (d':=d) (t':=t) (ch:=[]) un hok bare (λ b z=>absurd z (by simp)),r,q⟩
end
noncomputable def zp8 (sp:Sp) (dvs:List V) (E:XK) (t:TA):TE:=λ σ H Q=>t σ H λ vs H1=>sp (vs++dvs) H1 Q E
noncomputable def zqz (C:Addr) (m:Str) (sp:Sp) (dvs:List V) (E:XK) (ta:TE) (t:TA):TE:=λ σ H Q=>ta σ H λ x H1=>∃ a dx fs,x = .ref a∧H1 a=some (.ins C dx fs)∧fs.lookup m=none ∧
 t σ H1 λ vs H2=>sp (x::(vs++dvs)) H2 Q E
noncomputable def zr6 (C:Addr) (sp:Sp) (dvs:List V) (E:XK) (t:TA):TE:=λ σ H Q=>t σ H λ vs H1=>∀ x dx,H1 x=none→H1 dx=none→dx≠x →
 sp (.ref x::(vs++dvs)) (upd (upd H1 dx (.own x)) x (.ins C dx [])) (λ v H2=>v = .non∧Q (.ref x) H2) E
noncomputable def Binds (K:W.Frag) (fd:FuncData) (ps:List Str) (ds:List Value):Prop :=
 ∀ (s:Shared) (us:List Value),K.In s.heap→(us++ds).length=ps.length→BindsTo s fd ⟨us,[]⟩ (ps.zip (us++ds))
theorem Binds.all {K:W.Frag} {fd:FuncData} {ps:List Str} (h:∀ us:List Value,us.length=ps.length→bindArgs fd ⟨us,[]⟩=pure (ps.zip us)):Binds K fd ps []:=λ s us _ hl=>by
 rw [List.append_nil] at hl ⊢
 exact .of_eq (h us hl)
noncomputable def zve (CX:CXT) (X:Cx) (E:XK):Prop:=∀ (pins:List (Addr×Obj)) (σ:St) (H:Hp) (s:Shared) (e:Value) (s':Shared),Inv X pins σ H s→CX X.stack H s E e s'→X.xe e s'
section
variable {X:Cx} {CX:CXT} {k:Nat} {f C:Addr} {fd:FuncData} {ps:List Str} {sp:Sp} {dvs:List V} {ds:List Value} {E:XK} {x m:Str} {p pos apos:Pos} {e o:Expr} {es:List Expr} {ta:TE} {t:TA}
theorem zmp {pins:List (Addr×Obj)} {σ:St} {H:Hp} {s:Shared} {Q:VK} {us:List Value} {vs:List V} (F:FnOk X.prog X.w X.K X.mg X.base CX k f fd ps sp) (hr:Room k X.A) (hb:Binds X.K fd ps ds) (hd:Vals dvs ds) (hx:zve CX X E)
  (I:Inv X pins σ H s) (r:Vals vs us) (h:sp (vs++dvs) H Q E):wpAny (model X.prog X.w) X.A (call (.ref f) us) (EP X pins σ Q) X.xe s:=by
 have r2:Vals (vs++dvs) (us++ds):=r.append hd
 have hl:(us++ds).length=ps.length:=by rw [← r2.length];exact F.len _ _ _ _ h
 refine wpAny_call (codeAny_mono (F.run X.A X.stack s H ⟨us,[]⟩ (us++ds) (vs++dvs) Q E hr I.env0 (hb s us I.kIn hl) r2 h) λ r s' hq=>?_)
 cases r with
 | error e=>exact hx pins σ H s e s' I hq
 | ok fl =>
  cases fl with
  | ret u=>exact I.after hq
  | next=>exact False.elim hq
  | brk=>exact False.elim hq
  | cont=>exact False.elim hq
theorem zpa (F:FnOk X.prog X.w X.K X.mg X.base CX k f fd ps sp) (hr:Room k X.A) (hg:Gl X x) (hm:X.mg x=some (.ref f)) (hk:W.keepIn X.K (.ref f)=true) (hb:Binds X.K fd ps ds) (hd:Vals dvs ds) (hx:zve CX X E)
  (ha:PA X (e::es) t) (hdb:(x == ("__debug__" : Str))=false:=by decide) (he:starEach (e::es) X.env=(false,eval e X.env)::starEach es X.env:=by rfl) (hpl:(backTo pos (starEach es X.env)).any (·.1)=false:=by rfl) :
  PE X (.Call (.Name x p) (e::es) [] pos) (zp8 sp dvs E t) := .mk <| by
 intro pins s σ H Q I h
 refine wpAny_Call_Name_kw (zef I hg hm ?_ hdb)
 refine W.callWith_K (h₀:=X.base) I.ok.mod.kin hk (thn (ha pos pins s σ H _ I h) λ us s1 ⟨vs,H1,I1,r,q⟩=>⟨I1.kIn,?_⟩) he hpl
 exact zmp F hr hb hd hx I1 r q
theorem zza {pl:Sem Bool} (he:PE X o ta) (c:Cls X.K C) (hm:Meth X.K C m f) (F:FnOk X.prog X.w X.K X.mg X.base CX k f fd ps sp) (hr:Room k X.A) (hb:Binds X.K fd ps ds) (hd:Vals dvs ds) (hx:zve CX X E) (ha:PA X (e::es) t)
  (hst:starEach (e::es) X.env=(false,eval e X.env)::starEach es X.env:=by rfl) (hpl:(backTo pos (starEach es X.env)).any (·.1)=false:=by rfl)
  (ht:eval (.Call (.Attribute o m apos) (e::es) [] pos) X.env=(do
   let ov ← eval o X.env
   standAt apos.atName
   let (f,first) ← holding [ov] (getMethod ov m pl)
   callWith pos f first (backTo pos (starEach (e::es) X.env)) (backToKw pos (keywordEach [] X.env))):=by rfl) :
  PE X (.Call (.Attribute o m apos) (e::es) [] pos) (zqz C m sp dvs E ta t) := .mk <| by
 intro pins s σ H Q I h
 refine W.methodCall_KW (pl:=pl) (thn (he pins s σ H _ I h) λ u s1 ⟨x,H1,I1,rx,a,dx,fs,ex,ea,l,q⟩=>?_) ht
 subst ex
 obtain rfl:u=Value.ref a:=rx
 refine zwd I1 ea c hm l ?_
 refine W.callWith_K (first:=[.ref a]) (h₀:=X.base) I.ok.mod.kin hm.kp (thn (ha pos pins s1 σ H1 _ I1 q) λ us s2 ⟨vs,H2,I2,r,q2⟩=>⟨I2.kIn,?_⟩) hst hpl
 exact zmp (us := .ref a::us) (vs := .ref a::vs) F hr hb hd hx I2 (.cons rfl r) q2
theorem zja {pl:Sem Bool} (he:PE X o ta) (c:Cls X.K C) (hm:Meth X.K C m f) (F:FnOk X.prog X.w X.K X.mg X.base CX k f fd ps sp) (hr:Room k X.A) (hb:Binds X.K fd ps ds) (hd:Vals dvs ds) (hx:zve CX X E)
  (ht:eval (.Call (.Attribute o m apos) [] [] pos) X.env=(do
   let ov ← eval o X.env
   standAt apos.atName
   let (f,first) ← holding [ov] (getMethod ov m pl)
   callWith pos f first (backTo pos (starEach [] X.env)) (backToKw pos (keywordEach [] X.env))):=by rfl) :
  PE X (.Call (.Attribute o m apos) [] [] pos) (zqz C m sp dvs E ta tNil) := .mk <| by
 intro pins s σ H Q I h
 refine W.methodCall_KW (pl:=pl) (thn (he pins s σ H _ I h) λ u s1 ⟨x,H1,I1,rx,a,dx,fs,ex,ea,l,q⟩=>?_) ht
 subst ex
 obtain rfl:u=Value.ref a:=rx
 refine zwd I1 ea c hm l ?_
 exact W.callWith_K0 (first:=[.ref a]) I1.kIn hm.kp (zmp (us:=[.ref a]) (vs:=[.ref a]) F hr hb hd hx I1 (.cons rfl .nil) q)
structure Mk (K:W.Frag) (C f:Addr):Prop where
 makes:W.makesIn K C=true
 init:W.findIn K (.ref C) "__init__" = some (some (.ref f))
 fn:W.isFn K (.ref f)=true
 kp:W.keepIn K (.ref C)=true
theorem zfl {pins:List (Addr×Obj)} {σ:St} {H:Hp} {s:Shared} {Q:VK} {us:List Value} {vs:List V} (M:Mk X.K C f) (F:FnOk X.prog X.w X.K X.mg X.base CX k f fd ps sp) (hr:Room (k+1) X.A) (hb:Binds X.K fd ps ds) (hd:Vals dvs ds)
  (hx:zve CX X E) (I:Inv X pins σ H s) (r:Vals vs us)
  (h:∀ x dx,H x=none→H dx=none→dx≠x→sp (.ref x::(vs++dvs)) (upd (upd H dx (.own x)) x (.ins C dx [])) (λ v H2=>v = .non∧Q (.ref x) H2) E) :
  wpAny (model X.prog X.w) X.A (call (.ref C) us) (EP X pins σ Q) X.xe s:=by
 have hq:=h (s.heap.objs.size+1) s.heap.objs.size (I.hok.fresh (Nat.le_succ _)) (I.hok.fresh (Nat.le_refl _)) (Nat.ne_of_lt (Nat.lt_succ_self _))
 have I2:=Inv.made (C:=C) I
 have r2:Vals (V.ref (s.heap.objs.size+1)::(vs++dvs)) (Value.ref (s.heap.objs.size+1)::(us++ds)) := .cons rfl (r.append hd)
 have hl:(Value.ref (s.heap.objs.size+1)::us++ds).length=ps.length:=by
  have e:=r2.length
  rw [F.len _ _ _ _ hq] at e
  exact e.symm
 refine wpAny_call (zms (f:=f) I.kIn M.makes M.init (beq_iff_eq.mp M.fn) (codeAny_mono (F.run _ X.stack _ _ ⟨Value.ref (s.heap.objs.size+1)::us,[]⟩ (Value.ref (s.heap.objs.size+1)::(us++ds)) _ _ E (hr.make C us [])
  (I2.env0.make C us []) (hb _ (Value.ref (s.heap.objs.size+1)::us) I2.kIn hl) r2 hq) λ r s' hq'=>?_))
 cases r with
 | error e=>exact hx pins σ _ _ e s' I2 hq'
 | ok fl =>
  cases fl with
  | ret u =>
   obtain ⟨v,H',I3,rv,ev,q3⟩:=I2.after hq'
   subst ev
   exact ⟨rv,⟨V.ref (s.heap.objs.size+1),H',I3,rfl,q3⟩⟩
  | next=>exact False.elim hq'
  | brk=>exact False.elim hq'
  | cont=>exact False.elim hq'
theorem zbj (M:Mk X.K C f) (F:FnOk X.prog X.w X.K X.mg X.base CX k f fd ps sp) (hr:Room (k+1) X.A) (hg:Gl X x) (hm:X.mg x=some (.ref C)) (hb:Binds X.K fd ps ds) (hd:Vals dvs ds) (hx:zve CX X E)
  (ha:PA X (e::es) t) (hdb:(x == ("__debug__" : Str))=false:=by decide) (he:starEach (e::es) X.env=(false,eval e X.env)::starEach es X.env:=by rfl) (hpl:(backTo pos (starEach es X.env)).any (·.1)=false:=by rfl) :
  PE X (.Call (.Name x p) (e::es) [] pos) (zr6 C sp dvs E t) := .mk <| by
 intro pins s σ H Q I h
 refine wpAny_Call_Name_kw (zef I hg hm ?_ hdb)
 refine W.callWith_K (h₀:=X.base) I.ok.mod.kin M.kp (thn (ha pos pins s σ H _ I h) λ us s1 ⟨vs,H1,I1,r,q⟩=>⟨I1.kIn,?_⟩) he hpl
 exact zfl M F hr hb hd hx I1 r q
theorem zxr (M:Mk X.K C f) (F:FnOk X.prog X.w X.K X.mg X.base CX k f fd ps sp) (hr:Room (k+1) X.A) (hg:Gl X x) (hm:X.mg x=some (.ref C)) (hb:Binds X.K fd ps ds) (hd:Vals dvs ds) (hx:zve CX X E)
  (hdb:(x == ("__debug__" : Str))=false:=by decide):PE X (.Call (.Name x p) [] [] pos) (zr6 C sp dvs E tNil) := .mk <| by
 intro pins s σ H Q I h
 refine wpAny_Call_Name_kw (zef I hg hm ?_ hdb)
 exact W.callWith_K0 I.kIn M.kp (zfl (us:=[]) M F hr hb hd hx I .nil h)
end
section
variable {X:Cx} {CX:CXT} {k:Nat} {f C:Addr} {fd:FuncData} {ps ks:List Str} {sp:Sp} {E:XK} {x m:Str} {p pos apos kpos:Pos} {e o:Expr} {es:List Expr} {kws:List Keyword} {te ta:TE} {t tk:TA} {nm:Option Str}
variable {g:List Value→List Value→List Value} {gV:List V→List V→List V}
end
structure FnScope (N P:List Str) (sc:Scope):Prop where
 kind:sc.kind = .function
 co:sc.isCoroutine=false
 gen:sc.isGenerator=false
 nd:N.Nodup
 pre:N.take P.length=P
 par:∀ x∈P,sc.names.lookup x=some .local ∨ sc.names.lookup x=some .cell
 nofree:∀ y∈sc.names,y.2 ≠ .free
theorem zui {kindOf:Str→Option NameKind} {x:Str}:∀ {binds:List (Str×Value)} {m:Str→Option Value},(∀ v,(x,v)∉binds)→bindL kindOf binds m x=m x
 | [],_,_=>rfl
 | (n,v)::r,m,h=>by
  unfold bindL
  rw [zui λ w hw=>h w (List.mem_cons_of_mem _ hw)]
  split
  ·have:x≠n:=by rintro rfl;exact h v List.mem_cons_self
   simp [this]
  ·rfl
theorem zaj {kindOf:Str→Option NameKind} {x:Str}:∀ {binds:List (Str×Value)} {m:Str→Option Value},(∀ v,(x,v)∉binds)→bindC kindOf binds m x=m x
 | [],_,_=>rfl
 | (n,v)::r,m,h=>by
  unfold bindC
  rw [zaj λ w hw=>h w (List.mem_cons_of_mem _ hw)]
  split
  ·rfl
  ·have:x≠n:=by rintro rfl;exact h v List.mem_cons_self
   simp [this]
theorem zfj {kindOf:Str→Option NameKind} {x:Str} {v:Value}:∀ {P:List Str} {vs:List Value} {i:Nat} {m:Str→Option Value},P.Nodup→P[i]? = some x→vs[i]? = some v→kindOf x=some .local →
  bindL kindOf (P.zip vs) m x=some v
 | [],_,_,_,_,h,_,_=>by simp at h
 | _::_,[],_,_,_,_,h,_=>by simp at h
 | p::P,w::vs,0,m,nd,h1,h2,hk=>by
  simp at h1 h2;subst h1;subst h2
  show bindL kindOf ((p,w)::P.zip vs) m p=_
  unfold bindL
  rw [zui λ v hv=>(List.nodup_cons.mp nd).1 (List.of_mem_zip hv).1,if_pos hk]
  simp
 | p::P,w::vs,i+1,m,nd,h1,h2,hk=>by
  show bindL kindOf ((p,w)::P.zip vs) m x=_
  unfold bindL
  exact zfj (i:=i) (List.nodup_cons.mp nd).2 (by simpa using h1) (by simpa using h2) hk
theorem zkj {kindOf:Str→Option NameKind} {x:Str} {v:Value}:∀ {P:List Str} {vs:List Value} {i:Nat} {m:Str→Option Value},P.Nodup→P[i]? = some x→vs[i]? = some v→kindOf x≠some .local →
  bindC kindOf (P.zip vs) m x=some v
 | [],_,_,_,_,h,_,_=>by simp at h
 | _::_,[],_,_,_,_,h,_=>by simp at h
 | p::P,w::vs,0,m,nd,h1,h2,hk=>by
  simp at h1 h2;subst h1;subst h2
  show bindC kindOf ((p,w)::P.zip vs) m p=_
  unfold bindC
  rw [zaj λ v hv=>(List.nodup_cons.mp nd).1 (List.of_mem_zip hv).1,if_neg hk]
  simp
 | p::P,w::vs,i+1,m,nd,h1,h2,hk=>by
  show bindC kindOf ((p,w)::P.zip vs) m x=_
  unfold bindC
  exact zkj (i:=i) (List.nodup_cons.mp nd).2 (by simpa using h1) (by simpa using h2) hk
noncomputable def zyo (N:List Str) (vs:List V):St:=vs.map some++List.replicate (N.length - vs.length) none
noncomputable def cxOf (CX:CXT) (P:Program) (w:World) (K:W.Frag) (mg:Str→Option Value) (base:Heap) (N:List Str) (qual:Str) (scope:Scope) (f:Addr) (cd:Value) (A:Around) (outer:List Env) (s:Shared) (H:Hp) (E:XK):Cx where
 prog:=P
 w:=w
 K:=K
 mg:=mg
 base:=base
 A:=A.deeper (envOfC qual scope s.heap.objs.size f cd)
 N:=N
 s₀:=s
 H₀:=H
 env:=envOfC qual scope s.heap.objs.size f cd
 outer:=outer
 stack:=envOfC qual scope s.heap.objs.size f cd::outer
 ex:=[]
 calm:=true
 fn:=λ _=>true
 pn:=[]
 xe:=λ e s'=>wpAny (model P w) (A.deeper (envOfC qual scope s.heap.objs.size f cd)) (leaving (envOfC qual scope s.heap.objs.size f cd) e) (λ _ s''=>CX outer H s E e s'') (λ e' s''=>CX outer H s E e' s'') s'
theorem zhm {sc:Scope} {n:Nat} {x:Str} (h:sc.names.lookup x=some .cell):∃ c,(cellsFrom n sc.names []).lookup x=some c:=by
 have q:=W.cellsFrom_some sc.names n [] (.inl h)
 exact Option.isSome_iff_exists.mp q
theorem zvp {CX:CXT} {P:Program} {w:World} {K:W.Frag} {mg:Str→Option Value} {base:Heap} {N ps:List Str} {qual:Str} {scope:Scope} {f:Addr} {cd:Value} {A:Around} {outer:List Env} {s s1:Shared} {H:Hp} {E:XK} {us:List Value} {vs:List V}
  (S:FnScope N ps scope) (hd:A.handled=none) (e0:Env0 P w K mg base A outer s H) (hl:vs.length=ps.length) (r:Vals vs us)
  (x:InCallC s s.heap.objs.size (bindL (envOfC qual scope s.heap.objs.size f cd).kindOf (ps.zip us) λ _=>none) (cellsFrom (s.heap.objs.size+1) scope.names []) (bindC (envOfC qual scope s.heap.objs.size f cd).kindOf (ps.zip us) λ _=>none) s1) :
  Inv (cxOf CX P w K mg base N qual scope f cd A outer s H E) [] (zyo N vs) H s1:=by
 have hpl:ps.length≤N.length:=by have:=congrArg List.length S.pre;rw [List.length_take] at this;omega
 obtain ⟨h1,tk,rfl,hk⟩:=x.done
 have noA:∀ b:Addr,b∉(cxOf CX P w K mg base N qual scope f cd A outer s H E).ex:=λ b z=>absurd (show b∈([]:List Addr) from z) (by simp)
 refine ⟨⟨e0.mod,S.kind,rfl,rfl,Nat.le_refl _,λ y z c h1 h2=>?_,λ y hy=>?_,λ y c _ h=>?_,λ _=>hd,Around.frames_deeper e0.frames,.inr ⟨rfl,rfl⟩,λ b z=>absurd z (noA b),e0.bs,e0.bsz,λ b _ _=>noA b,λ b z=>absurd z (noA b),e0.funs,e0.frf⟩,
  rfl,e0.bare,Un.kept hk,⟨_,x.toInCall.ns,λ i y v h1 h2 h3=>?_⟩,λ y c h=>⟨_,x.cell y c h⟩,e0.hok.fresh (Nat.le_refl _),λ y c h=>?_,λ p hp=>absurd (show p∈([]:List (Addr×Obj)) from hp) (by simp),e0.hok.kept hk,?_⟩
 ·exact name_of_addr x.apart (PySem.mem_of_lookup h1) (PySem.mem_of_lookup h2)
 ·have hy:scope.names.lookup y=some .cell ∨ scope.names.lookup y=some .free:=hy
  rcases hy with hy | hy
  ·exact zhm hy
  ·exact absurd rfl (S.nofree _ (PySem.mem_of_lookup hy))
 ·exact Nat.le_of_lt (x.above y c (PySem.mem_of_lookup h))
 ·have hi:i<vs.length:=by
   unfold zyo at h2
   by_cases hi:i<vs.length
   ·exact hi
   ·rw [List.getElem?_append_right (by simpa using hi)] at h2
    rw [List.getElem?_replicate] at h2
    split at h2 <;> cases h2
  have ha:vs[i]? = some v:=by
   unfold zyo at h2
   rw [List.getElem?_append_left (by simpa using hi),List.getElem?_map] at h2
   cases e:vs[i]? with
   | none=>rw [e] at h2;cases h2
   | some a=>rw [e] at h2;cases h2;rfl
  obtain ⟨u,hu,rv⟩:=r.get ha
  have hp:ps[i]? = some y:=by
   rw [← S.pre,List.getElem?_take_of_lt (by omega)];exact h1
  have ndP:ps.Nodup:=by rw [← S.pre];exact S.nd.sublist (List.take_sublist _ _)
  refine ⟨u,rv,?_⟩
  rcases S.par y (List.mem_of_getElem? hp) with k | k
  ·exact .inl ⟨k,zfj ndP hp hu k⟩
  ·obtain ⟨c,e⟩:=zhm (n:=s.heap.objs.size+1) k
   refine .inr ⟨.inl k,c,e,?_⟩
   have q:=x.cell y c e
   rw [zkj ndP hp hu (by show scope.names.lookup y≠_;rw [k];decide)] at q
   exact q
 ·exact e0.hok.fresh (Nat.le_of_lt (x.above y c (PySem.mem_of_lookup h)))
 ·unfold zyo
  show _=N.length
  rw [List.length_append,List.length_map,List.length_replicate]
  omega
theorem zk7 {CX:CXT} {P:Program} {w:World} {K:W.Frag} {mg:Str→Option Value} {base:Heap} {k:Nat} {f:Addr} {name qual:Str} {params:Arguments} {body:List Stmt} {scope:Scope} {dV kV doc pm cdv ct oc:Value} {an od:Option Addr}
  {osl:Array (Option Value)} {N ps:List Str} {sp:Sp} (lk:K.lookup f=some ⟨oc,od,.func (W.fnOf name qual params body scope dV kV doc pm an cdv ct),osl⟩) (hcd:W.codeIn K cdv qual=true) (S:FnScope N ps scope)
  (len:∀ vs H Q E,sp vs H Q E→vs.length=ps.length)
  (hbody:∀ (A:Around) (outer:List Env) (s:Shared) (H:Hp) (vs:List V) (Q:VK) (E:XK),Room k (A.deeper (envOfC qual scope s.heap.objs.size f cdv))→sp vs H Q E →
   ∃ t,PSs (cxOf CX P w K mg base N qual scope f cdv A outer s H E) body t∧t { nx:=λ _ H'=>Q .non H',rt:=Q } (zyo N vs) H) :
  FnOk P w K mg base CX (k+1) f (W.fnOf name qual params body scope dV kV doc pm an cdv ct) ps sp:=by
 refine ⟨len,λ A outer s H args us vs Q E hr e0 hb r hsp=>?_⟩
 have hl:=len _ _ _ _ hsp
 have KX:K.In s.heap:=e0.mod.kin.keeps λ b o e=>(e0.bs b o e).1
 have lim:s.heap.NoLimit:=e0.mod.nolimit.keeps λ b o e=>(e0.bs b o e).1
 have hkind:∀ y∈ps.zip us,scope.names.lookup y.1=some .local ∨ (scope.names.lookup y.1=some .cell∧((cellsFrom (s.heap.objs.size+1) scope.names []).lookup y.1).isSome=true):=λ ⟨n,v⟩ hy=>by
  rcases S.par n (List.of_mem_zip hy).1 with q | q
  ·exact .inl q
  ·exact .inr ⟨q,W.cellsFrom_some _ _ _ (.inl q)⟩
 refine codeAny_call_function hr.depth (KX _ _ lk) rfl S.co S.gen rfl (W.codeRec_of KX hcd) (hb _ _ _ _ ?_)
 refine wpAny_newFunctionEnv_cells S.kind hkind λ env he s1 x=>?_
 subst he
 refine ⟨lim.keeps x.toInCall.keep,codeAny_func ?_⟩
 obtain ⟨t,ht,hq⟩:=hbody A outer s H vs Q E (hr.deeper _) hsp
 have I:Inv (cxOf CX P w K mg base N qual scope f cdv A outer s H E) [] (zyo N vs) H s1:=zvp S hr.hd e0 hl r x
 refine wpAny_mono (ht [] s1 (zyo N vs) H _ I hq) (λ fl s' hs=>?_) λ e s' hs=>hs
 have fin:∀ {σ':St} {H':Hp} {v:V} {u:Value},Inv (cxOf CX P w K mg base N qual scope f cdv A outer s H E) [] σ' H' s'→RelV v u→Q v H'→CE outer P w H s Q u s' :=
  fun {σ' H' v u} J rv q=>⟨v,H',J.os,J.bare,J.base,J.hok,rv,q⟩
 cases fl with
 | ret u =>
  obtain ⟨v,σ',H',J,rv,q⟩:=hs
  exact fin J rv q
 | next =>
  obtain ⟨σ',H',J,q⟩:=hs
  exact fin (v:=V.non) (u:=Value.none) J rfl q
 | brk =>
  obtain ⟨_,_,_,q⟩:=hs
  exact False.elim q
 | cont =>
  obtain ⟨_,_,_,q⟩:=hs
  exact False.elim q
end L2
namespace L2
open PySem PySem.Spec PyProof.Rows
section
variable {X:Cx} {x:Str} {p pos:Pos} {e:Expr} {es:List Expr} {t:TA} {id T:String} {r:List V→Hp→VK→Prop}
noncomputable def tCB (r:List V→Hp→VK→Prop) (t:TA):TE:=λ σ H Q=>t σ H λ vs H1=>r vs H1 Q
theorem zkb (hc:zqk X (.builtin id) r) (hg:Gl X x) (hm:X.mg x=none) (hv:bootBuiltins x=some (.builtin id)) (ha:PA X (e::es) t) (hn:x ≠ "__name__" := by decide) (hdb:(x == ("__debug__" : Str))=false:=by decide)
  (he:starEach (e::es) X.env=(false,eval e X.env)::starEach es X.env:=by rfl) (hpl:(backTo pos (starEach es X.env)).any (·.1)=false:=by rfl):PE X (.Call (.Name x p) (e::es) [] pos) (tCB r t) := .mk <| by
 intro pins s σ H Q I h
 refine wpAny_Call_Name_kw (zdn I hg hm hv ?_ hn hdb)
 exact PyProof.Rows.callWith_builtin1 (thn (ha pos pins s σ H _ I h) λ us s1 ⟨vs,H1,I1,r1,q1⟩=>hc pins s1 σ H1 vs us Q I1 r1 q1) he hpl
theorem zfc (hc:zqk X (.type T) r) (hg:Gl X x) (hm:X.mg x=none) (hv:bootBuiltins x=some (.type T)) (ha:PA X (e::es) t) (hn:x ≠ "__name__" := by decide) (hdb:(x == ("__debug__" : Str))=false:=by decide)
  (he:starEach (e::es) X.env=(false,eval e X.env)::starEach es X.env:=by rfl) (hpl:(backTo pos (starEach es X.env)).any (·.1)=false:=by rfl):PE X (.Call (.Name x p) (e::es) [] pos) (tCB r t) := .mk <| by
 intro pins s σ H Q I h
 refine wpAny_Call_Name_kw (zdn I hg hm hv ?_ hn hdb)
 exact PyProof.Rows.callWith_type1 (thn (ha pos pins s σ H _ I h) λ us s1 ⟨vs,H1,I1,r1,q1⟩=>hc pins s1 σ H1 vs us Q I1 r1 q1) he hpl
end
end L2
namespace HT
open PySem PyProof.Rows
section
open PySem.SeqAt
open PySem.AutoSeq1 (wpAny_loadPart')
open PySem.MeetsSeq PySem.MeetsSeq2 PySem.MeetsSeq3
end
section
variable {prog:Program} {w:World} {A:Around} {E:Value→Shared→Prop} {s:Shared}
theorem cat_tup {t b:Addr} {vs ws:List Value} {Q:Value→Shared→Prop} (ht:IsTup s.heap t vs.toArray) (hb:IsTup s.heap b ws.toArray) (hv:vs≠[])
  (h1:ws=[]→Q (.ref t) s) (h2:ws≠[]→Q (.ref s.heap.objs.size) { s with heap:=s.heap.push { cls := .type "tuple",data := .seq (vs++ws).toArray } })
  (hsz:vs.length+ws.length≤sizeLine):wpAny (model prog w) A (binaryOp .Add (.ref t) (.ref b)) Q E s:=by
 obtain ⟨⟨cls,dd,data,sl⟩,ho,hc,n,hd⟩:=id ht
 obtain ⟨⟨cls2,dd2,data2,sl2⟩,ho2,hc2,n2,hd2⟩:=id hb
 simp only at hc hd hc2 hd2
 subst hc hd hc2 hd2
 have e:vs.toArray++ws.toArray=(vs++ws).toArray:=by simp
 by_cases hw:ws=[]
 ·exact concat_meets ⟨_,ho,rfl⟩ ⟨_,ho2,rfl⟩ noFill_tuple_add seq_tuple_add PySem.F.slot_tuple_add PySem.F.entry_tuple_add (PySem.F.args_tuple_add_2 _ _)
   (tuple_addW1 t b vs.toArray ws.toArray n n2 dd dd2 sl sl2 (by simpa using hv) (by simp [hw])) ⟨ho,ho2,h1 hw⟩
 ·refine concat_meets ⟨_,ho,rfl⟩ ⟨_,ho2,rfl⟩ noFill_tuple_add seq_tuple_add PySem.F.slot_tuple_add PySem.F.entry_tuple_add (PySem.F.args_tuple_add_2 _ _)
   (tuple_addW2 t b vs.toArray ws.toArray n n2 dd dd2 sl sl2 (by simpa using hv) (by simpa using hw) (by rw [List.size_toArray,List.size_toArray];exact hsz)) ⟨ho,ho2,?_⟩
  rw [e]
  exact h2 hw
noncomputable def sIx (n d:Nat):Option Int→Nat
 | none=>d
 | some v=>if v<0 then (v+(n:Int)).toNat else min v.toNat n
theorem sIx_none (n d:Nat):sIx n d none=d:=rfl
theorem sIx_nat (n d k:Nat):sIx n d (some (k:Int))=min k n:=by
 show (if (k:Int)<0 then ((k:Int)+(n:Int)).toNat else min (k:Int).toNat n)=min k n
 rw [if_neg (by omega),Int.toNat_natCast]
theorem zs1 (n d:Nat) (hd:d≤n) (o:Option Int):sIx n d o≤n:=by
 cases o with
 | none=>exact hd
 | some v =>
  show (if v<0 then (v+(n:Int)).toNat else min v.toNat n)≤n
  by_cases hv:v<0
  ·rw [if_pos hv];omega
  ·rw [if_neg hv];exact Nat.min_le_right _ _
theorem zuq (v:Int) (n d:Nat):(if v<0 then max (v+(n:Int)) 0 else min v (n:Int))=((sIx n d (some v):Nat):Int):=by
 show (if v<0 then max (v+(n:Int)) 0 else min v (n:Int))=(((if v<0 then (v+(n:Int)).toNat else min v.toNat n):Nat):Int)
 by_cases hv:v<0
 ·simp only [if_pos hv];omega
 ·simp only [if_neg hv];omega
theorem zil (lo hi:Option Int) (n:Nat):Builtin.Slice.sliceAdjust lo hi 1 (n:Int)=(((sIx n 0 lo:Nat):Int),((sIx n n hi:Nat):Int)):=by
 have h1:¬ ((1:Int)<0):=by omega
 unfold Builtin.Slice.sliceAdjust
 simp only [h1,if_false]
 refine Prod.ext ?_ ?_
 ·cases lo with
  | none=>rfl
  | some v=>exact zuq v n 0
 ·cases hi with
  | none=>rfl
  | some v=>exact zuq v n n
theorem zpm (i j:Nat):Builtin.Slice.slicePlaces (i:Int) (j:Int) 1=j - i:=by
 unfold Builtin.Slice.slicePlaces
 have h1:(1:Int) > 0:=by omega
 simp only [h1,if_true,Int.ediv_one]
 split <;> omega
theorem zch {v:Value} {o:Option Int} {Q:Option Int→Shared→Prop} (p:IsPart v o) (h:Q o s):wpAny (model prog w) A (Builtin.Slice.slicePartIndex v) Q E s:=by
 cases p with
 | none=>exact slicePart_none h
 | int i t=>exact slicePart_int h
theorem zcc {sl:Addr} {vl vu:Value} {lo hi:Option Int} {n:Nat} {Q:Int×Int×Nat→Shared→Prop} (hs:s.heap.IsSliceOf sl vl vu .none) (pl:IsPart vl lo) (pu:IsPart vu hi)
  (h:Q (((sIx n 0 lo:Nat):Int),1,sIx n n hi - sIx n 0 lo) s):wpAny (model prog w) A (Builtin.Slice.sliceApplied (.ref sl) (pure (n:Int))) Q E s:=by
 obtain ⟨os,hos,hcs,hds⟩:=id hs
 unfold Builtin.Slice.sliceApplied Builtin.Slice.sliceFields
 refine wpAny_bind (wpAny_bind (wpAny_field hos hds (x:=vl) rfl (wpAny_bind (wpAny_field hos hds (x:=vu) rfl (wpAny_bind (wpAny_field hos hds (x := .none) rfl (wpAny_pure ?_)))))))
 refine wpAny_bind (slicePart_none ?_)
 show wpAny _ _ (if ((1:Int) == 0)=true then _ else _) _ _ s
 rw [if_neg (by decide)]
 refine wpAny_bind (zch pl (wpAny_bind (zch pu (wpAny_bind (wpAny_pure ?_)))))
 show wpAny _ _ (match Builtin.Slice.sliceAdjust lo hi 1 (n:Int) with | (lo,hi)=>pure (lo,(1:Int),Builtin.Slice.slicePlaces lo hi 1)) _ _ s
 rw [zil lo hi n]
 show wpAny _ _ (pure (((sIx n 0 lo:Nat):Int),(1:Int),Builtin.Slice.slicePlaces ((sIx n 0 lo:Nat):Int) ((sIx n n hi:Nat):Int) 1)) _ _ s
 rw [zpm]
 exact wpAny_pure h
theorem zks (xs:Array Value) (i k:Nat):((List.range k).filterMap λ (m:Nat)=>xs[((i:Int)+(m:Int) * 1).toNat]?).toArray=((xs.toList.drop i).take k).toArray:=by
 have e:(λ (m:Nat)=>xs[((i:Int)+(m:Int) * 1).toNat]?)=λ m=>xs[i+m]?:=by
  funext m
  have:((i:Int)+(m:Int) * 1).toNat=i+m:=by omega
  rw [this]
 rw [e]
 have:=pick_run xs i k
 rw [List.filterMap_map] at this
 have e2:((λ x=>xs[x]?) ∘ λ x=>i+x)=λ m=>xs[i+m]?:=rfl
 rw [e2] at this
 rw [this]
theorem getItem_tuple_cut {t sl:Addr} {items:Array Value} {vl vu:Value} {lo hi:Option Int} {Q:Value→Shared→Prop} (ht:IsTup s.heap t items) (hs:s.heap.IsSliceOf sl vl vu .none) (pl:IsPart vl lo) (pu:IsPart vu hi)
  (hw:¬ (sIx items.size 0 lo=0∧sIx items.size items.size hi=items.size))
  (h:Q (.ref s.heap.objs.size) { s with heap:=s.heap.push { cls := .type "tuple",data := .seq ((items.toList.drop (sIx items.size 0 lo)).take (sIx items.size items.size hi - sIx items.size 0 lo)).toArray } })
  (hsz:items.size≤sizeLine):wpAny (model prog w) A (getItem (.ref t) (.ref sl)) Q E s:=by
 have htake:sizeOk (.seq ((items.toList.drop (sIx items.size 0 lo)).take (sIx items.size items.size hi - sIx items.size 0 lo)).toArray):=by
  show ((items.toList.drop (sIx items.size 0 lo)).take (sIx items.size items.size hi - sIx items.size 0 lo)).toArray.size≤sizeLine
  rw [List.size_toArray,List.length_take,List.length_drop,Array.length_toList]
  omega
 have hj:sIx items.size items.size hi≤items.size:=zs1 _ _ (Nat.le_refl _) hi
 obtain ⟨os,hos,hcs,hds⟩:=id hs
 have hTs:s.TypeIs (.ref sl) "slice" := ⟨os,hos,hcs⟩
 unfold getItem
 try with_reducible refine wpAny_holding ?_
 first | refine wpAny_bind (wpAny_pure ?_) | skip
 refine wpAny_bind (wpAny_sequenceKey ht.typeIs (by decide) ?_)
 refine wpAny_bind (wpAny_callSpecial?_slot (name:=Str.ofString "__getitem__") ht.typeIs PyProof.Rows.slot_tuple_getitem
  (wpAny_call_entry PyProof.Rows.slot_tuple_getitem ht.typeIs entry_tuple_getitem ?_ (args_tuple_getitem _ _)))
 show wpAny _ _ (Builtin.Tuple.tupleItemsOf (.ref t) >>= _) _ _ s
 refine wpAny_bind (tupleItemsOf_ ht ?_)
 refine wpAny_bind (wpAny_typeOf hTs ?_)
 rw [if_pos (by decide)]
 refine wpAny_bind (zcc hs pl pu ?_)
 have hno:¬ ((((sIx items.size 0 lo:Nat):Int) == 0 && (1:Int) == 1 && (sIx items.size items.size hi - sIx items.size 0 lo) == items.size)=true):=by
  intro q
  rw [Bool.and_eq_true,Bool.and_eq_true] at q
  have q1:((sIx items.size 0 lo:Nat):Int)=0:=eq_of_beq q.1.1
  have q2:sIx items.size items.size hi - sIx items.size 0 lo=items.size:=eq_of_beq q.2
  exact hw ⟨by omega,by omega⟩
 show wpAny _ _ (if (((sIx items.size 0 lo:Nat):Int) == 0 && (1:Int) == 1 && (sIx items.size items.size hi - sIx items.size 0 lo) == items.size)=true then _ else _) _ _ s
 rw [if_neg hno,zks]
 first
  | exact wpAny_bind (m:=Builtin.Tuple.tupleExact _) (wpAny_newObj_type (wpAny_pure ⟨_,rfl,wpAny_pure h⟩) htake)
  | exact wpAny_bind (m:=Builtin.Tuple.tupleExact _) (wpAny_newObj_type (wpAny_bind (wpAny_pure (wpAny_pure ⟨_,rfl,wpAny_pure h⟩))) htake)
  | exact wpAny_bind (wpAny_bind (m:=Builtin.Tuple.tupleExact _) (wpAny_newObj_type (wpAny_pure (wpAny_pure ⟨_,rfl,wpAny_pure h⟩)) htake))
  | exact wpAny_bind (wpAny_bind (m:=Builtin.Tuple.tupleExact _) (wpAny_newObj_type (wpAny_pure ⟨_,rfl,wpAny_pure h⟩) htake))
end
end HT
namespace L2
open PySem PySem.Spec PyProof.Rows
noncomputable abbrev TO:=St→Hp→(Option Int→Hp→Prop)→Prop
noncomputable def PO (X:Cx) (e:Option Expr) (t:TO):Prop :=
 ∀ (pins:List (Addr×Obj)) (s:Shared) (σ:St) (H:Hp) (Q:Option Int→Hp→Prop),Inv X pins σ H s→t σ H Q →
  wpAny (model X.prog X.w) X.A (evalPart e X.env) (λ u s'=>∃ o H',Inv X pins σ H' s'∧IsPart u o∧Q o H') X.xe s
noncomputable def zev:TO:=λ _ H Q=>Q none H
noncomputable def zh8 (t:TE):TO:=λ σ H Q=>t σ H λ x H1=>∃ i,x = .int i∧Q (some i) H1
theorem zyg {ns:List Int}:∀ {us:List Value},Vals (ns.map V.int) us→IntsAre us ns:=by
 induction ns with
 | nil=>intro us r;rw [List.map_nil] at r;cases r;exact .nil
 | cons n ns ih =>
  intro us r
  rw [List.map_cons] at r
  cases r with
  | cons r1 r2 =>
   obtain ⟨t,e⟩:=r1
   subst e
   exact .cons n t (ih r2)
section
variable {X:Cx} {e:Expr} {te:TE} {lo hi:Option Expr} {tl th:TO} {pos p2:Pos}
theorem zpc:PO X none zev:=by
 intro pins s σ H Q I h
 rw [evalPart_none]
 exact wpAny_pure ⟨none,H,I,.none,h⟩
theorem zsc (h:PE X e te):PO X (some e) (zh8 te):=by
 intro pins s σ H Q I hw
 rw [evalPart_some]
 refine thn (h pins s σ H _ I hw) λ u s1 ⟨x,H1,I1,r1,q1⟩=>?_
 obtain ⟨i,rfl,q⟩:=q1
 obtain ⟨t,rfl⟩:=r1
 exact ⟨some i,H1,I1,.int i t,q⟩
noncomputable def SlR (X:Cx) (r:V→Option Int→Option Int→Hp→VK→Prop):Prop :=
 ∀ (pins:List (Addr×Obj)) (s:Shared) (σ:St) (H:Hp) (x:V) (v vl vu:Value) (lo hi:Option Int) (sl:Addr) (Q:VK),Inv X pins σ H s→RelV x v→s.heap.IsSliceOf sl vl vu .none→IsPart vl lo→IsPart vu hi→r x lo hi H Q →
  ∃ T id,typeLookup (.type T) "__getitem__" = pure (some (.builtin id))∧s.TypeIs v T∧wpAny (model X.prog X.w) X.A (getItem v (.ref sl)) (EP X pins σ Q) X.xe s
noncomputable def tSl (r:V→Option Int→Option Int→Hp→VK→Prop) (te:TE) (tl th:TO):TE:=λ σ H Q=>te σ H λ x H1=>tl σ H1 λ l H2=>th σ H2 λ u H3=>r x l u H3 Q
theorem zac {r:V→Option Int→Option Int→Hp→VK→Prop} (hr:SlR X r) (he:PE X e te) (hl:PO X lo tl) (hu:PO X hi th):PE X (.Subscript e (.Slice lo hi none p2) pos) (tSl r te tl th) := .mk <| by
 intro pins s σ H Q I h
 refine Subscript_ (thn (he pins s σ H _ I h) λ v s1 ⟨x,H1,I1,r1,q1⟩=>?_)
 refine wpAny_Slice (thn (hl pins s1 σ H1 _ I1 q1) λ vl s2 ⟨l,H2,I2,pl,q2⟩=>thn (hu pins s2 σ H2 _ I2 q2) λ vu s3 ⟨u,H3,I3,pu,q3⟩=>?_)
 rw [evalPart_none]
 refine wpAny_pure ?_
 have I4:Inv X pins σ H3 { s3 with heap:=s3.heap.push { cls := .type "slice",data := .fields #[vl,vu,.none] } }:=I3.kept (t':=s3.toks) λ b ob q=>Heap.get?_push_of_some _ q
 obtain ⟨T,id,hT,ht,hg⟩:=hr pins { s3 with heap:=s3.heap.push { cls := .type "slice",data := .fields #[vl,vu,.none] } } σ H3 x v vl vu l u s3.heap.objs.size Q I4 r1 (Heap.IsSliceOf.new ..) pl pu q3
 show wpAny (model X.prog X.w) X.A (subscriptTail e (.Slice lo hi none p2) v (.ref s3.heap.objs.size)) (EP X pins σ Q) X.xe { s3 with heap:=s3.heap.push { cls := .type "slice",data := .fields #[vl,vu,.none] } }
 exact tail_any (ops:=[.ref s3.heap.objs.size,v]) ht hT hg (by with_unfolding_all rfl)
noncomputable def cutV (xs:List V) (lo hi:Option Int):List V:=(xs.drop (HT.sIx xs.length 0 lo)).take (HT.sIx xs.length xs.length hi - HT.sIx xs.length 0 lo)
theorem zdd (xs:List V) (lo hi:Option Int):(cutV xs lo hi).length≤xs.length:=by
 unfold cutV
 rw [List.length_take,List.length_drop]
 omega
noncomputable def rSlT (K:W.Frag):V→Option Int→Option Int→Hp→VK→Prop:=λ x lo hi H Q=>∃ a xs,x = .ref a∧SqT K H a xs ∧
 ¬ (HT.sIx xs.length 0 lo=0∧HT.sIx xs.length xs.length hi=xs.length)∧∀ p,H p=none→Q (.ref p) (upd H p (.tup (cutV xs lo hi)))
theorem zf5:SlR X (rSlT X.K):=by
 intro pins s σ H x v vl vu lo hi sl Q I rx hs pl pu h
 obtain ⟨a,xs,rfl,hx,hw,q⟩:=h
 cases rx
 obtain ⟨its,r,ht,hz⟩:=I.tuple hx
 have hlen:its.toArray.size=xs.length:=by rw [List.size_toArray];exact r.length.symm
 refine ⟨"tuple",_,PyProof.Rows.slot_tuple_getitem.lookup,ht.typeIs,?_⟩
 refine HT.getItem_tuple_cut ht hs pl pu (by rw [hlen];exact hw) ?_ (by rw [hlen];exact hz)
 rw [hlen]
 refine ⟨.ref s.heap.objs.size,_,I.laid (t':=s.toks) (o := .tup (cutV xs lo hi)) (λ b ob q=>Heap.get?_push_of_some _ q) (Nat.le_refl _) ?_,rfl,q _ (I.hok.fresh (Nat.le_refl _))⟩
 exact ⟨Nat.le_trans (zdd xs lo hi) hz,_,(r.drop (HT.sIx xs.length 0 lo)).take (HT.sIx xs.length xs.length hi - HT.sIx xs.length 0 lo),IsTup.new _ _⟩
noncomputable def zf7 (K:W.Frag):R2:=λ x y H Q=>∃ a b xs ys,x = .ref a∧y = .ref b∧SqT K H a xs∧SqT K H b ys∧xs≠[]∧xs.length+ys.length≤sizeLine ∧
 (ys=[]→Q (.ref a) H)∧(ys≠[]→∀ p,H p=none→Q (.ref p) (upd H p (.tup (xs++ys))))
theorem Vals.nil_iff {xs:List V} {us:List Value} (r:Vals xs us):us=[]↔xs=[]:=by
 cases r with
 | nil=>simp
 | cons _ _=>simp
theorem zix:OpR X (binaryOp .Add) (zf7 X.K):=by
 intro pins s σ H x y v u Q I rx ry h
 obtain ⟨a,b,xs,ys,rfl,rfl,ha,hb,hx,hz,q1,q2⟩:=h
 cases rx
 cases ry
 obtain ⟨its,r1,p1,_⟩:=I.tuple ha
 obtain ⟨its2,r2,p2,_⟩:=I.tuple hb
 refine HT.cat_tup p1 p2 (λ z=>hx (r1.nil_iff.mp z)) (λ z=>⟨.ref a,H,I,rfl,q1 (r2.nil_iff.mp z)⟩) (λ z=>?_) (by rw [← r1.length,← r2.length];exact hz)
 refine ⟨.ref s.heap.objs.size,_,I.laid (t':=s.toks) (o := .tup (xs++ys)) (λ b ob q=>Heap.get?_push_of_some _ q) (Nat.le_refl _) ?_,rfl,q2 (λ w=>z (r2.nil_iff.mpr w)) _ (I.hok.fresh (Nat.le_refl _))⟩
 exact ⟨by rw [List.length_append];exact hz,_,r1.append r2,IsTup.new _ _⟩
end
end L2
namespace L2
open PySem PySem.Spec PyProof.Rows
noncomputable def ixN (n:Nat) (i:Int):Option Nat:=if 0≤i then (if i<n then some i.toNat else none) else if -(n:Int)≤i then some (i+n).toNat else none
noncomputable def atI {α:Type} (xs:List α) (i:Int):Option α:=(ixN xs.length i).bind λ j=>xs[j]?
theorem zjr {n:Nat} {i:Int} {j:Nat} (h:ixN n i=some j):seqIndex? i n=some j∧j<n ∧ -(n:Int)≤i∧i<n:=by
 unfold ixN at h
 by_cases h0:0≤i
 ·rw [if_pos h0] at h
  by_cases h1:i<n
  ·rw [if_pos h1] at h
   have e:i.toNat=j:=Option.some.inj h
   exact ⟨by rw [seqIndex_of h0 h1,e],by omega,by omega,h1⟩
  ·rw [if_neg h1] at h;cases h
 ·rw [if_neg h0] at h
  by_cases h1 : -(n:Int)≤i
  ·rw [if_pos h1] at h
   have e:(i+n).toNat=j:=Option.some.inj h
   exact ⟨by rw [seqIndex_neg (by omega) h1,e],by omega,h1,by omega⟩
  ·rw [if_neg h1] at h;cases h
theorem zoq {α:Type} {xs:List α} {i:Int} {v:α} (h:atI xs i=some v):∃ j,seqIndex? i xs.length=some j∧xs[j]? = some v∧j<xs.length ∧ -(xs.length:Int)≤i∧i<xs.length:=by
 unfold atI at h
 cases e:ixN xs.length i with
 | none=>rw [e] at h;cases h
 | some j =>
  rw [e] at h
  obtain ⟨h1,h2,h3,h4⟩:=zjr e
  exact ⟨j,h1,h,h2,h3,h4⟩
theorem zvi {α:Type} {xs:List α} {j:Nat} {v:α} (h:xs[j]? = some v):atI xs (j:Int)=some v:=by
 have hj:j<xs.length:=(List.getElem?_eq_some_iff.mp h).1
 have e:ixN xs.length (j:Int)=some j:=by
  unfold ixN
  rw [if_pos (by omega),if_pos (by omega)];simp
 unfold atI;rw [e];exact h
noncomputable def zax (b:Expr):Prop:=∀ o i,subscripted b false o i=operate [o,i] (getItem o i)
noncomputable def IxR (X:Cx) (r:R2):Prop :=
 ∀ (value slice:Expr) (pins:List (Addr×Obj)) (s:Shared) (σ:St) (H:Hp) (x y:V) (v u:Value) (Q:VK),Inv X pins σ H s→RelV x v→RelV y u→r x y H Q →
  subscripted slice false v u=operate [v,u] (getItem v u)→wpAny (model X.prog X.w) X.A (subscriptTail value slice v u) (EP X pins σ Q) X.xe s
noncomputable def MtR (X:Cx) (id:String) (r:V→List V→Hp→VK→Prop):Prop :=
 ∀ (pins:List (Addr×Obj)) (s:Shared) (σ:St) (H:Hp) (x:V) (xs:List V) (v:Value) (us:List Value) (Q:VK),Inv X pins σ H s→RelV x v→Vals xs us→r x xs H Q →
  wpAny (model X.prog X.w) X.A (call (.builtin id) (v::us)) (EP X pins σ Q) X.xe s
section
variable {X:Cx} {a b:Expr} {ta tb:TE} {pos:Pos}
theorem zkd {r:R2} (hr:IxR X r) (ha:PE X a ta) (hb:PE X b tb) (hs:zax b):PE X (.Subscript a b pos) (tOp r ta tb) := .mk <| by
 intro pins s σ H Q I h
 exact Subscript_ (binT ha hb I h λ v u s2 x y H2 I2 rx ry q=>hr a b pins s2 σ H2 x y v u Q I2 rx ry q (hs _ _))
noncomputable def rIxL (K:W.Frag):R2:=λ x y H Q=>∃ p xs i v,x = .ref p∧y = .int i∧SqL K H p xs∧atI xs i=some v∧Q v H
noncomputable def rIxT (K:W.Frag):R2:=λ x y H Q=>∃ p xs i v,x = .ref p∧y = .int i∧SqT K H p xs∧atI xs i=some v∧Q v H
theorem zzl:IxR X (rIxL X.K):=by
 intro value slice pins s σ H x y v u Q I rx ry h hs
 obtain ⟨p,xs,i,z,rfl,rfl,hq,he,q⟩:=h
 cases rx
 obtain ⟨t,rfl⟩:=ry
 obtain ⟨its,r,pl,hz⟩:=I.list hq
 obtain ⟨j,h1,h2,h3,h4,h5⟩:=zoq he
 obtain ⟨w,ew,rw'⟩:=r.get h2
 have hl:=r.length
 have hn:=zjo
 have fin:EP X pins σ Q w s:=⟨z,H,I,rw',q⟩
 by_cases h0:0≤i
 ·have hj:i.toNat=j:=by
   rw [seqIndex_of h0 h5] at h1
   exact Option.some.inj h1
  exact item_listR pl.isList h0 (by omega) (by rw [hj];simpa using ew) fin hs
 ·have hj:(i+(its.toArray.size:Int)).toNat=j:=by
   rw [seqIndex_neg (by omega) h4] at h1
   rw [List.size_toArray,← hl]
   exact Option.some.inj h1
  exact subscriptTail_builtinR (x:=w) pl.isList.typeIs slot_list_getitem.lookup
   (wpAny_getItem_list_neg (Q:=λ r s'=>r=w∧EP X pins σ Q r s') pl.isList (by omega) (by rw [List.size_toArray] <;> omega) (by omega) (by rw [hj];simpa using ew) ⟨rfl,fin⟩) hs
theorem zae:IxR X (rIxT X.K):=by
 intro value slice pins s σ H x y v u Q I rx ry h hs
 obtain ⟨p,xs,i,z,rfl,rfl,hq,he,q⟩:=h
 cases rx
 obtain ⟨t,rfl⟩:=ry
 obtain ⟨its,r,pl,hz⟩:=I.tuple hq
 obtain ⟨j,h1,h2,h3,h4,h5⟩:=zoq he
 obtain ⟨w,ew,rw'⟩:=r.get h2
 have hl:=r.length
 have hn:=zjo
 have fin:EP X pins σ Q w s:=⟨z,H,I,rw',q⟩
 exact subscriptTail_builtinR (x:=w) pl.typeIs slot_tuple_getitem.lookup
  (getItem_tuple (j:=j) (Q:=λ r s'=>r=w∧EP X pins σ Q r s') pl (by omega) (by omega) (by rw [List.size_toArray,← hl];exact h1) (by simpa using ew) ⟨rfl,fin⟩) hs
theorem zim (its:List Value) (n j:Nat) (u:Value):Obj.mapSeq (·.setIfInBounds j u) { cls := .type "list",data := .seq its.toArray n }={ cls := .type "list",data := .seq (its.set j u).toArray n }:=by
 simp [Obj.mapSeq]
theorem Inv.lst {pins:List (Addr×Obj)} {σ:St} {H:Hp} {s:Shared} {p:Addr} {xs:List V} (I:Inv X pins σ H s) (h:H p=some (.lst xs)) :
  ∃ (its:List Value) (n:Nat),Vals xs its∧s.heap.get? p=some { cls := .type "list",data := .seq its.toArray n }∧xs.length≤sizeLine:=by
 obtain ⟨z,its,n,r,e⟩:=I.hok p _ h
 exact ⟨its,n,r,e,z⟩
theorem Inv.lstUpd {pins:List (Addr×Obj)} {σ:St} {H:Hp} {s:Shared} {p:Addr} {xs ys:List V} {its its':List Value} {n n':Nat} {f:Obj→Obj} (I:Inv X pins σ H s) (h:H p=some (.lst xs))
  (ho:s.heap.get? p=some { cls := .type "list",data := .seq its.toArray n }) (hf:f { cls := .type "list",data := .seq its.toArray n }={ cls := .type "list",data := .seq its'.toArray n' }) (r:Vals ys its') (hz:ys.length≤sizeLine) (t:Nat) :
  Inv X pins σ (upd H p (.lst ys)) { s with heap:=s.heap.update p f,toks:=t }:=by
 have e:(s.heap.update p f).get? p=some { cls := .type "list",data := .seq its'.toArray n' }:=by
  rw [Heap.get?_update_self f ho (by rw [hf] <;> rfl),hf]
 refine I.write (x:=p) (e:=p) (by rw [h];trivial) (.inl rfl) (λ b u hb q=>(Heap.get?_update_other _ _ (Ne.symm hb)).trans q) ⟨_,e⟩ ?_
 exact ⟨hz,its',n',r,e⟩
noncomputable def zk8:V→V→V→Hp→(Hp→Prop)→Prop:=λ o i v H Q=>∃ p xs k j,o = .ref p∧i = .int k∧H p=some (.lst xs)∧ixN xs.length k=some j∧Q (upd H p (.lst (xs.set j v)))
theorem zos:PSet X zk8:=by
 intro pins s σ H o i v ov iv u Q I ro ri rv h
 obtain ⟨p,xs,k,j,rfl,rfl,hp,hj,q⟩:=h
 cases ro
 obtain ⟨t,rfl⟩:=ri
 obtain ⟨its,n,r,ho,hz⟩:=I.lst hp
 obtain ⟨h1,h2,h3,h4⟩:=zjr hj
 have hl:=r.length
 have hn:=zjo
 have I':Inv X pins σ (upd H p (.lst (xs.set j v))) { s with heap:=s.heap.update p (Obj.mapSeq (·.setIfInBounds j u)) } :=
  I.lstUpd hp ho (zim its n j u) (r.set rv j) (by rw [List.length_set];exact hz) s.toks
 by_cases h0:0≤k
 ·have hk:k.toNat=j:=by
   rw [seqIndex_of h0 h4] at h1
   exact Option.some.inj h1
  exact W.ki_setAt ho h0 (by omega) (by rw [List.size_toArray,← hl];exact h4) (by rw [hk];exact ⟨_,I',q⟩)
 ·have hk:(k+(its.toArray.size:Int)).toNat=j:=by
   rw [seqIndex_neg (by omega) h3] at h1
   rw [List.size_toArray,← hl]
   exact Option.some.inj h1
  exact W.ki_setBack ho (by omega) (by rw [List.size_toArray,← hl];exact h3) (by omega) (by rw [hk];exact ⟨_,I',q⟩)
theorem zni (lo hi:Option Int) (n:Nat):(sliceBounds lo hi none n).1=((HT.sIx n 0 lo:Nat):Int)∧(sliceBounds lo hi none n).2.1=((HT.sIx n n hi:Nat):Int)∧(sliceBounds lo hi none n).2.2=1:=by
 refine ⟨?_,?_,rfl⟩
 ·cases lo with
  | none=>simp [sliceBounds,HT.sIx]
  | some i =>
   simp only [sliceBounds,HT.sIx,Option.getD_none,show (1:Int) > 0 by decide,if_true]
   by_cases h:i<0
   ·simp only [h,if_true] <;> omega
   ·simp only [h,if_false] <;> omega
 ·cases hi with
  | none=>simp [sliceBounds,HT.sIx]
  | some i =>
   simp only [sliceBounds,HT.sIx,Option.getD_none,show (1:Int) > 0 by decide,if_true]
   by_cases h:i<0
   ·simp only [h,if_true] <;> omega
   ·simp only [h,if_false] <;> omega
theorem zzg (its:List Value) (lo hi:Option Int):slicePick its.toArray lo hi none=((its.drop (HT.sIx its.length 0 lo)).take (HT.sIx its.length its.length hi - HT.sIx its.length 0 lo)).toArray:=by
 obtain ⟨h1,h2,h3⟩:=zni lo hi its.toArray.size
 unfold slicePick
 rw [h1,h2,h3]
 simp only [sliceRange_one,pick_run,List.size_toArray] <;> rfl
noncomputable def rSlL (K:W.Frag):V→Option Int→Option Int→Hp→VK→Prop:=λ x lo hi H Q=>∃ a xs,x = .ref a∧SqL K H a xs∧∀ p,H p=none→Q (.ref p) (upd H p (.lst (cutV xs lo hi)))
theorem zgh:SlR X (rSlL X.K):=by
 intro pins s σ H x v vl vu lo hi sl Q I rx hs pl pu h
 obtain ⟨a,xs,rfl,hx,q⟩:=h
 cases rx
 obtain ⟨its,r,ht,hz⟩:=I.list hx
 have hlen:=r.length
 refine ⟨"list",_,slot_list_getitem.lookup,ht.isList.typeIs,?_⟩
 refine wpAny_getItem_list_slice ht.isList hs pl pu .none (by simp) ?_ (by rw [List.size_toArray] <;> omega)
 rw [zzg,← hlen]
 refine ⟨.ref s.heap.objs.size,_,I.laid (t':=s.toks) (o := .lst (cutV xs lo hi)) (λ b ob q=>Heap.get?_push_of_some _ q) (Nat.le_refl _) ?_,rfl,q _ (I.hok.fresh (Nat.le_refl _))⟩
 exact ⟨Nat.le_trans (zdd xs lo hi) hz,_,0,(r.drop (HT.sIx xs.length 0 lo)).take (HT.sIx xs.length xs.length hi - HT.sIx xs.length 0 lo),Heap.get?_push_size _ rfl⟩
theorem zeb:zqk X (.builtin "len") (λ xs H Q=>∃ p ys,xs=[.ref p]∧(SqL X.K H p ys ∨ SqT X.K H p ys)∧Q (.int ys.length) H):=by
 intro pins s σ H xs us Q I r h
 obtain ⟨p,ys,rfl,hq,q⟩:=h
 obtain ⟨u,rfl,rx⟩:=zsm r
 cases rx
 have hn:=zjo
 rcases hq with hq | hq
 ·obtain ⟨its,r',pl,hz⟩:=I.list hq
  have hlen:=r'.length
  exact Calls.call_len_list pl.isList (by simp only [List.size_toArray] <;> omega) ⟨.int ys.length,H,I.tok _,⟨s.toks+1,by rw [List.size_toArray,hlen]⟩,q⟩
 ·obtain ⟨its,r',pl,hz⟩:=I.tuple hq
  have hlen:=r'.length
  exact len_tuple pl (by simp only [List.size_toArray] <;> omega) ⟨.int ys.length,H,I.tok _,⟨s.toks+1,by rw [List.size_toArray,hlen]⟩,q⟩
theorem zre:zqk X (.type "list") (λ xs H Q=>∃ p ys,xs=[.ref p]∧(SqL X.K H p ys ∨ SqT X.K H p ys)∧∀ l,H l=none→Q (.ref l) (upd H l (.lst ys))):=by
 intro pins s σ H xs us Q I r h
 obtain ⟨p,ys,rfl,hq,q⟩:=h
 obtain ⟨u,rfl,rx⟩:=zsm r
 cases rx
 have fin:∀ (its:List Value),Vals ys its→ys.length≤sizeLine→∀ (h':Heap) (c':Nat),(∀ b o',s.heap.get? b=some o'→h'.get? b=some o') →
   h'.get? s.heap.objs.size=some { cls := .type "list",dict:=none,data := .seq its.toArray c',slots := #[] }→EP X pins σ Q (.ref s.heap.objs.size) { s with heap:=h' }:=λ its r' hz h' c' kp e =>
  ⟨.ref s.heap.objs.size,_,I.laid (t':=s.toks) kp (Nat.le_refl _) (show ObjOk X.prog X.w _ h' _ (.lst ys) from ⟨hz,its,c',r',e⟩),rfl,q _ (I.hok.fresh (Nat.le_refl _))⟩
 rcases hq with hq | hq
 ·obtain ⟨its,r',pl,hz⟩:=I.list hq
  have hlen:=r'.length
  obtain ⟨o,ho,hc,n,hd⟩:=pl.isList
  exact call_list_seq p (.inl rfl) ho hc hd (λ h' c' kp e=>fin its r' hz h' c' kp e) (by simp only [List.size_toArray] <;> omega)
 ·obtain ⟨its,r',pl,hz⟩:=I.tuple hq
  have hlen:=r'.length
  obtain ⟨o,ho,hc,n,hd⟩:=pl
  exact call_list_seq p (.inr rfl) ho hc hd (λ h' c' kp e=>fin its r' hz h' c' kp e) (by simp only [List.size_toArray] <;> omega)
noncomputable def tyV (K:W.Frag) (T:String) (x:V) (H:Hp):Prop:=match x with
 | .str _=>T = "str"
 | .int _=>T = "int"
 | .ref p=>(T = "list" ∧ ∃ xs,SqL K H p xs) ∨ (T = "tuple" ∧ ∃ o,K.lookup p=some o∧o.cls = .type "tuple" ∧ o.dict=none) ∨
   (T = "dict" ∧ ((∃ kvs,H p=some (.dK kvs)) ∨ ∃ kvs,H p=some (.dT kvs))) ∨ (T = "set" ∧ ∃ S n,H p=some (.set S n))
 | _=>False
theorem zqv {pins:List (Addr×Obj)} {σ:St} {H:Hp} {s:Shared} {T:String} {x:V} {v:Value} (I:Inv X pins σ H s) (r:RelV x v) (ty:tyV X.K T x H) :
  s.TypeIs v T∧∀ a,v = .ref a→∃ ob,s.heap.get? a=some ob∧ob.dict=none:=by
 cases x with
 | str z =>
  obtain ⟨t,rfl⟩:=r
  cases (show T = "str" from ty)
  exact ⟨typeIs_str s z t,λ _ e=>nomatch e⟩
 | int i =>
  obtain ⟨t,rfl⟩:=r
  cases (show T = "int" from ty)
  exact ⟨typeIs_int s i t,λ _ e=>nomatch e⟩
 | ref p =>
  cases r
  rcases ty with ⟨rfl,xs,hq⟩ | ⟨rfl,o,hk,hc,hd⟩ | ⟨rfl,hk⟩ | ⟨rfl,S,n,hk⟩
  ·obtain ⟨its,_,pl,_⟩:=I.list hq
   refine ⟨pl.isList.typeIs,λ a e=>?_⟩
   cases e
   obtain ⟨o,n,e,c,hd,_⟩:=pl
   exact ⟨o,e,hd⟩
  ·refine ⟨⟨o,I.kIn p o hk,hc⟩,λ a e=>?_⟩
   cases e
   exact ⟨o,I.kIn _ o hk,hd⟩
  ·have z:∃ o,s.heap.get? p=some o∧o.ExactDict:=by
    rcases hk with ⟨kvs,hk⟩ | ⟨kvs,hk⟩
    ·obtain ⟨_,_,_,_,o,_,_,e,ex,_⟩:=I.hok p _ hk
     exact ⟨o,e,ex⟩
    ·obtain ⟨_,_,_,_,o,_,_,e,ex,_⟩:=I.hok p _ hk
     exact ⟨o,e,ex⟩
   obtain ⟨o,e,ex⟩:=z
   refine ⟨⟨o,e,ex.1⟩,λ a e2=>?_⟩
   cases e2
   exact ⟨o,e,ex.2.1⟩
  ·obtain ⟨o,_,_,_,e,ex,_⟩:=I.hok p _ hk
   refine ⟨⟨o,e,ex.1⟩,λ a e2=>?_⟩
   cases e2
   exact ⟨o,e,ex.2.1⟩
 | _=>exact False.elim ty
noncomputable def tBM0 (K:W.Frag) (T:String) (r:V→List V→Hp→VK→Prop) (to:TE):TE:=λ σ H Q=>to σ H λ x H1=>tyV K T x H1∧r x [] H1 Q
noncomputable def tBM (K:W.Frag) (T:String) (r:V→List V→Hp→VK→Prop) (to:TE) (t:TA):TE:=λ σ H Q=>to σ H λ x H1=>tyV K T x H1∧t σ H1 λ xs H2=>r x xs H2 Q
variable {o e:Expr} {es:List Expr} {to:TE} {t:TA} {name:Str} {apos cpos:Pos} {T id:String} {r:V→List V→Hp→VK→Prop}
theorem zz4 (pa:PlainAttrs T) (slot:Slot T name id) (hty:typeOf (.builtin id)=pure (.type "method_descriptor")) (hm:MtR X id r) (ho:PE X o to)
  (hbase:attributeBase o name X.env (eval o X.env)=eval o X.env:=by rfl) (hline:(apos.endLine == cpos.line)=true:=by rfl):PE X (.Call (.Attribute o name apos) [] [] cpos) (tBM0 X.K T r to) := .mk <| by
 intro pins s σ H Q I h
 refine wpAny_Call_method0_late hbase hline (thn (ho pins s σ H _ I h) λ v s1 ⟨x,H1,I1,r1,ty,q1⟩=>?_)
 obtain ⟨h1,h2⟩:=zqv I1 r1 ty
 exact ⟨T,id,pa,slot,hty,h1,h2,Calls.callWith_builtin rfl (PySem.evalArgs_none (hm pins s1 σ H1 x [] v [] Q I1 r1 .nil q1))⟩
theorem zx6 (pa:PlainAttrs T) (slot:Slot T name id) (hty:typeOf (.builtin id)=pure (.type "method_descriptor")) (hm:MtR X id r) (ho:PE X o to) (ha:PA X (e::es) t)
  (hbase:attributeBase o name X.env (eval o X.env)=eval o X.env:=by rfl)
  (hfew:((backTo cpos (starEach (e::es) X.env)).all (λ x => !x.1) && (backToKw cpos (keywordEach [] X.env)).all (λ x=>x.1.isSome)
   && decide ((e::es).length+([]:List Keyword).length+(if ([]:List Keyword).isEmpty then 0 else 1)<30))=true:=by rfl)
  (hline:(apos.endLine == cpos.line)=true:=by rfl) (hs:starEach (e::es) X.env=(false,eval e X.env)::starEach es X.env:=by rfl) (hplain:(backTo cpos (starEach es X.env)).any (·.1)=false:=by rfl) :
  PE X (.Call (.Attribute o name apos) (e::es) [] cpos) (tBM X.K T r to t) := .mk <| by
 intro pins s σ H Q I h
 refine wpAny_Call_method_late hbase hfew hline rfl (thn (ho pins s σ H _ I h) λ v s1 ⟨x,H1,I1,r1,ty,q1⟩=>?_)
 obtain ⟨h1,h2⟩:=zqv I1 r1 ty
 refine ⟨T,id,pa,slot,hty,h1,h2,?_⟩
 have hA:=ha cpos pins s1 σ H1 _ I1 q1
 rw [hs] at hA ⊢
 refine Calls.callWith_builtin (by show (false || (backTo cpos (starEach es X.env)).any (·.1))=false;rw [hplain] <;> rfl) (Calls.evalArgs_plain ?_)
 exact thn hA λ us s2 ⟨vs,H2,I2,r2,q2⟩=>hm pins s2 σ H2 x vs v us Q I2 r1 r2 q2
/- xs.append(e),list.index on a module's tuple .. are MtR facts of 06m -/
end
end L2
namespace L2
open PySem PySem.Spec PyProof.Rows
noncomputable def MtM (X:Cx) (id:String) (r:V→List V→Hp→VK→Prop):Prop :=
 ∀ (pins:List (Addr×Obj)) (s:Shared) (σ:St) (H:Hp) (x:V) (xs:List V) (v:Value) (us:List Value) (Q:VK),Inv X pins σ H s→RelV x v→Vals xs us→r x xs H Q →
  wpAny (model X.prog X.w) X.A (call (.builtin id) (v::us)) (EP X pins σ Q) X.xe s
theorem Vals.one:∀ {x:V} {us:List Value},Vals [x] us→∃ u,us=[u]∧RelV x u
 | _,_,.cons r .nil=>⟨_,rfl,r⟩
theorem Vals.zero:∀ {us:List Value},Vals [] us→us=[]
 | _,.nil=>rfl
theorem Vals.dropLast {xs:List V} {us:List Value} (h:Vals xs us):Vals xs.dropLast us.dropLast:=by
 induction h with
 | nil=>exact .nil
 | cons r t ih =>
  cases t with
  | nil=>exact .nil
  | cons q t'=>exact .cons r ih
theorem zcl {α:Type} (l:List α):l.eraseIdx (l.length - 1)=l.dropLast:=by
 induction l with
 | nil=>rfl
 | cons a r ih =>
  cases r with
  | nil=>rfl
  | cons b r =>
   have e:(a::b::r).length - 1=((b::r).length - 1)+1:=by
    have h1:(a::b::r).length=r.length+2:=rfl
    have h2:(b::r).length=r.length+1:=rfl
    omega
   rw [e,List.eraseIdx_cons_succ,ih]
   all_goals rfl
section
variable {X:Cx} {pins:List (Addr×Obj)} {σ:St} {H:Hp} {s:Shared} {l b:Addr} {xs ys zs:List V}
theorem Inv.lset {its its':List Value} {n:Nat} {f:Array Value→Array Value} {t':Nat} (I:Inv X pins σ H s) (hH:H l=some (.lst xs))
  (e:s.heap.get? l=some { cls := .type "list",data := .seq its.toArray n }) (hf:f its.toArray=its'.toArray) (hv:Vals ys its') (hz:ys.length≤sizeLine) :
  Inv X pins σ (upd H l (.lst ys)) { s with heap:=s.heap.update l (Obj.mapSeq f),toks:=t' }:=by
 have q:=PySem.IsL.update e f
 rw [hf] at q
 refine I.write (x:=l) (e:=l) (by rw [hH];exact trivial) (.inl rfl) (λ b' u hb hu=>(Heap.get?_update_other s.heap (Obj.mapSeq f) (Ne.symm hb)).trans hu) ⟨_,q⟩ ?_
 exact ⟨hz,its',_,hv,q⟩
theorem Inv.lnew {its:List Value} {t':Nat} (I:Inv X pins σ H s) (hv:Vals ys its) (hz:ys.length≤sizeLine) :
  Inv X pins σ (upd H s.heap.objs.size (.lst ys)) { s with heap:=s.heap.push { cls := .type "list",data := .seq its.toArray },toks:=t' } :=
 I.laid (λ _ _ q=>Heap.get?_push_of_some _ q) (Nat.le_refl _) ⟨hz,its,0,hv,Heap.get?_push_size _ rfl⟩
theorem Inv.fresh (I:Inv X pins σ H s):H s.heap.objs.size=none:=I.hok.fresh (Nat.le_refl _)
theorem Inv.lstM (I:Inv X pins σ H s) (hH:H l=some (.lst xs)):xs.length≤sizeLine∧∃ (its:List Value) (n:Nat),Vals xs its∧xs.length=its.length∧s.heap.get? l=some { cls := .type "list",data := .seq its.toArray n }:=by
 obtain ⟨z,its,n,r,e⟩:=I.hok l _ hH
 exact ⟨z,its,n,r,r.length,e⟩
end
section
variable {X:Cx}
noncomputable def ztw:V→List V→Hp→VK→Prop:=λ x vs H Q=>∃ l xs y,x = .ref l∧vs=[y]∧H l=some (.lst xs)∧xs.length<sizeLine∧Q .non (upd H l (.lst (xs++[y])))
theorem zmd:MtM X "list.append" ztw:=by
 intro pins s σ H x vs v us Q I rx rv h
 obtain ⟨l,xs,y,rfl,rfl,hH,hz,q⟩:=h
 cases rx
 obtain ⟨u,rfl,ru⟩:=rv.one
 obtain ⟨z,its,n,r,hl,e⟩:=I.lstM hH
 refine call_meets F.slot_list_append ⟨_,e,rfl⟩ F.entry_list_append (F.args_list_append_2 _ _) (PySem.list_append l its.toArray n u (by rw [List.size_toArray];omega)) ⟨e,?_⟩
 refine ⟨.non,_,I.lset (its':=its++[u]) hH e (by simp) (r.append (.cons ru .nil)) ?_,rfl,q⟩
 rw [List.length_append,List.length_singleton]
 omega
noncomputable def rPop:V→List V→Hp→VK→Prop:=λ x vs H Q=>∃ l xs y,x = .ref l∧vs=[]∧H l=some (.lst xs)∧xs[xs.length - 1]? = some y∧Q y (upd H l (.lst xs.dropLast))
theorem zw2:MtM X "list.pop" rPop:=by
 intro pins s σ H x vs v us Q I rx rv h
 obtain ⟨l,xs,y,rfl,rfl,hH,hy,q⟩:=h
 cases rx
 have hus:=rv.zero
 subst hus
 obtain ⟨z,its,n,r,hl,e⟩:=I.lstM hH
 obtain ⟨u,hu,ru⟩:=r.get hy
 have hy':its.toArray[its.toArray.size - 1]? = some u:=by
  show its.toArray[its.length - 1]? = some u
  rw [← Array.getElem?_toList,← hl]
  exact hu
 refine call_meets F.slot_list_pop ⟨_,e,rfl⟩ F.entry_list_pop (F.args_list_pop_1 _) (MeetsSeq.list_pop_last l its.toArray n u hy' (by rw [List.size_toArray];omega)) ⟨e,?_⟩
 refine ⟨y,_,I.lset (its':=its.dropLast) hH e ?_ r.dropLast ?_,ru,q⟩
 ·show its.toArray.eraseIdxIfInBounds (its.toArray.size - 1)=its.dropLast.toArray
  rw [List.size_toArray,List.eraseIdxIfInBounds_toArray,zcl]
 ·rw [List.length_dropLast]
  omega
noncomputable def rCat:R2:=λ x y H Q=>∃ l b xs zs,x = .ref l∧y = .ref b∧H l=some (.lst xs)∧H b=some (.lst zs)∧xs.length+zs.length≤sizeLine∧∀ p,H p=none→Q (.ref p) (upd H p (.lst (xs++zs)))
theorem zoo:OpR X (binaryOp .Add) rCat:=by
 intro pins s σ H x y v u Q I rx ry h
 obtain ⟨l,b,xs,zs,rfl,rfl,hH,hB,hz,q⟩:=h
 cases rx
 cases ry
 obtain ⟨z,its,n,r,hl,e⟩:=I.lstM hH
 obtain ⟨z2,its2,n2,r2,hl2,e2⟩:=I.lstM hB
 refine PySem.P.add_list e e2 ?_ (by rw [List.size_toArray,List.size_toArray];omega)
 have ea:its.toArray++its2.toArray=(its++its2).toArray:=by simp
 rw [ea]
 exact ⟨.ref _,_,I.lnew (t':=s.toks) (r.append r2) (by rw [List.length_append];omega),rfl,q _ I.fresh⟩
end
section
variable {prog:Program} {w:World} {A:Around} {E:Value→Shared→Prop} {s:Shared}
end
section
variable {X:Cx}
end
end L2
namespace Att
open PySem PySem.W PySem.Calls PyProof.Rows
theorem zze {P:Params} {h:Heap}:∀ (ns:List Int) (vs:List Value),WellAll P h vs (ns.map WData.int)→IntsAre vs ns:=by
 intro ns
 induction ns with
 | nil =>
  intro vs w
  rw [List.map_nil] at w
  cases w
  exact .nil
 | cons n ns ih =>
  intro vs w
  rw [List.map_cons] at w
  cases w with
  | cons a b =>
   cases a
   exact .cons _ _ (ih _ b)
theorem zbp {l:OpenLaw} {n:Nat} (hn:l.most=some n) {P:Params} {h:Heap} {args:List WData} {vals:List Value}
  (hpre:l.row.toRowW.claim.pre args=true) (hwl:WellAll P h vals args) :
  ∃ a vs ns,vals=[Value.ref a]∧args=[WData.list (ns.map WData.int)]∧h.get? a=some { cls := .type "list",data := .seq vs.toArray }∧IntsAre vs ns∧ns.length≤n:=by
 have hsh:WShape.hasAll [] args [.list .int]=true:=(pre_splitW hpre).1
 have hc:l.pre.holds [] { args:=args }=true:=(pre_splitW hpre).2
 obtain ⟨d,r,rfl,h1,h2⟩:=hasAllW_cons hsh
 obtain rfl:=hasAllW_nil h2
 obtain ⟨xs,rfl,h3⟩:=hasW_list h1
 obtain ⟨ns,rfl⟩:=items_int h3
 have hlen:ns.length≤n:=by
  unfold OpenLaw.pre at hc
  have h4:(WTm.not (.lt (.lit (.int (n:Int))) (.len (.arg 0)))).holds [] { args:=[.list (ns.map .int)] }=true:=by
   have h4:=(holds_andW hc).1
   rw [hn] at h4
   exact h4
  have h5:=condW_of h4 (w_not (w_lt w_lit (w_len_list (w_arg rfl))))
  rw [List.length_map] at h5
  refine Nat.le_of_not_lt λ q=>?_
  have q':(n:Int)<((ns.length:Nat):Int):=by omega
  first
   | (rw [decide_eq_true q'] at h5;exact absurd h5 (by decide))
   | (simp at h5;omega)
 cases hwl with
 | cons w1 w2 =>
  cases w2
  cases w1 with
  | list ho hall=>exact ⟨_,_,ns,rfl,rfl,ho,zze ns _ hall,hlen⟩
theorem zcq (l:OpenLaw) (args:List WData):l.row.toRowW.claim.post args (.bool true) args=true :=
 postW_of (r:=l.row.toRowW) (X:=(true == true))
  (show WShape.has [] (.bool true) .bool=true by first | rfl | decide | simp [WShape.has,WShape.arms,WShape.armsAll])
  (show (WTm.eq .res (.lit (.bool true))).value [] { args:=args,res:=some (.bool true),after:=args }=some (.bool (true == true)) from w_eq_bool (w_res rfl) w_lit) rfl
theorem attach_call {l:OpenLaw} {n:Nat} {q:Program} {loose:List Str} {XP:(Str→Option Value)→Heap→Prop} {YP:World→Heap→Prop} {d:DefRec}
  (hn:l.most=some n) (hdf:d.params.defaults=[])
  (call:∀ (w:World) (s₀ s₁:Shared) (mg mb:Str→Option Value) (fa:Addr) (o:Obj) (pm cd doc:Value) (a:Addr) (vs:List Value) (ns:List Int),
   Ground q loose [] XP w s₀ mg mb s₁.heap→YP w s₁.heap →
   s₁.heap.get? fa=some o→o.data = .func (docDef d.name d.params d.body d.scope pm cd doc)→s₁.heap.CodeRec cd d.name→mg d.name=some (.ref fa) →
   s₁.heap.get? a=some { cls := .type "list",data := .seq vs.toArray }→IntsAre vs ns→ns.length≤n→s₁.gens = #[] →
   codeAny (model l.prog w) callerA (.call (.ref fa) ⟨[.ref a],[]⟩) (λ r s'=>r = .ok (.ret (.bool true))∧OldK s₁.heap s'.heap∧s'.os=s₁.os∧AllBare s'.gens) s₁) :
  WalkO q loose XP YP l.row.toRowW d [] (λ f vs=>PySem.call f vs):=by
 intro w s₀ s₁ mg mb G Y fa o pm cd doc dV kV ho hd hcd hD hmg hg args vals as hpre hlay hrd hwl hlo
 obtain rfl:dV = .none:=Dflts.none hD hdf
 obtain rfl:kV = .none:=Dflts.noKw hD
 obtain ⟨a,vs,ns,rfl,rfl,hobj,hints,hlen⟩:=zbp hn hpre hwl
 refine enter_call (codeAny_mono (call w s₀ s₁ mg mb fa o pm cd doc a vs ns G Y ho (fd_plain hd) hcd hmg hobj hints hlen hg) λ r s' hq=>?_)
 obtain ⟨rfl,h2,h3,h4⟩:=hq
 exact ⟨.inl ⟨.bool true,.bool true,[],rfl,λ _=>rfl,.bool true,zcq l _,λ _=>⟨List.Pairwise.nil,λ _ hm=>(nomatch hm)⟩⟩,h2,h3,h4⟩
section
variable {prog:Program} {w:World} {A:Around} {E:Value→Shared→Prop} {s:Shared} {K:Frag}
end
end Att
namespace L2
open PySem PySem.Spec PyProof.Rows
theorem zqi:∀ {vs:List Value} {ns:List Int},IntsAre vs ns→Vals (ns.map V.int) vs
 | _,_,.nil=>.nil
 | _,_,.cons n t h=>.cons ⟨t,rfl⟩ (zqi h)
noncomputable def Only (H:Hp):Prop:=∀ b,H b=none ∨ ∃ o xs,H b=some (.frz o (.lst xs))
theorem zzs {P:Program} {w:World} {K:W.Frag} {mg mb:Str→Option Value} {CX:CXT} {k:Nat} {fa a:Addr} {fd:FuncData} {x:Str} {sp:Sp} {s₁:Shared} {vs:List Value} {ns:List Int}
  (KX:K.In s₁.heap) (hns:s₁.heap.Ns mainGlobals mg) (hb:s₁.heap.Ns builtinsNs mb) (hbb:∀ x:Str,x ≠ "__name__" → mb x=bootBuiltins x) (hlim:s₁.heap.NoLimit) (hg:s₁.gens = #[])
  (ha:s₁.heap.get? a=some { cls := .type "list",data := .seq vs.toArray }) (hi:IntsAre vs ns) (hl:ns.length≤sizeLine) (hr:Room k callerA)
  (F:∀ base:Heap,K.In base→base.Ns mainGlobals mg→FnOk P w K mg base CX k fa fd [x] sp) (hbind:∀ (s:Shared) (u:Value),BindsTo s fd ⟨[u],[]⟩ [(x,u)])
  (hsp:∀ H:Hp,Only H→SqL K H a (ns.map V.int)→sp [.ref a] H (λ v _=>v = .bl true) λ _ _ _=>False)
  (hCX:∀ H e s',CX [] H s₁ (λ _ _ _=>False) e s'→False) :
  codeAny (model P w) callerA (.call (.ref fa) ⟨[.ref a],[]⟩) (λ r s'=>r = .ok (.ret (.bool true))∧OldK s₁.heap s'.heap∧s'.os=s₁.os∧AllBare s'.gens) s₁:=by
 have rv:=zqi hi
 have lenV:=hi.length
 have core:∀ H:Hp,Only H→SqL K H a (ns.map V.int)→HOk P w H s₁.heap→(∀ b,H b≠none→b=a)→(H a≠none→K.lookup a=none) →
   codeAny (model P w) callerA (.call (.ref fa) ⟨[.ref a],[]⟩) (λ r s'=>r = .ok (.ret (.bool true))∧OldK s₁.heap s'.heap∧s'.os=s₁.os∧AllBare s'.gens) s₁:=by
  intro H hO hS hok hA hK
  have base_of:∀ {b:Addr} {o:Obj},s₁.heap.get? b=some o→H b=none→(hidT s₁.heap H).get? b=some o:=λ e n=>zat e n
  have noA:∀ {b:Addr} {o:Obj} {es:Array DictEntry} {ep:Nat},s₁.heap.get? b=some o→o.data = .dict es ep→H b=none:=fun {b o es ep} e d=>by
   cases q:H b with
   | none=>rfl
   | some u =>
    have e':b=a:=hA b (by rw [q];simp)
    subst e'
    rw [ha] at e;cases e
    have d':Data.seq vs.toArray _=Data.dict es ep:=d
    cases d'
  have nsK:∀ {b:Addr} {m:Str→Option Value},s₁.heap.Ns b m→(hidT s₁.heap H).Ns b m:=fun {b m} ⟨o,es,ep,e,d,r⟩=>⟨o,es,ep,base_of e (noA e d),d,r⟩
  have hKb:K.In (hidT s₁.heap H):=λ b o e=>base_of (KX b o e) (by
   cases q:H b with
   | none=>rfl
   | some u =>
    have e':b=a:=hA b (by rw [q];simp)
    subst e'
    rw [hK (by rw [q];simp)] at e;cases e)
  have hM:Mod K mg (hidT s₁.heap H):=⟨hKb,nsK hns,⟨mb,nsK hb,hbb⟩,let ⟨mc,h1,h2⟩:=hlim; ⟨mc,nsK h1,h2⟩⟩
  have e0:Env0 P w K mg (hidT s₁.heap H) callerA [] s₁ H:=⟨rfl,hM,λ b o e=>zsy e,Nat.le_of_eq (zbq _ _),trivial,λ b hb=>absurd (show b∈([]:List Addr) from hb) (by simp),hok,.of_eq hg⟩
  refine codeAny_mono ((F _ hKb (nsK hns)).run callerA [] s₁ H ⟨[.ref a],[]⟩ [.ref a] [.ref a] _ _ hr e0 (hbind s₁ (.ref a)) (.cons rfl .nil) (hsp H hO hS)) λ r s' h=>?_
  cases r with
  | error e=>exact (hCX H e s' h).elim
  | ok fl =>
   cases fl with
   | next=>exact False.elim h
   | brk=>exact False.elim h
   | cont=>exact False.elim h
   | ret u =>
    obtain ⟨v,H',os,bare,un,hok',r',q⟩:=h
    have q':v = .bl true:=q
    subst q'
    obtain rfl:u=Value.bool true:=r'
    refine ⟨rfl,OldK.of_keep λ b o e=>?_,os,bare⟩
    cases q:H b with
    | none=>exact un.keep b o e q (by intro z;exact absurd (show b∈([]:List Addr) from z) (by simp)) (by simp)
    | some u =>
     rcases hO b with z | ⟨ob,xs,z⟩
     ·rw [q] at z;cases z
     ·have z2:=un.frzs b ob _ z
      obtain ⟨e1,_⟩:=hok b _ z
      obtain ⟨e2,_⟩:=hok' b _ z2
      rw [e] at e1;cases e1
      exact e2
 cases hk:K.lookup a with
 | some o =>
  have e:=KX a o hk
  rw [ha] at e
  cases e
  refine core (λ _=>none) (λ _=>.inl rfl) (.inr ⟨_,vs.toArray,_,hk,rfl,rfl,rfl,by rw [List.size_toArray,lenV];exact hl,by simpa using rv⟩) (λ b u z=>by have z':(none:Option HO)=some u:=z;cases z') (λ b z=>absurd rfl z) λ z=>absurd rfl z
 | none =>
  refine core (λ b=>if b=a then some (.frz { cls := .type "list",data := .seq vs.toArray } (.lst (ns.map V.int))) else none) (λ b=>?_) (.inl (.inr ⟨{ cls := .type "list",data := .seq vs.toArray },if_pos rfl⟩)) (λ b u z=>?_) (λ b z=>?_) λ _=>hk
  ·by_cases hb:b=a
   ·exact .inr ⟨_,_,if_pos hb⟩
   ·exact .inl (if_neg hb)
  ·by_cases hb:b=a
   ·have z':=(if_pos hb).symm.trans z
    cases z'
    subst hb
    exact ⟨ha,by rw [List.length_map];exact hl,vs,_,rv,ha⟩
   ·have z':=(if_neg hb).symm.trans z
    cases z'
  ·by_cases hb:b=a
   ·exact hb
   ·exact absurd (if_neg hb) z
end L2
namespace L2
open PySem PySem.Spec PyProof.Rows
theorem walk_of {l:W.OpenLaw} {n k:Nat} {q:Program} {loose:List Str} {XP:(Str→Option Value)→Heap→Prop} {YP:World→Heap→Prop} {d:DefRec} {K:Params→W.Frag} {CX:World→CXT} {sp:World→Sp} {x:Str}
  (hn:l.most=some n) (hn2:n≤sizeLine) (hdf:d.params.defaults=[]) (hr:Room k callerA)
  (hY:∀ (w:World) (h:Heap),YP w h→(K w.params).In h)
  (F:∀ (w:World) (mg:Str→Option Value) (fa:Addr) (h:Heap),(K w.params).In h→h.Ns mainGlobals mg→mg d.name=some (.ref fa) →
   ∃ fd:FuncData,(∀ (s:Shared) (u:Value),BindsTo s fd ⟨[u],[]⟩ [(x,u)]) ∧
    ∀ base:Heap,(K w.params).In base→base.Ns mainGlobals mg→FnOk l.prog w (K w.params) mg base (CX w) k fa fd [x] (sp w))
  (hsp:∀ (w:World) (H:Hp) (a:Addr) (ns:List Int),ns.length≤n→Only H→SqL (K w.params) H a (ns.map V.int)→sp w [.ref a] H (λ v _=>v = .bl true) λ _ _ _=>False)
  (hCX:∀ (w:World) (H:Hp) (s:Shared) (e:Value) (s':Shared),CX w [] H s (λ _ _ _=>False) e s'→False) :
  W.WalkO q loose XP YP l.row.toRowW d [] (λ f vs=>PySem.call f vs):=by
 refine Att.attach_call hn hdf λ w s₀ s₁ mg mb fa o pm cd doc a vs ns G Y ho hd hcd hmg hobj hints hlen hg=>?_
 have KX:=hY w _ Y
 obtain ⟨fd,hb,hF⟩:=F w mg fa _ KX G.T.g hmg
 exact zzs KX G.T.g G.T.b G.T.builtins G.T.nolimit hg hobj hints (Nat.le_trans hlen hn2) hr hF hb (λ H hO hS=>hsp w H a ns hlen hO hS) λ H e s'=>hCX w H s₁ e s'
end L2
/- THE LAST THEOREM (shape;LID,My.* are yours):
   My.Adr: a structure of the addresses that your layer names (classes,functions);My.Txt K t: a structure (Prop) of the equations over K;
   My.txt_mk:{K} {implicit addresses ..} (e1:nsIn K mainGlobals "law" = some (some (.ref f))) (e2:K.lookup f=some ⟨oc,od,.func (fnOf "law" "law" params body scope dV kV doc pm an cdv ct),sl⟩) (e3:codeIn K cdv "law" = true) .. : ∃ t,My.Txt K t
set_option maxRecDepth 100000 in
set_option maxHeartbeats 0 in
theorem PySem.Challenge.cw_LID_holds : PySem.Challenge.rw_LID.Holds := by
 w_on;o_law;k_head; (case hw=>w_witness2)
 k_fill
 refine L2.walk_of (l:=PySem.Challenge.rw_LID) (n:=63) (k:=40) (x := "script") (CX:=λ w=>..) (sp:=λ _=>My.sp_law) rfl (by decide) rfl ⟨rfl,by decide,by decide⟩ (λ w h Y=>W.kIn_of Y) ?F ?S ?C
 case F =>
  intro w mg fa h KX G hmg
  have T:∃ t,My.Txt (L2.KOf KX) t:=by
   dsimp only [L2.KOf]                          -- K must stand as «<heap const> w.params» for k_is
   refine' My.txt_mk ?e1 ?e2 ?e3 ..
   (case e1=>W.k_is)                    -- in the order: a name -> its address -> its object -> its parts
   (case e2=>W.k_is)
   ..
  obtain ⟨t,T⟩:=T
  have e0:=hmg.symm.trans (W.mg_of KX G T.law)
  cases e0                                       -- fa is the law's own address
  exact ⟨_,λ s u=>.of_eq rfl,λ base kb nb=>My.law_fn T kb nb⟩     -- if «.of_eq rfl» comes too early: refine' ⟨_,?b,λ base kb nb=>My.law_fn T kb nb⟩;exact λ s u=>.of_eq rfl
 case S=>exact λ w H a ns hl hO hS=>..
 case C=>exact ..
(the tactic k_is has no namespace: write k_is) -/
namespace L2
open PySem PySem.Spec PyProof.Rows
noncomputable def zoa (s:Stmt) (j:Nat):Stmt:=match s with
 | .ClassDef _ _ _ body _ _ _ _ _ _ _=>body.getD j (.Pass ⟨0,0,0,0⟩)
 | _=>.Pass ⟨0,0,0,0⟩
noncomputable def zmg (s:Stmt):Arguments:=match s with
 | .FunctionDef _ a _ _ _ _ _ _ _ _=>a
 | _=>{ posonlyargs:=[],args:=[],vararg:=none,kwonlyargs:=[],kw_defaults:=[],kwarg:=none,defaults:=[] }
noncomputable def zse (s:Stmt):List Stmt:=match s with
 | .FunctionDef _ _ b _ _ _ _ _ _ _=>b
 | _=>[]
noncomputable def zea (s:Stmt):Scope:=match s with
 | .FunctionDef _ _ _ _ _ _ sc _ _ _=>sc
 | _=>{ kind := .function,names:=[],isGenerator:=false,isCoroutine:=false }
noncomputable abbrev E0:XK:=λ _ _ _=>False
structure Fun (K:W.Frag) (x qual:Str) (st:Stmt) (f:Addr) (fd:FuncData):Prop where
 ex:∃ (oc:Value) (od:Option Addr) (kV doc pm:Value) (an:Option Addr) (cdv ct:Value) (osl:Array (Option Value)),
  fd=W.fnOf x qual (zmg st) (zse st) (zea st) .none kV doc pm an cdv ct∧K.lookup f=some ⟨oc,od,.func fd,osl⟩∧W.codeIn K cdv qual=true
 kp:W.keepIn K (.ref f)=true
section
variable {P:Program} {w:World} {K:W.Frag} {mg:Str→Option Value} {base:Heap}
theorem Fun.binds {x qual:Str} {st:Stmt} {f:Addr} {fd:FuncData} {ps:List Str} (F:Fun K x qual st f fd)
  (h:∀ (kV doc pm:Value) (an:Option Addr) (cdv ct:Value) (us:List Value),us.length=ps.length→bindArgs (W.fnOf x qual (zmg st) (zse st) (zea st) .none kV doc pm an cdv ct) ⟨us,[]⟩=pure (ps.zip us)):Binds K fd ps []:=by
 obtain ⟨oc,od,kV,doc,pm,an,cdv,ct,osl,rfl,lk,hcd⟩:=F.ex
 exact .all (h kV doc pm an cdv ct)
theorem fun_mk {x qual:Str} {st:Stmt} {f:Addr} {oc:Value} {od an:Option Addr} {osl:Array (Option Value)} {kV doc pm cdv ct:Value} (l:K.lookup f=some ⟨oc,od,.func (W.fnOf x qual (zmg st) (zse st) (zea st) .none kV doc pm an cdv ct),osl⟩)
  (c:W.codeIn K cdv qual=true) (k:W.keepIn K (.ref f)=true):Fun K x qual st f (W.fnOf x qual (zmg st) (zse st) (zea st) .none kV doc pm an cdv ct):=⟨⟨oc,od,kV,doc,pm,an,cdv,ct,osl,rfl,l,c⟩,k⟩
end
theorem zxz {A:Around} {k:Nat} (hr:Room k A):A.units+1<cLine:=Nat.lt_of_le_of_lt (Nat.add_le_add_left (by decide:1≤64) _) hr.units
theorem zrc {n:Nat} (h:n≤1000):n<sizeLine:=Nat.lt_of_le_of_lt h (by decide)
section
variable {X:Cx}
theorem pv (i:Nat) {x:Str} {pos:Pos} (hN:X.N[i]? = some x:=by rfl) (hv:Vis X.env.scope x:=by first | exact Or.inl rfl | exact Or.inr (Or.inl rfl) | exact Or.inr (Or.inr rfl)) (hd:(x == ("__debug__" : Str))=false:=by decide)
  (hcd:(x == ("__classdict__" : Str))=false:=by decide):PE X (.Name x pos) (tVar i):=zyw hN hv hd hcd
end
theorem iteF {A B:Prop} (h:B):if false=true then A else B:=by
 rw [if_neg Bool.false_ne_true]
 exact h
theorem iteT {A B:Prop} (h:A):if true=true then A else B:=by
 rw [if_pos rfl]
 exact h
theorem zv6 {c A B:Prop} [Decidable c] (hc:c) (h:B):if (!decide c)=true then A else B:=by
 rw [decide_eq_true hc]
 exact iteF h
noncomputable def Same (H H':Hp):Prop:=∀ b o,H b=some o→H' b=some o
theorem Same.refl (H:Hp):Same H H:=λ _ _ h=>h
theorem Same.trans {H H1 H2:Hp} (a:Same H H1) (b:Same H1 H2):Same H H2:=λ c o h=>b c o (a c o h)
theorem Same.free {H H':Hp} (e:Same H H') {l:Addr} (h:H' l=Option.none):H l=Option.none:=by
 cases q:H l with
 | none=>rfl
 | some o =>
  rw [e l o q] at h
  cases h
theorem Same.seq {K:W.Frag} {H H':Hp} {a:Addr} {xs:List V} (e:Same H H') (h:SqL K H a xs):SqL K H' a xs:=by
 rcases h with (h | ⟨o,h⟩) | h
 ·exact .inl (.inl (e _ _ h))
 ·exact .inl (.inr ⟨o,e _ _ h⟩)
 ·exact .inr h
end L2
namespace L2
open PySem PySem.Spec PyProof.Rows
section
variable {X:Cx} {pins:List (Addr×Obj)} {σ:St} {H:Hp} {s:Shared} {h':Heap}
theorem Inv.turnLay {t':Nat} {ch:List Addr} {T:Addr} {o:HO} (I:Inv X pins σ H s) (hf:∀ b∈ch,FpOk X pins H b)
  (k:∀ b u,b∉ch→s.heap.get? b=some u→h'.get? b=some u) (hT:s.heap.objs.size≤T)
  (new:ObjOk X.prog X.w (upd H T o) h' T o):Inv X pins σ (upd H T o) { s with heap:=h',toks:=t' }:=by
 have hn:H T=none:=I.hok.fresh hT
 have nT:∀ b u,s.heap.get? b=some u→b≠T:=λ b u e=>Nat.ne_of_lt (Nat.lt_of_lt_of_le (Heap.lt_size e) hT)
 have nch:∀ b u,H b=some u→b∉ch:=λ b u e hb=>by rw [(hf b hb).1] at e;cases e
 have nTH:∀ b u,H b=some u→b≠T:=λ b u e=>zca e hn
 refine I.step (g':=s.gens) (d':=s.drawn) (ch:=ch) (λ b hb=>?_) (λ b o _ _ hc e _=>k b o hc e) (λ b o _ _ hc e _=>⟨o.slots,k b o hc e⟩)
  (λ b u hc e n=>by rw [zha (nT b u e)];exact n) (λ b u hc e=>⟨u,k b u hc e⟩) (λ b xs e=>by rw [zha (nTH b _ e)];exact e) (λ b o' u e=>by rw [zha (nTH b _ e)];exact e)
  (λ b ps e=>⟨#[],by rw [zha (nTH b _ e),e];simp⟩) (λ m hm=>?_) (λ b u e=>?_) I.bare
 ·obtain ⟨f0,f1,f2,f3,f4,f5⟩:=hf b hb
  exact ⟨f3,f1,f4,f5⟩
 ·obtain ⟨ob,es,ep,ho,r⟩:=hm
  exact ⟨ob,es,ep,k _ ob (λ z=>(hf _ z).2.1 rfl) ho,r⟩
 ·by_cases hb:b=T
  ·subst hb;rw [upd_same] at e;cases e;exact new
  ·rw [zha hb] at e
   refine (I.hok b u e).stay (λ c v hc q=>k c v ?_ q) (λ c q=>by rw [zha (nTH c _ q)];exact q) λ c xs q=>by rw [zha (nTH c _ q)];exact q
   rcases hc with z | z
   ·rw [z];exact nch b u e
   ·exact nch c _ z
theorem Inv.turnedL {t':Nat} {ch:List Addr} (I:Inv X pins σ H s) (hf:∀ b∈ch,FpOk X pins H b)
  (k:∀ b u,b∉ch→s.heap.get? b=some u→h'.get? b=some u):Inv X pins σ H { s with heap:=h',toks:=t' }:=by
 have nch:∀ b u,H b=some u→b∉ch:=λ b u e hb=>by rw [(hf b hb).1] at e;cases e
 refine I.step (g':=s.gens) (d':=s.drawn) (ch:=ch) (λ b hb=>?_) (λ b o _ _ hc e _=>k b o hc e) (λ b o _ _ hc e _=>⟨o.slots,k b o hc e⟩)
  (λ b u hc e n=>n) (λ b u hc e=>⟨u,k b u hc e⟩) (λ b xs e=>e) (λ b o' u e=>e)
  (λ b ps e=>⟨#[],by rw [e];simp⟩) (λ m hm=>?_) (λ b u e=>?_) I.bare
 ·obtain ⟨f0,f1,f2,f3,f4,f5⟩:=hf b hb
  exact ⟨f3,f1,f4,f5⟩
 ·obtain ⟨ob,es,ep,ho,r⟩:=hm
  exact ⟨ob,es,ep,k _ ob (λ z=>(hf _ z).2.1 rfl) ho,r⟩
 ·refine (I.hok b u e).stay (λ c v hc q=>k c v ?_ q) (λ c q=>q) λ c xs q=>q
  rcases hc with z | z
  ·rw [z];exact nch b u e
  ·exact nch c _ z
end
section
variable {X:Cx} {tg:Expr}
end
noncomputable def Ite (K:W.Frag) (a:Addr):It :=
 ⟨λ i H=>∃ xs x,SqL K H a xs∧xs[i]? = some x,λ i H v H'=>∃ T y,v = .ref T∧H T=none∧H'=upd H T (.tup [.int i,y])∧∀ xs,SqL K H a xs→xs[i]? = some y,λ i H=>∃ xs,SqL K H a xs∧xs.length≤i⟩
theorem zaq {P:Program} {w:World} {K:W.Frag} {elts:List Expr} {kk:Nat} {tp:Pos} (a e it:Addr) (hne:e≠it) :
  Turn P w K (.Tuple elts kk tp) (Ite K a) [e,it] e (λ i h=>(∃ old,IsEnum h e it (i:Nat) old)∧h.IsListIter it a i) where
 mem:=by simp
 obj:=λ i h st b hb=>by
  obtain ⟨⟨old,he⟩,o,e',c,d⟩:=st
  have:b=e ∨ b=it:=by simpa using hb
  rcases this with rfl | rfl
  ·exact ⟨_,he,λ v z=>nomatch z⟩
  ·exact ⟨o,e',λ v z=>by rw [d] at z;cases z⟩
 keep:=λ i h h' st k=>⟨let ⟨old,he⟩:=st.1; ⟨old,k e (by simp) _ he⟩,st.2.at λ o q=>k it (by simp) o q⟩
 item:=by
  intro X hP hw hK hc i pins s σ H E I hf st hg
  subst hP hw hK
  obtain ⟨⟨old,he⟩,hit⟩:=st
  obtain ⟨xs,x,hq,hx⟩:=hg
  obtain ⟨its,rv,p,hz⟩:=I.list hq
  obtain ⟨u,hu,ru⟩:=rv.get hx
  have helt:e<s.heap.objs.size:=Heap.lt_size he
  refine wpAny_pyNext_enum_item he hit p.isList (x:=u) (by simpa using hu) hne λ h1 heo hit1 ht1 hz1 hk1=>?_
  refine ⟨_,rfl,wpAny_letOwnedTupleGo_enum heo λ h2 he2 hs2=>?_⟩
  have hT2:h2.get? s.heap.objs.size=some { cls := .type "tuple",data := .seq #[.int i s.toks,u] }:=(hs2.2 _ (Nat.ne_of_gt helt)).trans ht1
  have I2:Inv X pins σ (upd H s.heap.objs.size (.tup [.int i,x])) { s with heap:=h2,toks:=s.toks+1 }:=by
   refine I.turnLay (ch:=[e,it]) hf (λ b o hb q=>?_) (Nat.le_refl _) ?_
   ·have n1:b≠e:=λ z=>hb (by simp [z])
    have n2:b≠it:=λ z=>hb (by simp [z])
    exact (hs2.2 b n1).trans (hk1 b o n1 n2 q)
   ·exact ⟨by show 2≤sizeLine;decide,[.int i s.toks,u],.cons ⟨_,rfl⟩ (.cons ru .nil),⟨_,hT2,rfl,_,rfl⟩⟩
  have hn:H s.heap.objs.size=none:=I.hok.fresh (Nat.le_refl _)
  refine ⟨.ref s.heap.objs.size,_,I2,rfl,⟨_,x,rfl,hn,rfl,λ ys hy=>by rw [I.list_inj hy hq];exact hx⟩,⟨⟨u,by simpa using he2⟩,hit1.at λ o q=>(hs2.2 it (Ne.symm hne)).trans q⟩,λ b hb=>?_⟩
  have hb':b<s.heap.objs.size:=by
   have:b=e ∨ b=it:=by simpa using hb
   rcases this with rfl | rfl
   ·exact helt
   ·obtain ⟨o,q,_⟩:=hit;exact Heap.lt_size q
  rw [zha (Nat.ne_of_lt hb')]
  exact (hf b hb).1
 done:=by
  intro X hP hw hK hc i pins s σ H E I hf st hg
  subst hP hw hK
  obtain ⟨⟨old,he⟩,hit⟩:=st
  obtain ⟨xs,hq,hx⟩:=hg
  obtain ⟨its,rv,p,hz⟩:=I.list hq
  have hl:=rv.length
  exact wpAny_pyNext_enum_end (I.ok.hd hc) he hit p.isList (by simp;omega) λ h' eb=>⟨rfl,I.turnedL (t':=s.toks) hf λ b o hb q=>eb b o (λ z=>hb (by simp [z])) q⟩
 self:=λ A i s Q E st h=>by
  obtain ⟨⟨old,he⟩,hit⟩:=st
  have hT:s.TypeIs (.ref e) "enumerate" := ⟨_,he,rfl⟩
  refine wpAny_pyIter_slot hT F.slot_enumerate_iter (wpAny_call_entry F.slot_enumerate_iter hT F.entry_enumerate_iter ?_ (F.args_enumerate_iter_1 _))
  show wpAny _ _ (ret (.ref e)) _ _ s
  exact wpAny_pure ⟨_,rfl, "enumerate",_,hT,F.slot_enumerate_next.lookup,h⟩
end L2
namespace L2
open PySem PySem.Spec PyProof.Rows
section
variable {X:Cx}
noncomputable def zy8 (K:W.Frag) (ta:TA):TI:=λ σ H R=>ta σ H λ vs H1=>∃ a,vs=[.ref a]∧(∃ xs,SqL K H1 a xs)∧R (Ite K a) H1
theorem zmx {elts:List Expr} {kk:Nat} {tp:Pos} {a:Expr} {ta:TA} {p pos:Pos} (hg:Gl X "enumerate") (hm:X.mg "enumerate" = none) (hb:bootBuiltins "enumerate" = some (.type "enumerate")) (ha:PA X [a] ta) (hs:starEach [a] X.env=[(false,eval a X.env)]:=by rfl) :
  PI X (.Tuple elts kk tp) (.Call (.Name "enumerate" p) [a] [] pos) (zy8 X.K ta) := .mk <| by
 intro pins s σ H R I h
 refine Call_ (zdn I hg hm hb (PyProof.Rows.callWith_type1 (thn (ha pos pins s σ H _ I h) λ us s1 ⟨vs,H1,I1,r1,q1⟩=>?_) hs rfl))
 obtain ⟨b,e,⟨xs,hq⟩,q⟩:=q1
 subst e
 cases r1 with
 | cons r rr =>
  cases rr
  cases r
  obtain ⟨its,rv,pl,hz⟩:=I1.list hq
  refine call_enumerate_list pl.isList λ h' he hi hsz hk=>?_
  have I2:Inv X pins σ H1 { s1 with heap:=h' }:=I1.kept (t':=s1.toks) hk
  have T:=zaq (P:=X.prog) (w:=X.w) (K:=X.K) (elts:=elts) (kk:=kk) (tp:=tp) b (s1.heap.objs.size+1) s1.heap.objs.size (Nat.succ_ne_self _)
  have t0:(∃ old,IsEnum h' (s1.heap.objs.size+1) s1.heap.objs.size ((0:Nat):Int) old)∧h'.IsListIter s1.heap.objs.size b 0:=⟨⟨.none,by simpa using he⟩,hi⟩
  refine T.self X.A 0 _ _ _ t0 ⟨_,_,_,_,H1,rfl,I2,T,t0,λ c hc=>?_,q⟩
  have hc':s1.heap.objs.size≤c:=by
   have:c=s1.heap.objs.size+1 ∨ c=s1.heap.objs.size:=by simpa using hc
   rcases this with rfl | rfl
   ·exact Nat.le_succ _
   ·exact Nat.le_refl _
  exact I1.fpOk hc' (I1.hok.fresh hc')
end
theorem zrt {K:W.Frag} {a:Addr} {xs:List V} {g:TG} {tb:TS} {D:Ends} {σ:St} {H:Hp} (Pv:Nat→St→Hp→Prop) (h0:Pv 0 σ H) (hl:∀ i σ H,i≤xs.length→Pv i σ H→SqL K H a xs)
  (hs:∀ i x T σ H,xs[i]? = some x→Pv i σ H→H T=none→g (.ref T) σ (upd H T (.tup [.int i,x])) λ σ2 H2=>tb { D with nx:=Pv (i+1),ct:=Pv (i+1),bk:=D.nx } σ2 H2) (hd:∀ σ H,Pv xs.length σ H→D.nx σ H) :
  ∃ W:Nat→Nat→St→Hp→Prop,(∃ m,W 0 m σ H)∧∀ i m σ H,W i m σ H →
   ((Ite K a).stop i H∧D.nx σ H) ∨ ((Ite K a).go i H∧∃ N:St→Hp→Prop,(∀ σ' H',N σ' H'→∃ m',m'<m∧W (i+1) m' σ' H')∧∀ x H',(Ite K a).yld i H x H'→g x σ H' λ σ2 H2=>tb { D with nx:=N,ct:=N,bk:=D.nx } σ2 H2):=by
 refine ⟨λ i m σ H=>m=xs.length - i∧i≤xs.length∧Pv i σ H,⟨xs.length,by simp,Nat.zero_le _,h0⟩,?_⟩
 rintro i m σ H ⟨rfl,hi,p⟩
 have q:=hl i σ H hi p
 by_cases hlt:i<xs.length
 ·refine .inr ⟨⟨xs,xs[i],q,by simp [hlt]⟩,Pv (i+1),λ σ' H' p'=>⟨xs.length - (i+1),by omega,rfl,hlt,p'⟩,λ x H' y=>?_⟩
  obtain ⟨T,z,rfl,hT,rfl,y⟩:=y
  exact hs i z T σ H (y xs q) p hT
 ·have e:i=xs.length:=by omega
  subst e
  exact .inl ⟨⟨xs,q,Nat.le_refl _⟩,hd σ H p⟩
noncomputable def zuc (env:Env) (cs:List (Str×Addr)) (p:Str×NameKind):List (Str×Addr):=if p.2 = .free then (match env.cells.lookup p.1 with | some c=>(p.1,c)::cs | none=>cs) else cs
noncomputable def clOf (scope:Scope) (env:Env):List (Str×Addr):=scope.names.foldl (zuc env) []
noncomputable def zyc (scope:Scope) (env:Env):Bool :=
 scope.names.all (λ p=>p.2 != .cell) && scope.names.all (λ p=>p.2 != .local || scope.names.lookup p.1 == some .local) && scope.names.all (λ p=>p.2 != .free || (env.scope.names.lookup p.1 == some .cell || env.scope.names.lookup p.1 == some .free))
theorem zfg {env:Env}:∀ (ns:List (Str×NameKind)) (cs:List (Str×Addr)),(∀ p∈ns,p.2 = .free→∃ c,env.cells.lookup p.1=some c) →
  (forIn (m:=Sem) ns cs λ (p:Str×NameKind) (cs:List (Str×Addr))=>(if (p.2 == .free)=true then do
    let c ← cellOf env p.1
    pure (ForInStep.yield ((p.1,c)::cs)) else pure (ForInStep.yield cs)))=pure (ns.foldl (zuc env) cs)
 | [],cs,_=>rfl
 | p::ns,cs,h=>by
  rw [List.forIn_cons,List.foldl_cons]
  have ih:=zfg (env:=env) ns
  have hr:∀ q∈ns,q.2 = .free→∃ c,env.cells.lookup q.1=some c:=λ q hq=>h q (List.mem_cons_of_mem _ hq)
  by_cases hk:p.2 = .free
  ·obtain ⟨c,e⟩:=h p List.mem_cons_self hk
   have e1:(p.2 == NameKind.free)=true:=by simp [hk]
   have e2:zuc env cs p=(p.1,c)::cs:=by unfold zuc;rw [if_pos hk,e]
   have e3:cellOf env p.1=pure c:=by unfold cellOf;rw [e]
   rw [if_pos e1,e3,e2]
   exact ih _ hr
  ·have e1:¬ ((p.2 == NameKind.free)=true):=by simp [hk]
   have e2:zuc env cs p=cs:=by unfold zuc;rw [if_neg hk]
   rw [if_neg e1,e2]
   exact ih _ hr
theorem zbe {scope:Scope} {env:Env} (h:∀ p∈scope.names,p.2 = .free→∃ c,env.cells.lookup p.1=some c):closureFor scope env=pure (clOf scope env):=by
 have e:=zfg (env:=env) scope.names [] h
 have e2:=congrArg (λ (z:Sem (List (Str×Addr)))=>z >>= λ s=>pure s) e
 exact e2
theorem zky {env:Env} {x:Str} {c:Addr}:∀ (ns:List (Str×NameKind)) (cs:List (Str×Addr)),(∀ y d,cs.lookup y=some d→env.cells.lookup y=some d)→(ns.foldl (zuc env) cs).lookup x=some c→env.cells.lookup x=some c
 | [],cs,h,e=>h x c e
 | p::ns,cs,h,e=>by
  refine zky ns (zuc env cs p) (λ y d q=>?_) e
  unfold zuc at q
  split at q
  ·split at q
   ·rename_i c' ec
    rw [List.lookup_cons] at q
    split at q
    ·rename_i he
     have:y=p.1:=by simpa using he
     subst this;rw [← q];exact ec
    ·exact h y d q
   ·exact h y d q
  ·exact h y d q
theorem zor {env:Env} {x:Str} {c:Addr} (hx:env.cells.lookup x=some c):∀ (ns:List (Str×NameKind)) (cs:List (Str×Addr)),cs.lookup x=some c→(ns.foldl (zuc env) cs).lookup x=some c
 | [],cs,e=>e
 | p::ns,cs,e=>by
  refine zor hx ns (zuc env cs p) ?_
  unfold zuc
  split
  ·split
   ·rename_i c' ec
    rw [List.lookup_cons]
    split
    ·rename_i he
     have:x=p.1:=by simpa using he
     subst this;rw [hx] at ec;exact ec.symm
    ·exact e
   ·exact e
  ·exact e
theorem zxs {env:Env} {x:Str} {c:Addr} (hx:env.cells.lookup x=some c):∀ (ns:List (Str×NameKind)) (cs:List (Str×Addr)),(x,NameKind.free)∈ns→(ns.foldl (zuc env) cs).lookup x=some c
 | [],cs,e=>by simp at e
 | p::ns,cs,e=>by
  rcases List.mem_cons.mp e with e | e
  ·subst e
   refine zor hx ns _ ?_
   unfold zuc
   rw [if_pos rfl,hx]
   simp
  ·exact zxs hx ns _ e
theorem zgc {scope:Scope} {env:Env} (h:zyc scope env=true):∀ p∈scope.names,p.2 ≠ .cell:=λ p hp=>by
 unfold zyc at h
 simp only [Bool.and_eq_true,List.all_eq_true] at h
 simpa using h.1.1 p hp
theorem zlc {scope:Scope} {env:Env} (h:zyc scope env=true):∀ p∈scope.names,p.2 = .local→scope.names.lookup p.1=some .local:=λ p hp e=>by
 unfold zyc at h
 simp only [Bool.and_eq_true,List.all_eq_true] at h
 have:=h.1.2 p hp
 rw [e] at this
 simpa using this
theorem ztb {scope:Scope} {env:Env} (h:zyc scope env=true):∀ p∈scope.names,p.2 = .free→env.kindOf p.1=some .cell ∨ env.kindOf p.1=some .free:=λ p hp e=>by
 unfold zyc at h
 simp only [Bool.and_eq_true,List.all_eq_true] at h
 have:=h.2 p hp
 rw [e] at this
 simpa [Env.kindOf] using this
theorem zwc {env:Env}:∀ {names:List (Str×NameKind)} {x:Str} {k:NameKind},
  (names.map λ (n,k)=>if (k == NameKind.free && env.scope.kind == .function && env.kindOf n == some .cell) then (n,NameKind.cell) else (n,k)).lookup x=some k →
   names.lookup x=some k ∨ (names.lookup x=some .free∧k = .cell)
 | [],_,_,h=>by simp at h
 | (n,j)::r,x,k,h=>by
  have ih:=@zwc env r x k
  rw [List.map_cons] at h
  by_cases hx:(x == n)=true
  ·rw [List.lookup_cons,hx]
   by_cases hc:(j == NameKind.free && env.scope.kind == .function && env.kindOf n == some .cell)=true
   ·simp only [hc,if_true] at h
    rw [List.lookup_cons,hx] at h
    have hj:j = .free:=by
     simp only [Bool.and_eq_true] at hc
     simpa using hc.1.1
    exact .inr ⟨by simp [hj],(Option.some.inj h).symm⟩
   ·simp only [hc,if_false] at h
    have h':List.lookup x ((n,j)::List.map (λ x=>if (x.snd == NameKind.free && env.scope.kind == ScopeKind.function && env.kindOf x.fst == some NameKind.cell)=true then (x.fst,NameKind.cell) else (x.fst,x.snd)) r)=some k:=by simpa using h
    rw [List.lookup_cons,hx] at h'
    exact .inl h'
  ·have hx':(x == n)=false:=by simpa using hx
   rw [List.lookup_cons,hx']
   apply ih
   by_cases hc:(j == NameKind.free && env.scope.kind == .function && env.kindOf n == some .cell)=true
   ·simp only [hc,if_true] at h
    rw [List.lookup_cons,hx'] at h
    exact h
   ·have h':List.lookup x ((n,j)::List.map (λ x=>if (x.snd == NameKind.free && env.scope.kind == ScopeKind.function && env.kindOf x.fst == some NameKind.cell)=true then (x.fst,NameKind.cell) else (x.fst,x.snd)) r)=some k:=by simpa [hc] using h
    rw [List.lookup_cons,hx'] at h'
    exact h'
theorem zyd {env:Env}:∀ {names:List (Str×NameKind)} {x:Str},names.lookup x=some .free →
  ∃ k,(names.map λ (n,k)=>if (k == NameKind.free && env.scope.kind == .function && env.kindOf n == some .cell) then (n,NameKind.cell) else (n,k)).lookup x=some k∧(k = .cell ∨ k = .free)
 | [],_,h=>by simp at h
 | (n,j)::r,x,h=>by
  have ih:=@zyd env r x
  by_cases hx:(x == n)=true
  ·rw [List.lookup_cons,hx] at h
   have hj:j = .free:=Option.some.inj h
   subst hj
   by_cases hc:(env.scope.kind == .function && env.kindOf n == some .cell)=true
   ·refine ⟨.cell,?_,.inl rfl⟩
    show List.lookup x ((if (NameKind.free == NameKind.free && env.scope.kind == .function && env.kindOf n == some .cell)=true then (n,NameKind.cell) else (n,NameKind.free))::_)=_
    rw [if_pos (by simpa using hc),List.lookup_cons,hx]
   ·refine ⟨.free,?_,.inr rfl⟩
    show List.lookup x ((if (NameKind.free == NameKind.free && env.scope.kind == .function && env.kindOf n == some .cell)=true then (n,NameKind.cell) else (n,NameKind.free))::_)=_
    rw [if_neg (by simpa using hc),List.lookup_cons,hx]
  ·have hx':(x == n)=false:=by simpa using hx
   rw [List.lookup_cons,hx'] at h
   obtain ⟨k,e,hk⟩:=ih h
   refine ⟨k,?_,hk⟩
   rw [List.map_cons]
   by_cases hc:(j == NameKind.free && env.scope.kind == .function && env.kindOf n == some .cell)=true
   ·simp only [hc,if_true,List.lookup_cons,hx']
    exact e
   ·show List.lookup x ((if (j == NameKind.free && env.scope.kind == .function && env.kindOf n == some .cell)=true then (n,NameKind.cell) else (n,j))::_)=_
    rw [if_neg hc,List.lookup_cons,hx']
    exact e
noncomputable def Cx.comp (X:Cx) (scope:Scope) (C:Addr) (s₀:Shared) (H₀:Hp) (fp:List Addr) (N':List Str) (E':Value→Shared→Prop):Cx :=
 { X with N:=N',s₀:=s₀,H₀:=H₀,env:=compEnvC scope (clOf scope X.env) C X.env,outer:=X.stack,ex:=fp,fn:=λ _=>false,pn:=[],xe:=E' }
noncomputable def caps (cap:List Nat) (σ:St):St:=cap.map λ j=>(σ[j]?).join
noncomputable def zho (X:Cx) (scope:Scope) (N':List Str) (nt:Nat) (cap:List Nat):Bool :=
 (N'.length == nt+cap.length) && ((List.range cap.length).all λ j=>match cap[j]?,N'[nt+j]? with
  | some i,some x=>X.N[i]? == some x && scope.names.lookup x == some .free
  | _,_=>false)
section
variable {X:Cx}
theorem zto {scope:Scope} {N':List Str} {nt:Nat} {cap:List Nat} (h:zho X scope N' nt cap=true):N'.length=nt+cap.length∧∀ j i,cap[j]? = some i→∃ x,N'[nt+j]? = some x∧X.N[i]? = some x∧scope.names.lookup x=some .free:=by
 unfold zho at h
 simp only [Bool.and_eq_true,List.all_eq_true,beq_iff_eq] at h
 refine ⟨h.1,λ j i e=>?_⟩
 have hj:j<cap.length:=(List.getElem?_eq_some_iff.mp e).1
 have q:=h.2 j (List.mem_range.mpr hj)
 rw [e] at q
 cases q2:N'[nt+j]? with
 | none=>rw [q2] at q;simp at q
 | some x =>
  rw [q2] at q
  simp only [Bool.and_eq_true,beq_iff_eq] at q
  exact ⟨x,rfl,q.1,q.2⟩
theorem zge {pins:List (Addr×Obj)} {σ:St} {H:Hp} {s3:Shared} {scope:Scope} {fp:List Addr} {N':List Str} {nt:Nat} {cap:List Nat} {h4:Heap} {t4:Nat} {E':Value→Shared→Prop} {m:Str→Option Value}
  (I:Inv X pins σ H s3) (hk:scope.kind = .function) (hb:zyc scope X.env=true) (hc:zho X scope N' nt cap=true) (hf:∀ b∈fp,FpOk X pins H b) (hfl:∀ b∈fp,b<s3.heap.objs.size)
  (hn:h4.Ns s3.heap.objs.size m) (kp:∀ b o,s3.heap.get? b=some o→h4.get? b=some o) :
  Inv (X.comp scope s3.heap.objs.size s3 H fp N' E') [] (List.replicate nt none++caps cap σ) H { s3 with heap:=h4,toks:=t4 }:=by
 obtain ⟨hlen,hcap⟩:=zto hc
 have cin:∀ x c,(clOf scope X.env).lookup x=some c→X.env.cells.lookup x=some c:=λ x c e=>zky scope.names [] (λ y d q=>by simp at q) e
 have kin:∀ x,((X.comp scope s3.heap.objs.size s3 H fp N' E').env.kindOf x=some .cell ∨ (X.comp scope s3.heap.objs.size s3 H fp N' E').env.kindOf x=some .free)→scope.names.lookup x=some .free:=λ x hx=>by
  have one:∀ k,(k=NameKind.cell ∨ k=NameKind.free)→(X.comp scope s3.heap.objs.size s3 H fp N' E').env.kindOf x=some k→scope.names.lookup x=some .free:=λ k hk' e=>by
   rcases zwc (env:=X.env) (names:=scope.names) (x:=x) (k:=k) e with z | z
   ·rcases hk' with rfl | rfl
    ·exact absurd rfl (zgc hb _ (PySem.mem_of_lookup z))
    ·exact z
   ·exact z.1
  rcases hx with hx | hx
  ·exact one _ (.inl rfl) hx
  ·exact one _ (.inr rfl) hx
 have has:∀ x,scope.names.lookup x=some .free→∃ c,X.env.cells.lookup x=some c∧(clOf scope X.env).lookup x=some c:=λ x hx=>by
  have hm:=PySem.mem_of_lookup hx
  obtain ⟨c,e⟩:=I.ok.has x (ztb hb _ hm rfl)
  exact ⟨c,e,zxs e _ _ hm⟩
 refine ⟨⟨I.ok.mod,hk,I.ok.glob,I.ok.blt,Nat.le_refl _,λ x y c e1 e2=>I.ok.inj x y c (cin x c e1) (cin y c e2),λ x hx=>?_,λ x c z _=>absurd z Bool.false_ne_true,I.ok.hd,I.ok.frames,.inl rfl,λ b hb'=>⟨Nat.ne_of_lt (hfl b hb'),λ x c e=>(hf b hb').2.2.2.2.1 x c (cin x c e)⟩,
  I.bs,Nat.le_trans I.ok.bsz I.sz,λ b o e hb'=>?_,λ b hb' hs=>?_,I.stack,I.stkFree⟩,rfl,I.bare,Un.kept kp,⟨m,hn,λ i x v h1 h2 h3=>?_⟩,λ x c e=>?_,I.hok.fresh (Nat.le_refl _),λ x c e=>I.freeC x c (cin x c e),λ p hp=>absurd hp (by simp [Cx.comp]),I.hok.kept kp,?_⟩
 ·obtain ⟨c,_,e⟩:=has x (kin x hx)
  exact ⟨c,e⟩
 ·rcases (hf b hb').2.2.2.1 with z | z
  ·exact I.ok.noex b o e z
  ·exact absurd (Nat.lt_of_lt_of_le (Heap.lt_size e) (Nat.le_trans I.ok.bsz z)) (Nat.lt_irrefl _)
 ·rcases List.mem_cons.mp (I.stkSub b hs) with z | z
  ·exact (hf b hb').2.1 z
  ·exact (hf b hb').2.2.1 z
 ·have hge:nt≤i:=by
   by_cases hlt:i<nt
   ·rw [List.getElem?_append_left (by simpa using hlt),List.getElem?_replicate] at h2
    split at h2 <;> cases h2
   ·omega
  obtain ⟨j,rfl⟩:∃ j,i=nt+j:=⟨i - nt,by omega⟩
  rw [List.getElem?_append_right (by simp),List.length_replicate,Nat.add_sub_cancel_left] at h2
  unfold caps at h2
  rw [List.getElem?_map] at h2
  cases ej:cap[j]? with
  | none=>rw [ej] at h2;cases h2
  | some i' =>
   rw [ej] at h2
   have h2':(σ[i']?).join=some v:=Option.some.inj h2
   obtain ⟨x',e1,e2,e3⟩:=hcap j i' ej
   have:x'=x:=by
    have h1':N'[nt+j]? = some x:=h1
    rw [e1] at h1';exact Option.some.inj h1'
   subst this
   have hσ:σ[i']? = some (some v):=by
    cases q:σ[i']? with
    | none=>rw [q] at h2';cases h2'
    | some o=>rw [q] at h2';exact congrArg some h2'
   have hkx:=ztb hb _ (PySem.mem_of_lookup e3) rfl
   obtain ⟨m',hn',hl'⟩:=I.loc
   obtain ⟨u,ru,lk⟩:=hl' i' x' v e2 hσ (hkx.elim (λ z=>.inr (.inl z)) λ z=>.inr (.inr z))
   refine ⟨u,ru,.inr ⟨?_,?_⟩⟩
   ·obtain ⟨k,ek,hk'⟩:=zyd (env:=X.env) e3
    rcases hk' with rfl | rfl
    ·exact .inl ek
    ·exact .inr ek
   ·rcases lk with ⟨kl,_⟩ | ⟨_,c,ec,icell⟩
    ·rcases hkx with z | z <;> (rw [kl] at z;cases z)
    ·exact ⟨c,zxs ec _ _ (PySem.mem_of_lookup e3),icell.keeps kp⟩
 ·obtain ⟨v,z⟩:=I.cell x c (cin x c e)
  exact ⟨v,z.keeps kp⟩
 ·show (List.replicate nt none++caps cap σ).length=N'.length
  rw [hlen]
  simp [caps]
end
end L2
namespace L2
open PySem PySem.Spec PyProof.Rows
section
variable {prog:Program} {w:World} {A:Around} {E:Value→Shared→Prop} {R:Result→Shared→Prop} {s:Shared}
theorem zie {elt target iter:Expr} {ifs:List Expr} {scope:Scope} {pos:Pos} {it acc:Value} {env:Env} (I:Nat→Shared→Prop)
  (turn:∀ n s,I n s→wpAny (model prog w) A (pyNext it) (λ r s₁=>match r with
   | none=>R (.ok .next) s₁
   | some v=>wpAny (model prog w) A (letOwnedTupleGo target it v) (λ _ s₁'=>wpAny (model prog w) A (assign target env v) (λ _ s₂ =>
     wpAny (model prog w) A (forIn ifs true λ c r=>if r=true then do let ok ← isTrue c env (eval c env);pure (ForInStep.yield ok) else pure (ForInStep.yield r)) (λ ok s₃ =>
      if ok=true then wpAny (model prog w) A (eval elt env) (λ x s₄ =>
       wpAny (model prog w) A (call (.builtin "list.append") [acc,x]) (λ _ s₅=>∃ m,m<n∧I m s₅) (notedBy (model prog w) A env λ e s'=>R (.error e) s') s₄) (notedBy (model prog w) A env λ e s'=>R (.error e) s') s₃
      else ∃ m,m<n∧I m s₃) (notedBy (model prog w) A env λ e s'=>R (.error e) s') s₂) (notedBy (model prog w) A env λ e s'=>R (.error e) s') s₁') (notedBy (model prog w) A env λ e s'=>R (.error e) s') s₁) (notedBy (model prog w) A env λ e s'=>R (.error e) s') s)
  (n:Nat) (h:I n s):codeAny (model prog w) A (.compLoop (.ListComp elt [⟨target,iter,ifs,0⟩] scope pos) 0 it acc env) R s:=by
 refine codeAny_loop rfl I (λ n s hI=>?_) n h
 show wpAny _ A ((compTurn (.ListComp elt [⟨target,iter,ifs,0⟩] scope pos) 0 it acc env).onRaise (λ x=>do noteFrame x env;theTreesLotGoes x)) _ _ s
 refine wpAny_noted ?_
 rw [compTurn_list]
 refine wpAny_bind (wpAny_standAt (wpAny_bind (wpAny_mono (turn n s hI) (λ r s₁ h₁=>?_) λ _ _ h'=>h')))
 cases r with
 | none=>exact wpAny_pure h₁
 | some v =>
  refine wpAny_bind (wpAny_mono h₁ (λ _ s₁' h₁'=>?_) λ _ _ h'=>h')
  refine wpAny_bind (wpAny_mono h₁' (λ _ s₂ h₂=>wpAny_bind (wpAny_mono h₂ (λ ok s₃ h₃=>?_) λ _ _ h'=>h')) λ _ _ h'=>h')
  cases ok with
  | false=>exact wpAny_pure ⟨rfl,h₃⟩
  | true =>
   exact wpAny_bind (wpAny_bind (wpAny_mono h₃ (λ x s₄ h₄=>wpAny_bind (wpAny_mono h₄ (λ _ s₅ h₅=>wpAny_pure (wpAny_pure ⟨rfl,h₅⟩)) λ _ _ h'=>h')) λ _ _ h'=>h'))
end
structure PIf (X:Cx) (ifs:List Expr) (t:TT):Prop where
 run :
 ∀ (pins:List (Addr×Obj)) (s:Shared) (σ:St) (H:Hp) (Q:Bool→Hp→Prop),Inv X pins σ H s→t σ H Q →
  wpAny (model X.prog X.w) X.A (forIn ifs true λ c r=>if r=true then do let ok ← isTrue c X.env (eval c X.env);pure (ForInStep.yield ok) else pure (ForInStep.yield r)) (TP X pins σ Q) X.xe s
noncomputable instance {X:Cx} {ifs:List Expr} {t:TT}:CoeFun (PIf X ifs t) (λ _ =>
 ∀ (pins:List (Addr×Obj)) (s:Shared) (σ:St) (H:Hp) (Q:Bool→Hp→Prop),Inv X pins σ H s→t σ H Q →
  wpAny (model X.prog X.w) X.A (forIn ifs true λ c r=>if r=true then do let ok ← isTrue c X.env (eval c X.env);pure (ForInStep.yield ok) else pure (ForInStep.yield r)) (TP X pins σ Q) X.xe s
 ):=⟨λ h=>h.run⟩
noncomputable def tYes:TT:=λ _ H Q=>Q true H
noncomputable def zc3 (J:It) (D:Addr) (nt:Nat) (cap:List Nat) (g:TG) (ti:TT) (te:TE) (σ:St) (H1:Hp) (Q:VK):Prop:=∃ W:Nat→Nat→List V→Hp→Prop,(∃ m,W 0 m [] (upd H1 D (.lst []))) ∧
 ∀ i m ys H2,W i m ys H2→H2 D=some (.lst ys)∧((J.stop i H2∧Q (.ref D) H2) ∨ (J.go i H2∧ys.length<sizeLine∧∀ x H3,J.yld i H2 x H3→g x (List.replicate nt none++caps cap σ) H3 λ σ4 H4=>ti σ4 H4 λ b H5 =>
  if b=true then te σ4 H5 λ y H6=>H6 D=some (.lst ys)∧∃ m',m'<m∧W (i+1) m' (ys++[y]) (upd H6 D (.lst (ys++[y]))) else ∃ m',m'<m∧W (i+1) m' ys H5))
noncomputable def zdy (wi:TI) (nt:Nat) (cap:List Nat) (g:TG) (ti:TT) (te:TE):TE:=λ σ H Q=>wi σ H λ J H1=>∀ D,H1 D=none→zc3 J D nt cap g ti te σ H1 Q
noncomputable def zhi (nt:Nat) (g:TG):Prop:=∀ (x:V) (c:St) (H:Hp) (Q:St→Hp→Prop),g x (List.replicate nt none++c) H Q →
 g x (List.replicate nt none++c) H λ σ' H'=>Q σ' H'∧∀ (j:Nat) v,(List.replicate nt none++c)[j]? = some (some v)→σ'[j]? = some (some v)
theorem gk2 {K:W.Frag}:zhi 2 (gTup K 2 (zsu (zgo 0) (zsu (zgo 1) gNil))):=λ x c H Q h=>by
 obtain ⟨a,xs,e1,hq,hl,v,r,e2,v',r',e3,e4,h⟩:=h
 refine ⟨a,xs,e1,hq,hl,v,r,e2,v',r',e3,e4,h,λ j v e=>?_⟩
 match j,e with
 | 0,e=>simp [List.replicate] at e
 | 1,e=>simp [List.replicate] at e
 | j+2,e=>simpa [List.replicate,List.set] using e
section
variable {X:Cx}
theorem zmh:PIf X [] tYes := .mk <| λ _ _ _ H _ I h=>wpAny_tests_nil ⟨H,I,h⟩
theorem zsr {c:Expr} {t:TT} (h:PT X c t):PIf X [c] t := .mk <| λ pins s σ H Q I hw=>wpAny_tests_one (h pins s σ H Q I hw)
theorem zpf {pins pins':List (Addr×Obj)} {σ σ':St} {H H':Hp} {s3 s':Shared} {scope:Scope} {fp:List Addr} {N':List Str} {E':Value→Shared→Prop}
  (I3:Inv X pins σ H s3) (hf:∀ b∈fp,FpOk X pins H b) (I':Inv (X.comp scope s3.heap.objs.size s3 H fp N' E') pins' σ' H' s'):Inv X pins σ H' s':=by
 refine I3.call' (ch:=fp) I'.os I'.base I'.hok I'.bare λ b hb=>?_
 obtain ⟨f0,f1,f2,f3,f4,f5⟩:=hf b hb
 exact ⟨f3,f1,f4,f5⟩
theorem zvo {elt tg iter:Expr} {ifs:List Expr} {scope:Scope} {pos:Pos} {N':List Str} {nt:Nat} {cap:List Nat} {wi:TI} {g:TG} {ti:TT} {te:TE}
  (EK:Addr→Shared→Hp→List Addr→(Value→Shared→Prop)→Prop)
  (hE:∀ (pins:List (Addr×Obj)) (σ:St) (s3:Shared) (H3:Hp) (fp:List Addr) (Q:VK) (D:Addr),Inv X pins σ H3 s3→(∀ b∈fp,FpOk X pins H3 b) →
   EK s3.heap.objs.size s3 H3 fp (notedBy (model X.prog X.w) X.A (compEnvC scope (clOf scope X.env) s3.heap.objs.size X.env) λ e s'=>compPost (model X.prog X.w) X.A X.xe none (EP X pins σ Q) (.ref D) s3.heap.objs.size (.error e) s'))
  (hc:X.calm=true) (hi:PI X tg iter wi)
  (hg:∀ C s₀ H₀ fp E',EK C s₀ H₀ fp E'→PG (X.comp scope C s₀ H₀ fp N' E') tg g)
  (hif:∀ C s₀ H₀ fp E',EK C s₀ H₀ fp E'→PIf (X.comp scope C s₀ H₀ fp N' E') ifs ti)
  (he:∀ C s₀ H₀ fp E',EK C s₀ H₀ fp E'→PE (X.comp scope C s₀ H₀ fp N' E') elt te)
  (hk:scope.kind = .function) (hb:zyc scope X.env=true) (hcap:zho X scope N' nt cap=true)
  (hgk:zhi nt g) (hs:∀ x,foldedSetIterable iter X.env x=pure x):PE X (.ListComp elt [⟨tg,iter,ifs,0⟩] scope pos) (zdy wi nt cap g ti te) := .mk <| by
 intro pins s σ H Q I h
 rw [eval_ListComp]
 have hclos:closureFor scope X.env=pure (clOf scope X.env):=zbe λ p hp e=>I.ok.has p.1 (ztb hb p hp e)
 refine wpAny_comprehension_free (use:=none) rfl hs hclos hk (zlc hb) (thn (hi pins s σ H _ I h) λ v s1 h1=>thn h1 λ itv s2 h2=>?_)
 obtain ⟨it,fp,tn,J,H2,e,I2,T,st2,f2,q2⟩:=h2
 subst e
 refine wpAny_newObj_type (wpAny_newFunctionEnv (zgc hb) (by intro y hy;simp at hy) (λ h₁ hns₁ hsb₁=>?_) hk)
 have I3:=I2.lnew (ys:=[]) (its:=[]) (t':=s2.toks) .nil (Nat.zero_le _)
 have hfl:∀ b∈fp,b<s2.heap.objs.size:=λ b hb'=>let ⟨o,e,_⟩:=T.obj 0 _ st2 b hb';Heap.lt_size e
 obtain ⟨W,⟨m0,w0⟩,turn⟩:=q2 s2.heap.objs.size (I2.hok.fresh (Nat.le_refl _))
 have nD:∀ b∈fp,b≠s2.heap.objs.size:=λ b hb'=>Nat.ne_of_lt (hfl b hb')
 have f3:∀ b∈fp,FpOk X pins (upd H2 s2.heap.objs.size (.lst [])) b:=λ b hb'=>⟨by rw [zha (nD b hb')];exact (f2 b hb').1,(f2 b hb').2⟩
 obtain ⟨s3,hs3⟩:∃ s3:Shared,s3={ s2 with heap:=s2.heap.push { cls := .type "list",data := .seq ([]:List Value).toArray },toks:=s2.toks }:=⟨_,rfl⟩
 have hs3':s3.heap=s2.heap.push { cls := .type "list",data := .seq ([]:List Value).toArray }:=by rw [hs3]
 rw [← hs3] at I3
 have hsz:s3.heap.objs.size=s2.heap.objs.size+1:=by rw [hs3',Heap.size_push]
 have hfl3:∀ b∈fp,b<s3.heap.objs.size:=λ b hb'=>by rw [hsz];exact Nat.lt_succ_of_lt (hfl b hb')
 have hC:(s2.heap.push { cls:=Value.type "list",dict:=none,data:=Data.seq ([]:List Value).toArray }).objs.size=s3.heap.objs.size:=by rw [hs3']
 dsimp only at hns₁ hsb₁ ⊢
 rw [hC] at hns₁ hsb₁ ⊢
 rw [← hs3'] at hsb₁
 have kp:∀ b o,s3.heap.get? b=some o→h₁.get? b=some o:=λ b o e=>hsb₁.extBut b o (Nat.ne_of_lt (Heap.lt_size e)) (Heap.get?_push_of_some _ e)
 have hEE:=hE pins σ s3 _ fp Q s2.heap.objs.size I3 f3
 generalize hE':(notedBy (model X.prog X.w) X.A (compEnvC scope (clOf scope X.env) s3.heap.objs.size X.env) λ e s'=>compPost (model X.prog X.w) X.A X.xe none (EP X pins σ Q) (.ref s2.heap.objs.size) s3.heap.objs.size (.error e) s')=E' at hEE
 have I4:=zge (t4:=s2.toks+([]:List (Str×Value)).length) (E':=E') I3 hk hb hcap f3 hfl3 hns₁ kp
 have st4:tn 0 h₁:=T.keep 0 _ _ st2 λ b hb' o e=>kp b o (by rw [hs3'];exact Heap.get?_push_of_some _ e)
 obtain ⟨s4,hs4⟩:∃ s4:Shared,s4={ s3 with heap:=h₁,toks:=s2.toks+([]:List (Str×Value)).length }:=⟨_,rfl⟩
 rw [← hs4] at I4
 have st4':tn 0 s4.heap:=by rw [hs4];exact st4
 have cin:∀ x c,(clOf scope X.env).lookup x=some c→X.env.cells.lookup x=some c:=λ x c e=>zky scope.names [] (λ y d q=>by simp at q) e
 have stat:∀ {H':Hp},(∀ b∈fp,H' b=none)→∀ b∈fp,FpOk (X.comp scope s3.heap.objs.size s3 (upd H2 s2.heap.objs.size (.lst [])) fp N' E') [] H' b:=λ hn b hb'=>by
  refine ⟨hn b hb',Nat.ne_of_lt (hfl3 b hb'),λ z=>?_,.inl hb',λ x c e=>(f3 b hb').2.2.2.2.1 x c (cin x c e),λ p hp=>absurd hp (by simp [Cx.comp])⟩
  rcases List.mem_cons.mp (I3.stkSub b z) with z | z
  ·exact (f3 b hb').2.1 z
  ·exact (f3 b hb').2.2.1 z
 have loop:codeAny (model X.prog X.w) X.A (.compLoop (.ListComp elt [⟨tg,iter,ifs,0⟩] scope pos) 0 (.ref it) (.ref s2.heap.objs.size) (compEnvC scope (clOf scope X.env) s3.heap.objs.size X.env))
   (compPost (model X.prog X.w) X.A X.xe none (EP X pins σ Q) (.ref s2.heap.objs.size) s3.heap.objs.size) s4:=by
  refine zie (λ n s'=>∃ i ys H',Inv (X.comp scope s3.heap.objs.size s3 (upd H2 s2.heap.objs.size (.lst [])) fp N' E') [] (List.replicate nt none++caps cap σ) H' s'∧tn i s'.heap∧(∀ b∈fp,H' b=none)∧W i n ys H') ?_ m0
   ⟨0,[],_,I4,st4',λ b hb'=>(f3 b hb').1,w0⟩
  rintro n s5 ⟨i,ys,H5,I5,st5,fr5,w5⟩
  rw [hE']
  obtain ⟨hD5,alt⟩:=turn i n ys H5 w5
  rcases alt with ⟨stop,qn⟩ | ⟨go,hyl,step⟩
  ·refine thn (T.done (X.comp scope s3.heap.objs.size s3 (upd H2 s2.heap.objs.size (.lst [])) fp N' E') rfl rfl rfl hc i [] s5 _ H5 E' I5 (stat fr5) st5 stop) λ r s6 ⟨hr,I6⟩=>?_
   subst hr
   obtain ⟨m6,hn6,_⟩:=I6.loc
   refine ⟨m6,hn6,λ h' hsb'=>?_⟩
   have I7:=zpf I3 f3 I6
   refine ⟨.ref s2.heap.objs.size,H5,?_,rfl,qn⟩
   refine I7.turnedL (ch:=[s3.heap.objs.size]) (t':=s6.toks) (λ b hb'=>?_) λ b u hb' e=>(hsb'.2 b λ z=>hb' (by simp [z])).trans e
   have eb:b=s3.heap.objs.size:=by simpa using hb'
   subst eb
   exact I3.fpOk (Nat.le_refl _) I6.free
  ·refine thn (T.item (X.comp scope s3.heap.objs.size s3 (upd H2 s2.heap.objs.size (.lst [])) fp N' E') rfl rfl rfl hc i [] s5 _ H5 E' I5 (stat fr5) st5 go) λ r s6 ⟨u,hr,h6⟩=>?_
   subst hr
   refine thn h6 λ _ s7 ⟨x,H7,I7,r7,y7,st7,fr7⟩=>?_
   have I7':=I7.pinned (stat fr7) (T.obj _ _ st7)
   have again:∀ {σ8:St} {H8:Hp} {ys':List V} {s8:Shared},Inv (X.comp scope s3.heap.objs.size s3 (upd H2 s2.heap.objs.size (.lst [])) fp N' E') ([]++znk fp s7.heap) σ8 H8 s8→(∃ m',m'<n∧W (i+1) m' ys' H8)→(∀ (j:Nat) v,(List.replicate nt none++caps cap σ)[j]? = some (some v)→σ8[j]? = some (some v)) →
     ∃ m,m<n∧∃ i ys H',Inv (X.comp scope s3.heap.objs.size s3 (upd H2 s2.heap.objs.size (.lst [])) fp N' E') [] (List.replicate nt none++caps cap σ) H' s8∧tn i s8.heap∧(∀ b∈fp,H' b=none)∧W i m ys H':=fun {σ8 H8 ys' s8} I8 ⟨m',hm,w8⟩ hσ=>by
    refine ⟨m',hm,i+1,ys',H8,I8.unpinned.weak (by rw [I8.len,I5.len]) hσ,T.keep _ _ _ st7 λ b hb o e=>(I8.pin (b,o) (List.mem_append_right _ (List.mem_append_right _ (zyb hb e)))).1,λ b hb=>?_,w8⟩
    obtain ⟨o,e,d⟩:=T.obj _ _ st7 b hb
    exact (I8.pin (b,o) (List.mem_append_right _ (List.mem_append_right _ (zyb hb e)))).2.1
   refine thn (hg _ _ _ _ _ hEE _ s7 _ H7 x u _ I7' r7 (hgk x _ H7 _ (step x H7 y7))) λ _ s8 ⟨σ8,H8,I8,q8,hσ⟩=>?_
   refine thn (hif _ _ _ _ _ hEE _ s8 σ8 H8 _ I8 q8) λ ok s9 ⟨H9,I9,q9⟩=>?_
   cases ok with
   | false =>
    rw [if_neg Bool.false_ne_true] at q9 ⊢
    exact again I9 q9 hσ
   | true =>
    rw [if_pos rfl] at q9 ⊢
    refine thn (he _ _ _ _ _ hEE _ s9 σ8 H9 _ I9 q9) λ y s10 ⟨vy,H10,I10,r10,hD10,hm10⟩=>?_
    exact thn (zmd (X:=X.comp scope s3.heap.objs.size s3 (upd H2 s2.heap.objs.size (.lst [])) fp N' E') _ s10 σ8 H10 (.ref s2.heap.objs.size) [vy] (.ref s2.heap.objs.size) [y] (λ _ H'=>H'=upd H10 s2.heap.objs.size (.lst (ys++[vy]))) I10 rfl (.cons r10 .nil) ⟨_,_,_,rfl,rfl,hD10,hyl,rfl⟩) λ _ s11 ⟨_,H11,I11,_,e11⟩=>by
     subst e11
     exact again I11 hm10 hσ
 have e4:({ s2 with heap:=h₁,toks:=s2.toks+([]:List (Str×Value)).length }:Shared)=s4:=by rw [hs4,hs3]
 show codeAny _ _ _ _ { s2 with heap:=h₁,toks:=s2.toks+([]:List (Str×Value)).length }
 rw [e4]
 exact codeAny_compStart_list loop (T.self X.A 0 s4 _ _ st4' loop)
theorem zjh {elt tg iter:Expr} {ifs:List Expr} {scope:Scope} {pos:Pos} {wi:TI} {g:TG} {ti:TT} {te:TE} (N':List Str) (nt:Nat) (cap:List Nat)
  (hc:X.calm=true) (hi:PI X tg iter wi) (hgk:zhi nt g)
  (hg:∀ C s₀ H₀ fp E',PG (X.comp scope C s₀ H₀ fp N' E') tg g)
  (hif:∀ C s₀ H₀ fp E',PIf (X.comp scope C s₀ H₀ fp N' E') ifs ti)
  (he:∀ C s₀ H₀ fp E',PE (X.comp scope C s₀ H₀ fp N' E') elt te)
  (hk:scope.kind = .function:=by rfl) (hb:zyc scope X.env=true:=by rfl) (hcap:zho X scope N' nt cap=true:=by rfl)
  (hs:∀ x,foldedSetIterable iter X.env x=pure x:=by intro _;rfl):PE X (.ListComp elt [⟨tg,iter,ifs,0⟩] scope pos) (zdy wi nt cap g ti te) :=
 zvo (λ _ _ _ _ _=>True) (λ _ _ _ _ _ _ _ _ _=>trivial) hc hi (λ C s₀ H₀ fp E' _=>hg C s₀ H₀ fp E') (λ C s₀ H₀ fp E' _=>hif C s₀ H₀ fp E') (λ C s₀ H₀ fp E' _=>he C s₀ H₀ fp E') hk hb hcap hgk hs
end
end L2
namespace L2
open PySem PySem.Spec PyProof.Rows
section
variable {X:Cx}
noncomputable def rSlS:V→Option Int→Option Int→Hp→VK→Prop:=λ x lo hi H Q=>∃ z,x = .str z∧z.length≤sizeLine∧Q (.str (Txt.slice z lo hi)) H
theorem zq4:SlR X rSlS:=by
 intro pins s σ H x v vl vu lo hi sl Q I rx hs pl pu h
 obtain ⟨z,rfl,hz,q⟩:=h
 obtain ⟨t,rfl⟩:=rx
 refine ⟨"str",_,F.slot_str_getitem.lookup,typeIs_str _ _ _,?_⟩
 cases pl with
 | none =>
  cases pu with
  | none=>exact wpAny_getItem_str_slice (l:=none) (u:=none) (st:=none) hs rfl (post_val_or_str ⟨Nat.le_trans (Txt.slice_le z _ _) hz,λ t' k=>⟨.str (Txt.slice z _ _),H,I.tok k,⟨t',rfl⟩,q⟩⟩)
  | int j u=>exact wpAny_getItem_str_slice (l:=none) (u:=some (j,u)) (st:=none) hs rfl (post_val_or_str ⟨Nat.le_trans (Txt.slice_le z _ _) hz,λ t' k=>⟨.str (Txt.slice z _ _),H,I.tok k,⟨t',rfl⟩,q⟩⟩)
 | int i u' =>
  cases pu with
  | none=>exact wpAny_getItem_str_slice (l:=some (i,u')) (u:=none) (st:=none) hs rfl (post_val_or_str ⟨Nat.le_trans (Txt.slice_le z _ _) hz,λ t' k=>⟨.str (Txt.slice z _ _),H,I.tok k,⟨t',rfl⟩,q⟩⟩)
  | int j u=>exact wpAny_getItem_str_slice (l:=some (i,u')) (u:=some (j,u)) (st:=none) hs rfl (post_val_or_str ⟨Nat.le_trans (Txt.slice_le z _ _) hz,λ t' k=>⟨.str (Txt.slice z _ _),H,I.tok k,⟨t',rfl⟩,q⟩⟩)
end
end L2
namespace L2
open PySem PySem.Spec PyProof.Rows
noncomputable def okHO:HO→Prop
 | .dT _=>False
 | .frz _ (.lst _)=>True
 | .frz _ _=>False
 | _=>True
noncomputable def Plain (H:Hp):Prop:=∀ a o,H a=some o→okHO o
theorem Plain.upd {H:Hp} {l:Addr} {o:HO} (p:Plain H) (h:okHO o):Plain (upd H l o):=λ a u e=>by
 by_cases ha:a=l
 ·subst ha;rw [upd_same] at e;cases e;exact h
 ·rw [zha ha] at e;exact p a u e
theorem Plain.lst {H:Hp} {l:Addr} {xs:List V} (p:Plain H):Plain (L2.upd H l (.lst xs)):=p.upd trivial
theorem Plain.tup {H:Hp} {l:Addr} {xs:List V} (p:Plain H):Plain (L2.upd H l (.tup xs)):=p.upd trivial
theorem Only.plain {H:Hp} (h:Only H):Plain H:=λ a o e=>by
 rcases h a with z | ⟨o',xs,z⟩
 ·rw [z] at e;cases e
 ·rw [z] at e;cases e;exact trivial
structure Cut (H H' H'':Hp):Prop where
 sub:∀ b o,H'' b=some o→H' b=some o
 old:∀ b o,H b=some o→H'' b=H' b
 ins:∀ a C dx fs,H'' a=some (.ins C dx fs)→H'' dx=some (.own a)
 plain:Plain H''
theorem Cut.un {fs:List Addr} {H H' H'':Hp} {h h':Heap} (c:Cut H H' H'') (u:Un fs [] H H' h h'):Un fs [] H H'' h h' where
 keep:=u.keep
 slot:=u.slot
 free:=λ b o e n hx=>by
  have:=u.free b o e n hx
  cases q:H'' b with
  | none=>rfl
  | some z=>rw [c.sub b z q] at this;cases this
 there:=u.there
 tups:=λ b xs e=>by rw [c.old b _ e];exact u.tups b xs e
 frzs:=λ b o z e=>by rw [c.old b _ e];exact u.frzs b o z e
 tbls:=λ b ps e=>by rw [c.old b _ e];exact u.tbls b ps e
theorem Cut.hok {P:Program} {w:World} {H H' H'':Hp} {h:Heap} (c:Cut H H' H'') (k:HOk P w H' h):HOk P w H'' h:=λ a o e=>by
 have q:=k a o (c.sub a o e)
 cases o with
 | ins C dx fs =>
  obtain ⟨d,r⟩:=q
  exact ⟨c.ins a C dx fs e,r⟩
 | dT kvs=>exact (c.plain a _ e).elim
 | frz ob u =>
  have z:=c.plain a _ e
  cases u with
  | lst xs=>exact q
  | _=>exact z.elim
 | lst xs=>exact q
 | tup xs=>exact q
 | dK kvs=>exact q
 | set S n=>exact q
 | own x=>exact q
 | xd fs=>exact q
 | met f x=>exact q
 | rng lo hi=>exact q
 | tbl ps=>exact q
 | ext φ=>exact q
section
variable {P:Program} {w:World} {K:W.Frag} {mg:Str→Option Value} {base:Heap} {CX:CXT} {k:Nat} {f:Addr} {fd:FuncData} {ps:List Str}
theorem FnOk.cut {sp:Sp} (F:FnOk P w K mg base CX k f fd ps sp) :
  FnOk P w K mg base CX k f fd ps (λ vs H Q E=>sp vs H (λ v H'=>∃ H'',((∀ a C dx fs,H a=some (.ins C dx fs)→H dx=some (.own a))→Cut H H' H'')∧Q v H'') E) :=
 ⟨λ vs H Q E h=>F.len vs H _ E h,λ A outer s H args us vs Q E hr he hb hv h=>by
  refine codeAny_mono (F.run A outer s H args us vs _ E hr he hb hv h) λ r s' q=>?_
  cases r with
  | error e=>exact q
  | ok fl =>
   cases fl with
   | ret u =>
    obtain ⟨v,H',os,bare,un,hok,rv,H'',hc,q⟩:=q
    have c:=hc λ a C dx fs e=>(he.hok a _ e).1
    exact ⟨v,H'',os,bare,c.un un,c.hok hok,rv,q⟩
   | _=>exact q⟩
noncomputable def zsw {α:Type} (Pre:α→List V→Prop) (Post:α→V→Prop):Sp:=λ vs H Q _=>Plain H∧∃ a,Pre a vs∧∀ v,Post a v→Q v H
noncomputable def zz7 {α:Type} (Pre:α→List V→Prop) (Post:α→V→Prop):Sp:=λ vs H Q _=>Plain H∧∃ a,Pre a vs∧∀ v H',Post a v→Same H H'→Q v H'
theorem FnOk.pure {α:Type} {Pre:α→List V→Prop} {Post:α→V→Prop} (F:FnOk P w K mg base CX k f fd ps (zz7 Pre Post)):FnOk P w K mg base CX k f fd ps (zsw Pre Post) :=
 F.cut.imp λ vs H Q E ⟨hp,a,ha,q⟩=>⟨hp,a,ha,λ v H' hv hs=>⟨H,λ hi=>⟨hs,λ b o e=>by rw [e,hs b o e],hi,hp⟩,q v hv⟩⟩
end
theorem Same.upd {H H':Hp} {l:Addr} {o:HO} (s:Same H H') (hl:H l=none):Same H (L2.upd H' l o):=λ b z e=>by
 rw [zha (zca e hl)];exact s b z e
theorem zga {H:Hp} {l:Addr} {o:HO} (hl:H l=none):Same H (upd H l o):=(Same.refl H).upd hl
theorem zqn {p:Prop} [Decidable p] {A B:Prop} (h1:p→A) (h2:¬ p→B):if decide p=true then A else B:=by
 by_cases h:p
 ·rw [if_pos (decide_eq_true h)];exact h1 h
 ·rw [if_neg (by simpa using h)];exact h2 h
theorem zj7 {p:Prop} [Decidable p] {A B:Prop} (h1:¬ p→A) (h2:p→B):if (!decide p)=true then A else B:=by
 by_cases h:p
 ·rw [if_neg (by simpa using h)];exact h2 h
 ·rw [if_pos (by simpa using h)];exact h1 h
theorem zy7 {b:Bool} {A B:Prop} (h1:b=true→A) (h2:b=false→B):if b=true then A else B:=by
 cases b
 ·rw [if_neg Bool.false_ne_true];exact h2 rfl
 ·rw [if_pos rfl];exact h1 rfl
theorem zd8 {G C:Prop} (h1:G→C) (h2:G):C:=h1 h2
theorem zyx {ns:List Int} {lo hi:Option Int} {i:Nat} {x:V} (h:(cutV (ns.map V.int) lo hi)[i]? = some x):∃ n,x=V.int n:=by
 have hm:=List.mem_of_getElem? h
 unfold cutV at hm
 have hm:=List.mem_of_mem_drop (List.mem_of_mem_take hm)
 obtain ⟨n,_,e⟩:=List.mem_map.mp hm
 exact ⟨n,e.symm⟩
theorem zlw {ns:List Int} {lo hi:Option Int}:(cutV (ns.map V.int) lo hi).length≤ns.length:=by
 have:=zdd (ns.map V.int) lo hi
 simpa using this
end L2
namespace L2
open PySem PySem.Spec PyProof.Rows
structure Fly (new:Addr→Prop) (H:Hp) (x C:Addr) (h:Heap):Prop where
 ob:∃ oe vs,h.get? x=some oe∧oe.cls = .ref C∧oe.dict=none∧oe.data = .fields vs∧1<vs.size ∧
  (vs[1]? = some .none ∨ ∃ T oT ts,vs[1]? = some (.ref T)∧T≠x∧h.get? T=some oT∧oT.data = .fields ts∧3<ts.size∧new T∧H T=none)
 new:new x
 free:H x=none
theorem Fly.imp {n n':Addr→Prop} {H:Hp} {x C:Addr} {h:Heap} (f:Fly n H x C h) (k:∀ b,n b→n' b):Fly n' H x C h:=by
 obtain ⟨⟨oe,vs,a,b,c,d,e,g⟩,hn,hf⟩:=f
 refine ⟨⟨oe,vs,a,b,c,d,e,g.imp id ?_⟩,k _ hn,hf⟩
 rintro ⟨T,oT,ts,a,b,c,d,e,f,g⟩
 exact ⟨T,oT,ts,a,b,c,d,e,k _ f,g⟩
theorem zmo (o:Obj) (f:Array Value→Array Value):(o.mapFields f).dict=o.dict:=by
 obtain ⟨c,d,dt,sl⟩:=o
 cases dt <;> rfl
section
variable {M:Model} {A:Around} {E:Value→Shared→Prop} {s:Shared}
theorem zmi {env env':Env} (h:env.frame=env'.frame):PySem.frameOf env=PySem.frameOf env':=by
 unfold PySem.frameOf
 rw [h]
theorem zvf {env env':Env} {e:Value} (h:env.frame=env'.frame):noteFrame e env=noteFrame e env':=by
 unfold noteFrame
 rw [zmi h,h]
structure Kept (x T:Addr) (frames:List Addr) (h h':Heap):Prop where
 keep:∀ b o,b≠x→b≠T→b∉frames→h.get? b=some o→h'.get? b=some o
 slot:∀ b o,b≠x→b≠T→h.get? b=some o→∃ sl,h'.get? b=some { o with slots:=sl }
theorem zgj {base:Heap} {env:Env} {outer:List Env} {L x:Addr} {oe:Obj} {vs:Array Value} {head:Value} {hadNext:Bool} {Q:Unit→Shared→Prop}
  (hfr:A.frames=some (env::outer)) (hl:s.heap.FunFrames base (env::outer)) (hf:env.frame=some L)
  (he:s.heap.get? x=some oe) (hd:oe.data = .fields vs) (hz:1<vs.size)
  (h:∀ h' T,(∃ oe' vs',h'.get? x=some oe'∧oe'.cls=oe.cls∧oe'.dict=oe.dict∧oe'.data = .fields vs'∧1<vs'.size∧vs'[1]? = some (.ref T))→(∃ oT ts,h'.get? T=some oT∧oT.data = .fields ts∧3<ts.size)→s.heap.objs.size≤T →
   Kept x x (frs (env::outer)) s.heap h'→Q () { s with heap:=h' }) :
  wpAny M A (do let a ← PySem.frameOf env;let pl ← entryPlaceOf L hadNext;let b ← EntryCells.newEntry head a .none (rawInt L) .none pl;setField (.ref x) 1 b) Q E s:=by
 have xnf:x∉(env::outer).filterMap (·.frame):=λ hm=>by
  obtain ⟨_,o,ho,hnf⟩:=hl.mem hm
  rw [he] at ho
  cases ho
  exact hnf vs hd
 refine wpAny_bind (wpAny_frameOf_fun hfr hl hf λ h1 g1=>?_)
 refine wpAny_bind (wpAny_entryPlaceOf λ pl hpl=>?_)
 unfold EntryCells.newEntry newFields
 refine wpAny_bind (wpAny_newObj_type ?_ (hpl.sizeOk5 _ _ _ _ _))
 have e1:h1.get? x=some oe:=(g1.2.1 x xnf).trans he
 have lt1:x<h1.objs.size:=Heap.lt_size e1
 have e2:=Heap.get?_push_of_some (h:=h1) { cls := .type "traceback",dict:=none,data := .fields ([head,.ref L,.none,rawInt L,.none]++(if pl.isEmpty then List.replicate 6 Value.none else pl)).toArray } e1
 have dm:=Obj.data_mapFields hd (·.setIfInBounds 1 (Value.ref h1.objs.size))
 refine wpAny_setField e2 hd hz (h _ h1.objs.size ⟨_,_,Heap.get?_update_self _ e2 (Obj.isFreed_of_fields dm),Obj.cls_mapFields _ _,zmo _ _,dm,by simpa using hz,by simp [hz]⟩
  ⟨_,_,(Heap.get?_update_other _ _ (Nat.ne_of_lt lt1)).trans (Heap.get?_push_size _ rfl),rfl,by simp only [List.size_toArray,List.length_append,List.length_cons];omega⟩ (by rw [g1.1];exact Nat.le_refl _) ⟨λ b o bx _ bf eb=>?_,λ b o bx _ eb=>?_⟩)
 ·rw [Heap.get?_update_other _ _ (Ne.symm bx)]
  exact Heap.get?_push_of_some _ ((g1.2.1 b bf).trans eb)
 ·obtain ⟨sl,q⟩:=g1.2.2 b o eb
  exact ⟨sl,by rw [Heap.get?_update_other _ _ (Ne.symm bx)];exact Heap.get?_push_of_some _ q⟩
end
section
variable {X:Cx} {σ:St} {H:Hp} {s:Shared} {x C:Addr}
noncomputable def Cx.new (X:Cx) (b:Addr):Prop:=(∀ o,X.s₀.heap.get? b=some o→b∈X.ex)∧∀ p∈X.pn,p.1≠b
theorem Inv.stepN {h':Heap} {t':Nat} {ch:List Addr} (I:Inv X [] σ H s) (hch:∀ b∈ch,X.new b∧H b=none∧b≠X.env.locals∧∀ y c,X.env.cells.lookup y=some c→c≠b)
  (keep:∀ b o,b∉ch→b∉frs X.stack→s.heap.get? b=some o→h'.get? b=some o) (slot:∀ b o,b∉ch→s.heap.get? b=some o→∃ sl,h'.get? b=some { o with slots:=sl }) :
  Inv X [] σ H { s with heap:=h',toks:=t' }:=by
 have old:∀ b o,X.s₀.heap.get? b=some o→b∉X.ex→b∉ch:=λ b o e hx hb=>hx ((hch b hb).1.1 o e)
 have neL:∀ b o,X.s₀.heap.get? b=some o→b≠X.env.locals:=λ b o e=>Nat.ne_of_lt (Nat.lt_of_lt_of_le (Heap.lt_size e) I.ok.above)
 have trk:∀ b u,H b=some u→b∉ch:=λ b u e hb=>by have:=(hch b hb).2.1;rw [e] at this;cases this
 have trs:∀ b u,H b=some u→b∉frs X.stack:=λ b u e hb=>by have:=I.stkFree b hb;rw [e] at this;cases this
 have nfs:∀ b,b≠X.env.locals→b∉X.fs→b∉frs X.stack:=λ b h1 h2 z=>(List.mem_cons.mp (I.stkSub b z)).elim h1 h2
 have cellK:∀ y c,X.env.cells.lookup y=some c→∀ v,s.heap.IsCell c v→h'.IsCell c v:=λ y c e v ⟨o,ho,hd⟩=>by
  obtain ⟨sl,q⟩:=slot c o (λ z=>(hch c z).2.2.2 y c e rfl) ho
  exact ⟨_,q,hd⟩
 refine ⟨I.ok,I.os,I.bare,⟨λ b o e n hb hx=>?_,λ b o e n hb hx=>?_,I.base.free,λ b o e hx=>?_,I.base.tups,I.base.frzs,I.base.tbls⟩,?_,λ y c e=>?_,I.free,I.freeC,λ p hp=>?_,λ b u e=>?_,I.len⟩
 ·exact keep b o (old b o e hx) (nfs b (neL b o e) hb) (I.base.keep b o e n hb hx)
 ·obtain ⟨sl,q⟩:=I.base.slot b o e n hb hx
  obtain ⟨sl',q'⟩:=slot b _ (old b o e hx) q
  exact ⟨sl',q'⟩
 ·obtain ⟨o',q⟩:=I.base.there b o e hx
  obtain ⟨sl,q'⟩:=slot b o' (old b o e hx) q
  exact ⟨_,q'⟩
 ·obtain ⟨m,⟨o,es,ep,ho,r⟩,hl⟩:=I.loc
  obtain ⟨sl,q⟩:=slot _ o (λ z=>(hch _ z).2.2.1 rfl) ho
  refine ⟨m,⟨_,es,ep,q,r⟩,λ i y v e1 e2 e3=>?_⟩
  obtain ⟨u,ru,lk⟩:=hl i y v e1 e2 e3
  exact ⟨u,ru,lk.imp id λ ⟨k,c,e,z⟩=>⟨k,c,e,cellK y c e _ z⟩⟩
 ·obtain ⟨v,z⟩:=I.cell y c e
  exact ⟨v,cellK y c e v z⟩
 ·obtain ⟨e,n,ne,nf,d⟩:=I.pin p hp
  have hp':p∈X.pn:=by simpa using hp
  exact ⟨keep p.1 p.2 (λ z=>(hch p.1 z).1.2 p hp' rfl) (nfs p.1 ne nf) e,n,ne,nf,d⟩
 ·refine (I.hok b u e).stay (λ c v hc q=>?_) (λ _ q=>q) λ _ _ q=>q
  rcases hc with rfl | hc
  ·exact keep c v (trk c u e) (trs c u e) q
  ·exact keep c v (trk c _ hc) (trs c _ hc) q
theorem Inv.fieldsNe (I:Inv X [] σ H s) {b:Addr} {o:Obj} {vs:Array Value} (e:s.heap.get? b=some o) (d:o.data = .fields vs):b≠X.env.locals∧(∀ y c,X.env.cells.lookup y=some c→c≠b)∧b∉frs X.stack:=by
 refine ⟨λ z=>?_,λ y c ec z=>?_,λ z=>?_⟩
 ·obtain ⟨m,⟨o',es,ep,ho,r,_⟩,_⟩:=I.loc
  rw [← z,e] at ho
  cases ho
  rw [d] at r
  cases r
 ·obtain ⟨v,o',ho,hd⟩:=I.cell y c ec
  rw [z,e] at ho
  cases ho
  rw [d] at hd
  cases hd
 ·obtain ⟨_,o',ho,hnf⟩:=I.stack.mem z
  rw [e] at ho
  cases ho
  exact hnf vs d
theorem Inv.kept2 {h':Heap} {T:Addr} (I:Inv X [] σ H s) (F:Fly X.new H x C s.heap) (hT:T=x ∨ ∃ oe vs oT ts,s.heap.get? x=some oe∧oe.data = .fields vs∧vs[1]? = some (.ref T)∧s.heap.get? T=some oT∧oT.data = .fields ts)
  (k:Kept x T (frs X.stack) s.heap h'):Inv X [] σ H { s with heap:=h' }:=by
 obtain ⟨oe,vs,e,_,_,d,_,tb⟩:=F.ob
 have one:X.new x∧H x=none∧x≠X.env.locals∧∀ y c,X.env.cells.lookup y=some c→c≠x:=⟨F.new,F.free,(I.fieldsNe e d).1,(I.fieldsNe e d).2.1⟩
 have two:X.new T∧H T=none∧T≠X.env.locals∧∀ y c,X.env.cells.lookup y=some c→c≠T:=by
  rcases hT with rfl | ⟨oe',vs',oT,ts,e',d',v',eT,dT⟩
  ·exact one
  ·rw [e] at e'
   cases e'
   rw [d] at d'
   cases d'
   rcases tb with z | ⟨T',oT',ts',v,_,_,_,_,hn,hf⟩
   ·rw [z] at v';cases v'
   ·rw [v] at v'
    cases v'
    exact ⟨hn,hf,(I.fieldsNe eT dT).1,(I.fieldsNe eT dT).2.1⟩
 refine I.stepN (ch:=[x,T]) (λ b hb=>?_) (λ b o hb hs q=>k.keep b o (λ z=>hb (by simp [z])) (λ z=>hb (by simp [z])) hs q) λ b o hb q=>k.slot b o (λ z=>hb (by simp [z])) (λ z=>hb (by simp [z])) q
 have:b=x ∨ b=T:=by simpa using hb
 rcases this with rfl | rfl
 ·exact one
 ·exact two
structure Cx.Top (X:Cx):Prop where
 top:∃ env outer L,X.stack=env::outer∧env.frame=some L∧X.env.frame=some L
theorem Cx.newAt {X:Cx} {σ:St} {H:Hp} {s:Shared} (I:Inv X [] σ H s) {T:Addr} (h:s.heap.objs.size≤T):X.new T:=by
 refine ⟨λ o q=>?_,λ p hp z=>?_⟩
 ·exact absurd (Nat.lt_of_lt_of_le (Heap.lt_size q) (Nat.le_trans I.sz h)) (Nat.lt_irrefl _)
 ·have:=Heap.lt_size (I.pin p (List.mem_append_left _ hp)).1
  rw [z] at this
  exact absurd (Nat.lt_of_lt_of_le this h) (Nat.lt_irrefl _)
theorem zvm {E:Value→Shared→Prop} {Q:Unit→Shared→Prop} (I:Inv X [] σ H s) (tp:X.Top) (F:Fly X.new H x C s.heap)
  (h:∀ h',Inv X [] σ H { s with heap:=h' }→Fly X.new H x C h'→(∃ oe vs T,h'.get? x=some oe∧oe.data = .fields vs∧vs[1]? = some (.ref T))→Q () { s with heap:=h' }) :
  wpAny (model X.prog X.w) X.A (noteFrame (.ref x) X.env) Q E s:=by
 obtain ⟨env,outer,L,hst,hf,hfe⟩:=tp.top
 have hfr:X.A.frames=some (env::outer):=by rw [I.ok.frames,hst]
 have hl:s.heap.FunFrames X.base (env::outer):=by rw [← hst];exact I.stack
 obtain ⟨oe,vs,e,ec,ed,d,z,tb⟩:=id F.ob
 rw [zvf (show X.env.frame=env.frame by rw [hfe,hf])]
 unfold noteFrame
 simp only [hf]
 rcases tb with v | ⟨T,oT,ts,v,nx,eT,dT,zT,hn,hfT⟩
 ·refine wpAny_bind (wpAny_field e d v ?_)
  rw [if_neg (by decide)]
  refine zgj hfr hl hf e d z λ h' T ⟨oe',vs',a1,a2,a3,a4,a5,a6⟩ ⟨oT,ts,b1,b2,b3⟩ hz k=>?_
  rw [← hst] at k
  refine h h' (I.kept2 F (.inl rfl) k) ⟨⟨oe',vs',a1,a2.trans ec,a3.trans ed,a4,a5,.inr ⟨T,oT,ts,a6,?_,b1,b2,b3,Cx.newAt I hz,I.hok.fresh hz⟩⟩,F.new,F.free⟩ ⟨_,_,_,a1,a4,a6⟩
  exact Nat.ne_of_gt (Nat.lt_of_lt_of_le (Heap.lt_size e) hz)
 ·refine wpAny_bind (wpAny_field e d v ?_)
  rw [if_pos (show (Value.ref T != Value.none)=true from by simp)]
  have v3:ts[3]? = some ts[3]:=by simp [zT]
  refine wpAny_bind (wpAny_field eT dT v3 ?_)
  by_cases hq:(ts[3] == rawInt L)=true
  ·rw [if_pos hq]
   exact wpAny_pure (h s.heap I F ⟨_,_,_,e,d,v⟩)
  ·rw [if_neg hq]
   refine wpAny_bind (wpAny_setField eT dT zT ?_)
   have oth:∀ b,b≠T→(s.heap.update T (Obj.mapFields (·.setIfInBounds 3 Value.none))).get? b=s.heap.get? b:=λ b hb=>Heap.get?_update_other _ _ (Ne.symm hb)
   have e2:(s.heap.update T (Obj.mapFields (·.setIfInBounds 3 Value.none))).get? x=some oe:=(oth x (Ne.symm nx)).trans e
   have hl2:(s.heap.update T (Obj.mapFields (·.setIfInBounds 3 Value.none))).FunFrames X.base (env::outer):=hl.of_keeps λ b o ho hnf=>⟨o,(oth b λ q=>by rw [q,eT] at ho;cases ho;exact hnf ts dT).trans ho,rfl⟩
   refine zgj (s:={ s with heap:=s.heap.update T (Obj.mapFields (·.setIfInBounds 3 Value.none)) }) hfr hl2 hf e2 d z λ h' T' ⟨oe',vs',a1,a2,a3,a4,a5,a6⟩ ⟨oT',ts',b1,b2,b3⟩ hz k=>?_
   rw [← hst] at k
   have hz':s.heap.objs.size≤T':=by
    have e3:(s.heap.update T (Obj.mapFields (·.setIfInBounds 3 Value.none))).objs.size=s.heap.objs.size:=Heap.size_after_update ..
    have hz2:(s.heap.update T (Obj.mapFields (·.setIfInBounds 3 Value.none))).objs.size≤T':=hz
    omega
   have k':Kept x T (frs X.stack) s.heap h':=⟨λ b o b1 b2 b3 q=>k.keep b o b1 b1 b3 ((oth b b2).trans q),λ b o b1 b2 q=>k.slot b o b1 b1 ((oth b b2).trans q)⟩
   refine h h' (I.kept2 F (.inr ⟨_,_,_,_,e,d,v,eT,dT⟩) k') ⟨⟨oe',vs',a1,a2.trans ec,a3.trans ed,a4,a5,.inr ⟨T',oT',ts',a6,?_,b1,b2,b3,Cx.newAt I hz',I.hok.fresh hz'⟩⟩,F.new,F.free⟩ ⟨_,_,_,a1,a4,a6⟩
   exact Nat.ne_of_gt (Nat.lt_of_lt_of_le (Heap.lt_size e) hz')
theorem zqe {A:Around} {E:Value→Shared→Prop} {Q:Unit→Shared→Prop} {f:Option Addr} (I:Inv X [] σ H s) (F:Fly X.new H x C s.heap) (ht:∃ oe vs T,s.heap.get? x=some oe∧oe.data = .fields vs∧vs[1]? = some (.ref T))
  (h:∀ h',Inv X [] σ H { s with heap:=h' }→Fly X.new H x C h'→(∃ oe vs T,h'.get? x=some oe∧oe.data = .fields vs∧vs[1]? = some (.ref T))→Q () { s with heap:=h' }) :
  wpAny (model X.prog X.w) A (setFlight (.ref x) f) Q E s:=by
 obtain ⟨oe,vs,e,ec,ed,d,z,tb⟩:=id F.ob
 obtain ⟨oe',vs',T,e',d',v⟩:=ht
 rw [e] at e'
 cases e'
 rw [d] at d'
 cases d'
 rcases tb with v' | ⟨T',oT,ts,v',nx,eT,dT,zT,hn,hfT⟩
 ·rw [v'] at v;cases v
 rw [v'] at v
 cases v
 unfold setFlight
 refine wpAny_bind (wpAny_field e d v' ?_)
 rw [if_pos (show (Value.ref T != Value.none)=true from by simp)]
 refine wpAny_setField eT dT zT ?_
 have oth:∀ b,b≠T→(s.heap.update T (Obj.mapFields (·.setIfInBounds 3 (f.elim Value.none λ f=>rawInt f)))).get? b=s.heap.get? b:=λ b hb=>Heap.get?_update_other _ _ (Ne.symm hb)
 have dm:=Obj.data_mapFields dT (·.setIfInBounds 3 (f.elim Value.none λ f=>rawInt f))
 have e2:=(oth x (Ne.symm nx)).trans e
 refine h _ (I.kept2 F (.inr ⟨_,_,_,_,e,d,v',eT,dT⟩) ⟨λ b o _ b2 _ q=>(oth b b2).trans q,λ b o _ b2 q=>⟨o.slots,(oth b b2).trans q⟩⟩)
  ⟨⟨oe,vs,e2,ec,ed,d,z,.inr ⟨T,_,_,v',nx,Heap.get?_update_self _ eT (Obj.isFreed_of_fields dm),dm,by simpa using zT,hn,hfT⟩⟩,F.new,F.free⟩ ⟨_,_,_,e2,d,v'⟩
end
end L2
namespace L2
open PySem PySem.Spec PyProof.Rows
noncomputable def CX1 (P:Program) (w:World) (base:Heap):CXT:=λ outer H s E e s'=>∃ (x C:Addr) (H':Hp),e = .ref x∧s'.os=s.os∧AllBare s'.gens∧Un (frs outer) [] H H' s.heap s'.heap∧HOk P w H' s'.heap ∧
 Fly (λ b=>s.heap.get? b=none) H' x C s'.heap∧E (.ref C) none H'
noncomputable def Wants (X:Cx) (E:XK):Prop:=∀ (σ:St) (H':Hp) (s':Shared) (x C:Addr),Inv X [] σ H' s'→Fly X.new H' x C s'.heap→E (.ref C) none H'→X.xe (.ref x) s'
theorem zu2 {X:Cx} {pins:List (Addr×Obj)} {σ:St} {H:Hp} {s:Shared} (I:Inv X pins σ H s) {b:Addr} (h:s.heap.get? b=none):X.new b:=by
 refine ⟨λ o e=>?_,λ p hp z=>?_⟩
 ·by_cases hx:b∈X.ex
  ·exact hx
  ·obtain ⟨o',q⟩:=I.base.there b o e hx
   rw [h] at q
   cases q
 ·have:=(I.pin p (List.mem_append_left _ hp)).1
  rw [z,h] at this
  cases this
theorem Inv.nopins {X:Cx} {pins:List (Addr×Obj)} {σ:St} {H:Hp} {s:Shared} (I:Inv X pins σ H s):Inv X [] σ H s:=I.pins_of λ p hp=>absurd hp (by simp)
theorem Wants.passes {X:Cx} {E:XK} (W:Wants X E):zve (CX1 X.prog X.w X.base) X E:=λ pins σ H s e s' I ⟨x,C,H',ee,os,bare,un,hok,F,q⟩=>by
 subst ee
 have J:Inv X pins σ H' s':=I.call' (ch:=[]) os un hok bare λ b z=>absurd z (by simp)
 exact W σ H' s' x C J.nopins (F.imp λ b hb=>zu2 I hb) q
theorem zva {P:Program} {w:World} {base:Heap} {X:Cx}:zve (CX1 P w base) X E0:=λ _ _ _ _ _ _ _ ⟨_,_,_,_,_,_,_,_,_,q⟩=>q.elim
theorem zna {P:Program} {w:World} {K:W.Frag} {mg:Str→Option Value} {base:Heap} {N:List Str} {qual:Str} {scope:Scope} {f:Addr} {cd:Value} {A:Around} {outer:List Env} {s:Shared} {H:Hp} {E:XK} :
  Wants (cxOf (CX1 P w base) P w K mg base N qual scope f cd A outer s H E) E:=λ σ H' s' x C I F q=>by
 refine wpAny_bind (zvm I ⟨⟨_,_,_,rfl,rfl,rfl⟩⟩ F λ h1 I1 F1 t1=>?_)
 refine zqe I1 F1 t1 λ h2 I2 F2 _=>?_
 refine ⟨x,C,H',rfl,I2.os,I2.bare,I2.base,I2.hok,F2.imp λ b hb=>?_,q⟩
 cases e:s.heap.get? b with
 | none=>rfl
 | some o=>exact absurd (hb.1 o e) (by simp [cxOf])
section
variable {P:Program} {w:World} {K:W.Frag} {mg:Str→Option Value} {base:Heap}
theorem Fun.okX {x qual:Str} {st:Stmt} {f:Addr} {fd:FuncData} {N ps:List Str} {k:Nat} {sp:Sp} (F:Fun K x qual st f fd) (S:FnScope N ps (zea st)) (len:∀ vs H Q E,sp vs H Q E→vs.length=ps.length)
  (hbody:∀ (cdv:Value) (A:Around) (outer:List Env) (s:Shared) (H:Hp) (vs:List V) (Q:VK) (E:XK),Room k (A.deeper (envOfC qual (zea st) s.heap.objs.size f cdv))→sp vs H Q E →
   ∃ t,PSs (cxOf (CX1 P w base) P w K mg base N qual (zea st) f cdv A outer s H E) (zse st) t∧t { nx:=λ _ H'=>Q .non H',rt:=Q } (zyo N vs) H):FnOk P w K mg base (CX1 P w base) (k+1) f fd ps sp:=by
 obtain ⟨oc,od,kV,doc,pm,an,cdv,ct,osl,rfl,lk,hcd⟩:=F.ex
 exact zk7 lk hcd S len λ A outer s H vs Q E hr hsp=>hbody cdv A outer s H vs Q E hr hsp
theorem Fun.okN {x qual:Str} {st:Stmt} {f:Addr} {fd:FuncData} {N ps:List Str} {k:Nat} {sp:Sp} (F:Fun K x qual st f fd) (S:FnScope N ps (zea st)) (len:∀ vs H Q E,sp vs H Q E→vs.length=ps.length)
  (hbody:∀ (cdv:Value) (A:Around) (outer:List Env) (s:Shared) (H:Hp) (vs:List V) (Q:VK) (E:XK),Room k (A.deeper (envOfC qual (zea st) s.heap.objs.size f cdv))→sp vs H Q E →
   ∃ t,PSs (cxOf (CX1 P w base) P w K mg base N qual (zea st) f cdv A outer s H E).nox (zse st) t∧t { nx:=λ _ H'=>Q .non H',rt:=Q } (zyo N vs) H):FnOk P w K mg base (CX1 P w base) (k+1) f fd ps sp :=
 F.okX S len λ cdv A outer s H vs Q E hr hsp=>let ⟨t,h,q⟩:=hbody cdv A outer s H vs Q E hr hsp; ⟨t,h.nox,q⟩
end
abbrev bmV:List Value:=[.type "ValueError",.type "Exception",.type "BaseException",.type "object"]
structure XCls (K:W.Frag) (C:Addr):Prop where
 ex:W.excIn K C bmV "ValueError.__new__" = true
 ga:W.findIn K (.ref C) "__getattribute__" = some (some (.builtin "BaseException.__getattribute__"))
 gn:W.findIn K (.ref C) "__getattr__" = some none
 be:W.subIn K (.ref C) (.type "BaseException")=some true
 hd:W.hasDictIn K C=true
 ca:W.findIn K (.ref C) "__class__" = some (some (.builtin "object.__class__"))
 mo:W.mroIn K C (.type "object")=some true
 gs:W.specialIn K (.builtin "object.__class__") "__get__" = some (some (.builtin "getset_descriptor.__get__"))
 tk:W.takesIn K (.builtin "object.__class__")=some true
theorem XCls.obj {K:W.Frag} {C:Addr} {h:Heap} (c:XCls K C) (X:K.In h):∃ bm N nm q bs hdct sn sub ab col dd k0 k1 k2 k3 k5 mN,
  h.get? C=some (excClassObj nm q C N bs bm hdct sn sub ab col dd k0 k1 k2 k3 k5 "ValueError.__new__")∧h.Ns N mN∧mN "__init__" = none∧OwnTail h bmV bm ∧
  ∀ b r,W.mroIn K C b=some r→(Value.ref C::bm).contains b=r:=by
 have q:=c.ex
 unfold W.excIn at q
 split at q
 ·rename_i dd cd sl ho
  split at q
  ·rename_i C' bm k0 k1 k2 k3 n k5 hm hs
   simp only [Bool.and_eq_true,beq_iff_eq,Bool.not_eq_true'] at q
   obtain ⟨⟨⟨⟨⟨rfl,rfl⟩,hdel⟩,ht⟩,hok⟩,hni⟩:=q
   have hmro:∀ b r,W.mroIn K C' b=some r→(Value.ref C'::bm).contains b=r:=λ b r e=>by
    unfold W.mroIn W.clsIn at e
    rw [ho] at e
    simp only [Option.bind_some,hm] at e
    simpa using e
   obtain ⟨nm,bs,mro,ns,qn,hd,sn,sub,ab,col,del⟩:=cd
   dsimp only at hm hdel hok hni
   subst hm hdel
   have hsl:sl = #[k0,k1,k2,k3,some (.builtin "ValueError.__new__"),k5]:=by
    obtain ⟨l⟩:=sl
    simp only at hs
    rw [hs]
   subst hsl
   exact ⟨bm,ns,nm,qn,bs,hd,sn,sub,ab,col,dd,k0,k1,k2,k3,k5,_,X _ _ ho,.of_isNs (W.isNs_of_in X hok),W.nsMap_none_of_in X hok hni,W.tail_of_in X ht,hmro⟩
  ·cases q
 ·cases q
section
variable {X:Cx}
noncomputable def zm5 (C:Addr) (E:XK) (ta:TA):TS:=λ _ σ H=>ta σ H λ vs H1=>vs.length≤sizeLine∧E (.ref C) none H1
theorem zrd {C:Addr} {E:XK} {n:Str} {e:Expr} {es:List Expr} {ta:TA} {np cpos pos:Pos} (xc:XCls X.K C) (W:Wants X E) (hc:X.calm=true) (hg:Gl X n) (hm:X.mg n=some (.ref C)) (ha:PA X (e::es) ta)
  (hs:starEach (e::es) X.env=(false,eval e X.env)::starEach es X.env:=by rfl) (hp:(backTo cpos (starEach es X.env)).any (·.1)=false:=by rfl) (hdb:(n == ("__debug__" : Str))=false:=by decide) :
  PS X (.Raise (some (.Call (.Name n np) (e::es) [] cpos)) none pos) (zm5 C E ta) := .mk <| by
 intro pins s σ H D I h
 obtain ⟨bm,N,nm,q,bs,hdct,sn,sub,ab,col,dd,k0,k1,k2,k3,k5,mN,hC,hN,hni,T,_⟩:=xc.obj I.mod.kin
 refine wpAny_Raise_call_subT (C:=C) (nm:=nm) (q:=q) (N:=N) (bs:=bs) (bm:=bm) (hdct:=hdct) (sn:=sn) (sub:=sub) (ab:=ab) (col:=col) (dd:=dd) (k0:=k0) (k1:=k1) (k2:=k2) (k3:=k3) (k5:=k5)
  PySem.F.excBase_ValueError (mN:=mN) (T.hasType (by decide)) (I.ok.hd hc) (by rw [hs];show (false || (backTo cpos (starEach es X.env)).any (·.1))=false;rw [hp];rfl) hni (zef I hg hm ⟨rfl,?_⟩ hdb)
 have hA:=ha cpos pins s σ H _ I h
 rw [hs] at hA ⊢
 refine Calls.evalArgs_plain (thn hA λ us s1 ⟨vs,H1,I1,r1,hl,hE⟩=>⟨rfl,by rw [← r1.length];exact hl,I1.bk _ _ hC,hN.keeps I1.bk,T.keeps I1.bk,λ h' x mk=>?_⟩)
 obtain ⟨t,e1,_,_⟩:=mk.there
 have J:Inv X [] σ H1 { s1 with heap:=h' }:=(I1.kept (t':=s1.toks) mk.keeps).nopins
 refine W σ H1 _ x C J ⟨⟨_,_,e1,rfl,rfl,rfl,by simp,.inl rfl⟩,zu2 I1 mk.new,?_⟩ hE
 cases z:H1 x with
 | none=>rfl
 | some o =>
  have:=(I1.hok x o z)
  have lt:∃ ob,s1.heap.get? x=some ob:=by
   cases o with
   | lst xs=>obtain ⟨_,_,_,_,e⟩:=this;exact ⟨_,e⟩
   | tup xs=>obtain ⟨_,_,_,p⟩:=this;obtain ⟨ob,e,_⟩:=p;exact ⟨_,e⟩
   | dK kvs=>obtain ⟨_,_,_,_,o,_,_,e,_⟩:=this;exact ⟨_,e⟩
   | dT kvs=>obtain ⟨_,_,_,_,o,_,_,e,_⟩:=this;exact ⟨_,e⟩
   | set S n=>obtain ⟨o,_,_,_,e,_⟩:=this;exact ⟨_,e⟩
   | ins C dx fs=>obtain ⟨_,_,_,e,_⟩:=this;exact ⟨_,e⟩
   | own y=>exact this
   | xd fs=>obtain ⟨_,⟨_,_,_,e,_⟩,_⟩:=this;exact ⟨_,e⟩
   | rng lo hi=>obtain ⟨_,_,_,e⟩:=this;exact ⟨_,e⟩
   | frz ob u=>obtain ⟨e,_⟩:=this;exact ⟨_,e⟩
   | tbl ps=>exact ⟨_,(show s1.heap.get? x=some _ from this)⟩
   | met f y=>exact ⟨_,(show s1.heap.get? x=some _ from this)⟩
   | ext φ=>obtain ⟨_,e,_⟩:=this;exact e
  obtain ⟨ob,e⟩:=lt
  rw [mk.new] at e
  cases e
end
end L2
namespace L2
open PySem PySem.Spec PyProof.Rows
noncomputable def Cx.tryC (X:Cx) (E':Value→Shared→Prop) (pn':List (Addr×Obj)):Cx:={ X with xe:=E',pn:=X.pn++pn' }
noncomputable def Cx.hand (X:Cx) (x:Addr):Cx:={ X with A:=X.A.mark (some (.ref x)),calm:=false,xe:=λ _ _=>False }
section
variable {X:Cx} {pins:List (Addr×Obj)} {σ:St} {H:Hp} {s:Shared} {x C D:Addr}
theorem Inv.toTry (I:Inv X pins σ H s) (E':Value→Shared→Prop):Inv (X.tryC E' pins) [] σ H s :=
 ⟨⟨I.ok.mod,I.ok.kind,I.ok.glob,I.ok.blt,I.ok.above,I.ok.inj,I.ok.has,I.ok.cab,I.ok.hd,I.ok.frames,I.ok.stk,I.ok.exf,I.ok.bs,I.ok.bsz,I.ok.noex,I.ok.exfs,I.ok.funs,I.ok.frf⟩,I.os,I.bare,I.base,I.loc,I.cell,I.free,I.freeC,λ p hp=>I.pin p (by simpa [Cx.tryC] using hp),I.hok,I.len⟩
theorem Inv.ofTry {E':Value→Shared→Prop} (I:Inv (X.tryC E' pins) [] σ H s):Inv X pins σ H s :=
 ⟨⟨I.ok.mod,I.ok.kind,I.ok.glob,I.ok.blt,I.ok.above,I.ok.inj,I.ok.has,I.ok.cab,I.ok.hd,I.ok.frames,I.ok.stk,I.ok.exf,I.ok.bs,I.ok.bsz,I.ok.noex,I.ok.exfs,I.ok.funs,I.ok.frf⟩,I.os,I.bare,I.base,I.loc,I.cell,I.free,I.freeC,λ p hp=>I.pin p (by simpa [Cx.tryC] using hp),I.hok,I.len⟩
theorem Inv.toHand (I:Inv X pins σ H s) (x:Addr):Inv (X.hand x) pins σ H s :=
 ⟨⟨I.ok.mod,I.ok.kind,I.ok.glob,I.ok.blt,I.ok.above,I.ok.inj,I.ok.has,I.ok.cab,λ z=>absurd z Bool.false_ne_true,I.ok.frames,I.ok.stk,I.ok.exf,I.ok.bs,I.ok.bsz,I.ok.noex,I.ok.exfs,I.ok.funs,I.ok.frf⟩,I.os,I.bare,I.base,I.loc,I.cell,I.free,I.freeC,I.pin,I.hok,I.len⟩
theorem Inv.ofHand {y:Addr} (I:Inv (X.hand y) pins σ H s) (hd:X.calm=true→X.A.handled=none):Inv X pins σ H s :=
 ⟨⟨I.ok.mod,I.ok.kind,I.ok.glob,I.ok.blt,I.ok.above,I.ok.inj,I.ok.has,I.ok.cab,hd,I.ok.frames,I.ok.stk,I.ok.exf,I.ok.bs,I.ok.bsz,I.ok.noex,I.ok.exfs,I.ok.funs,I.ok.frf⟩,I.os,I.bare,I.base,I.loc,I.cell,I.free,I.freeC,I.pin,I.hok,I.len⟩
theorem zrp {M:Model} {A:Around} {E:Value→Shared→Prop} {K:W.Frag} {oe:Obj} {b:Bool} {Q:Bool→Shared→Prop} (X:K.In s.heap) (xd:XCls K D) (xc:XCls K C) (hs:W.mroIn K C (.ref D)=some b)
  (he:s.heap.get? x=some oe) (hcls:oe.cls = .ref C) (hq:Q b s):wpAny M A (excMatches (.ref x) (.ref D)) Q E s:=by
 obtain ⟨bm,N,nm,q,bs,hdct,sn,sub,ab,col,dd,k0,k1,k2,k3,k5,mN,hD,_,_,T,_⟩:=xd.obj X
 obtain ⟨bm',N',nm',q',bs',hdct',sn',sub',ab',col',dd',l0,l1,l2,l3,l5,mN',hC,_,_,T',hmC⟩:=xc.obj X
 have hcB:(Value.ref D::bm).contains (.type "BaseException")=true:=by rw [List.contains_cons,T.hasType (b:=true) (by decide),Bool.or_true]
 have hcC:=hmC _ _ hs
 have f:=tc_notTuple
 obtain ⟨h,g,d,t,os⟩:=s
 unfold excMatches
 repeat (first | (with_reducible refine wpAny_loadPart_at he ?_;rw [hcls]) | with_reducible refine wpAny_loadPart_at hD ?_ | (with_reducible refine wpAny_isSubtype_exc hD ?_;rw [hcB]) | (with_reducible refine wpAny_isSubtype_exc hC ?_;rw [hcC]) | wp_step)
 cases b <;> (wp_walk;exact hq)
noncomputable def zej (CX:CXT) (X:Cx) (σ:St) (E:XK):Prop:=∀ (pins:List (Addr×Obj)) (H:Hp) (s:Shared) (e:Value) (s':Shared),Inv X pins σ H s→CX X.stack H s E e s'→X.xe e s'
end
end L2
namespace L2
open PySem PySem.Spec PyProof.Rows
section
variable {X:Cx}
end
section
variable {X:Cx}
end
theorem zft {l:W.OpenLaw} {n k:Nat} {q:Program} {loose:List Str} {XP:(Str→Option Value)→Heap→Prop} {YP:World→Heap→Prop} {d:DefRec} {K:Params→W.Frag} {sp:World→Sp} {x:Str}
  (hn:l.most=some n) (hn2:n≤sizeLine) (hdf:d.params.defaults=[]) (hr:Room k callerA) (hY:∀ (w:World) (h:Heap),YP w h→(K w.params).In h)
  (F:∀ (w:World) (mg:Str→Option Value) (fa:Addr) (h:Heap),(K w.params).In h→h.Ns mainGlobals mg→mg d.name=some (.ref fa) →
   ∃ fd:FuncData,(∀ (s:Shared) (u:Value),BindsTo s fd ⟨[u],[]⟩ [(x,u)])∧∀ base:Heap,(K w.params).In base→base.Ns mainGlobals mg→FnOk l.prog w (K w.params) mg base (CX1 l.prog w base) k fa fd [x] (sp w))
  (hsp:∀ (w:World) (H:Hp) (a:Addr) (ns:List Int),ns.length≤n→Only H→SqL (K w.params) H a (ns.map V.int)→sp w [.ref a] H (λ v _=>v = .bl true) λ _ _ _=>False) :
  W.WalkO q loose XP YP l.row.toRowW d [] (λ f vs=>PySem.call f vs):=by
 refine walk_of (x:=x) (K:=K) (CX:=λ _ _ _ _ _ _ _=>False) (sp:=λ w vs H Q E=>sp w vs H Q λ _ _ _=>False) hn hn2 hdf hr hY (λ w mg fa h a b c=>?_) (λ w H a ns h1 h2 h3=>hsp w H a ns h1 h2 h3) λ _ _ _ _ _ z=>z
 obtain ⟨fd,hb,hF⟩:=F w mg fa h a b c
 refine ⟨fd,hb,λ base h1 h2=>?_⟩
 have G:=hF base h1 h2
 refine ⟨λ vs H Q E h=>G.len vs H Q _ h,λ A outer s H args us vs Q E hr he hbi hv h=>codeAny_mono (G.run A outer s H args us vs Q _ hr he hbi hv h) λ r s' z=>?_⟩
 cases r with
 | error e=>obtain ⟨_,_,_,_,_,_,_,_,_,z⟩:=z;exact z
 | ok fl=>cases fl <;> exact z
end L2
namespace L2
open PySem PySem.Spec PyProof.Rows PySem.NumText
section
variable {P:Program} {w:World} {K:W.Frag} {mg:Str→Option Value} {base:Heap} {CX:CXT} {k:Nat} {f:Addr} {fd:FuncData} {ps:List Str}
end
section
variable {X:Cx}
end
end L2
namespace L2
open PySem PySem.Spec PyProof.Rows PySem.NumText
section
variable {X:Cx}
end
theorem Same.seqT {K:W.Frag} {H H':Hp} {a:Addr} {xs:List V} (e:Same H H') (h:SqT K H a xs):SqT K H' a xs:=by
 rcases h with h | h
 ·rcases h with h | ⟨o,h⟩
  ·exact .inl (.inl (e _ _ h))
  ·exact .inl (.inr ⟨o,e _ _ h⟩)
 ·exact .inr h
theorem zwf {J:It} {n:Nat} {nt:Nat} {cap:List Nat} {g:TG} {te:TE} {σ:St} {H1:Hp} {Q:VK} {D:Addr} (val:Nat→V) (R:Nat→V→Hp→Prop) (hD:H1 D=none) (hP:Plain H1) (hx:n≤sizeLine)
  (hJ:∀ i H2,Same H1 H2→(i<n→J.go i H2)∧(J.stop n H2)∧∀ x H3,i<n→J.yld i H2 x H3→H3=H2∧x=val i)
  (mono:∀ i y H H',R i y H→(∀ b o,b≠D→H b=some o→H' b=some o)→(∃ zs,H D=some (.lst zs))→R i y H')
  (step:∀ (i:Nat) H2 (T:VK),i<n→Plain H2→Same H1 H2→(∀ y H6,R i y H6→Same H2 H6→Plain H6→T y H6)→g (val i) (List.replicate nt none++caps cap σ) H2 λ σ4 H4=>te σ4 H4 T)
  (fin:∀ ys H2,ys.length=n→(∀ (i:Nat) y,ys[i]? = some y→R i y H2)→H2 D=some (.lst ys)→Same H1 H2→Plain H2→Q (.ref D) H2) :
  zc3 J D nt cap g tYes te σ H1 Q:=by
 refine ⟨λ i m ys H2=>m=n - i∧i≤n∧ys.length=i∧H2 D=some (.lst ys)∧Same H1 H2∧Plain H2∧∀ (j:Nat) y,ys[j]? = some y→R j y H2,⟨_,rfl,Nat.zero_le _,rfl,upd_same,zga hD,hP.lst,λ j y e=>by simp at e⟩,?_⟩
 rintro i m ys H2 ⟨rfl,hi,hl,hd,hs,hp,hr⟩
 refine ⟨hd,?_⟩
 obtain ⟨j1,j2,j3⟩:=hJ i H2 hs
 by_cases hlt:i<n
 ·refine .inr ⟨j1 hlt,by omega,λ v H3 hy=>?_⟩
  obtain ⟨rfl,rfl⟩:=j3 v H3 hlt hy
  simp only [tYes,if_true]
  refine step i _ _ hlt hp hs λ y H6 hR hs6 hp6=>⟨hs6 _ _ hd,_,by omega,rfl,hlt,by simp [hl],upd_same,?_,hp6.lst,?_⟩
  ·exact (hs.trans hs6).upd hD
  ·intro j z e
   have up:∀ b o,b≠D→H6 b=some o→(upd H6 D (.lst (ys++[y]))) b=some o:=λ b o hb e=>by rw [zha hb];exact e
   rcases Nat.lt_or_ge j ys.length with hj | hj
   ·rw [List.getElem?_append_left hj] at e
    refine mono j z H6 _ (mono j z _ H6 (hr j z e) (λ b o _ e=>hs6 b o e) ⟨_,hd⟩) up ⟨_,hs6 _ _ hd⟩
   ·rw [List.getElem?_append_right hj] at e
    have hj0:j - ys.length=0:=by
     rcases Nat.eq_zero_or_pos (j - ys.length) with h0 | h0
     ·exact h0
     ·rw [List.getElem?_eq_none (by simp;omega)] at e;cases e
    rw [hj0] at e
    simp at e
    subst e
    have:j=i:=by omega
    subst this
    exact mono j y H6 _ hR up ⟨_,hs6 _ _ hd⟩
 ·have e:i=n:=by omega
  subst e
  exact .inl ⟨j2,fin ys H2 hl hr hd hs hp⟩
theorem ziq {K:W.Frag} {a:Addr} {xs:List V} {H1:Hp} (h:SqL K H1 a xs):∀ i H2,Same H1 H2→(i<xs.length→(Itl K a).go i H2)∧((Itl K a).stop xs.length H2)∧∀ x H3,i<xs.length→(Itl K a).yld i H2 x H3→H3=H2∧x=xs.getD i .non:=λ i H2 e=>by
 refine ⟨λ hi=>⟨xs,xs[i],e.seq h,by simp [hi]⟩,⟨xs,e.seq h,Nat.le_refl _⟩,λ x H3 hi y=>⟨y.1,?_⟩⟩
 have:=y.2 xs (e.seq h)
 rw [List.getD_eq_getElem?_getD,this];rfl
mutual
noncomputable def DV (K:W.Frag) (H:Hp):PyData→V→Prop
 | .none,v=>v = .non
 | .bool b,v=>v = .bl b
 | .int i,v=>v = .int i
 | .str x,v=>v = .str x
 | .list xs,v=>∃ a vs,v = .ref a∧SqL K H a vs∧DVs K H xs vs
 | .tuple xs,v=>∃ a vs,v = .ref a∧SqT K H a vs∧DVs K H xs vs
 | .dict _,_=>False
noncomputable def DVs (K:W.Frag) (H:Hp):List PyData→List V→Prop
 | [],vs=>vs=[]
 | d::ds,vs=>∃ v r,vs=v::r∧DV K H d v∧DVs K H ds r
end
mutual
theorem DV.same {K:W.Frag} {H H':Hp} (e:Same H H'):∀ (d:PyData) (v:V),DV K H d v→DV K H' d v
 | .none,v,h=>h
 | .bool b,v,h=>h
 | .int i,v,h=>h
 | .str x,v,h=>h
 | .list xs,v,⟨a,vs,h1,h2,h3⟩=>⟨a,vs,h1,e.seq h2,DVs.same e xs vs h3⟩
 | .tuple xs,v,⟨a,vs,h1,h2,h3⟩=>⟨a,vs,h1,e.seqT h2,DVs.same e xs vs h3⟩
 | .dict _,v,h=>h.elim
theorem DVs.same {K:W.Frag} {H H':Hp} (e:Same H H'):∀ (ds:List PyData) (vs:List V),DVs K H ds vs→DVs K H' ds vs
 | [],vs,h=>h
 | d::ds,vs,⟨v,r,h1,h2,h3⟩=>⟨v,r,h1,DV.same e d v h2,DVs.same e ds r h3⟩
end
section
variable {X:Cx} {pins:List (Addr×Obj)} {σ:St} {H:Hp} {s:Shared}
mutual
theorem DV.reads (I:Inv X pins σ H s):∀ (d:PyData) (v:V) (u:Value),DV X.K H d v→RelV v u→∃ as,Reads s.heap u d as
 | .none,v,u,h,r=>by cases (show v=V.non from h);cases r;exact ⟨_,.none⟩
 | .bool b,v,u,h,r=>by cases (show v=V.bl b from h);cases r;exact ⟨_,.bool b⟩
 | .int i,v,u,h,r=>by cases (show v=V.int i from h);obtain ⟨t,rfl⟩:=r;exact ⟨_,.int i t⟩
 | .str x,v,u,h,r=>by cases (show v=V.str x from h);obtain ⟨t,rfl⟩:=r;exact ⟨_,.str x t⟩
 | .list xs,v,u,h,r=>by
  obtain ⟨a,vs,rfl,h2,h3⟩:=h
  cases r
  obtain ⟨its,rv,pl,_⟩:=I.list h2
  obtain ⟨o,ho,hc,n,hd⟩:=pl.isList
  obtain ⟨as,ra⟩:=DVs.reads I xs vs its h3 rv
  exact ⟨_,.list ho hc hd (by simpa using ra)⟩
 | .tuple xs,v,u,h,r=>by
  obtain ⟨a,vs,rfl,h2,h3⟩:=h
  cases r
  obtain ⟨its,rv,pl,_⟩:=I.tuple h2
  obtain ⟨o,ho,hc,n,hd⟩:=pl
  obtain ⟨as,ra⟩:=DVs.reads I xs vs its h3 rv
  exact ⟨_,.tuple ho hc hd (by simpa using ra)⟩
 | .dict _,v,u,h,r=>h.elim
theorem DVs.reads (I:Inv X pins σ H s):∀ (ds:List PyData) (vs:List V) (us:List Value),DVs X.K H ds vs→Vals vs us→∃ as,ReadsAll s.heap us ds as
 | [],vs,us,h,r=>by cases (show vs=[] from h);cases r;exact ⟨_,.nil⟩
 | d::ds,vs,us,h,r=>by
  obtain ⟨v,rest,rfl,h2,h3⟩:=h
  cases r with
  | cons r rr =>
   obtain ⟨as,ra⟩:=DV.reads I d _ _ h2 r
   obtain ⟨bs,rb⟩:=DVs.reads I ds _ _ h3 rr
   exact ⟨_,.cons ra rb⟩
end
end
section
variable {X:Cx}
noncomputable def rEqD (K:W.Frag):R2:=λ x y H Q=>∃ d e,DV K H d x∧DV K H e y∧SeqAt.shaped d=true∧SeqAt.shaped e=true∧Q (.bl (PyData.eqv d e)) H
noncomputable def rNeD (K:W.Frag):R2:=λ x y H Q=>∃ d e,DV K H d x∧DV K H e y∧SeqAt.shaped d=true∧SeqAt.shaped e=true∧Q (.bl (!PyData.eqv d e)) H
theorem zoi (hu:X.A.units+64<cLine):OpR X (compareOp .Eq) (rEqD X.K):=by
 intro pins s σ H x y v u Q I rx ry h
 obtain ⟨d,e,hd,he,sd,se,q⟩:=h
 obtain ⟨as,ra⟩:=DV.reads I d x v hd rx
 obtain ⟨bs,rb⟩:=DV.reads I e y u he ry
 exact SeqAt.compareEq_shaped ra rb sd se hu ⟨.bl _,H,I,rfl,q⟩
theorem zgk (hu:X.A.units+64<cLine):OpR X (compareOp .NotEq) (rNeD X.K):=by
 intro pins s σ H x y v u Q I rx ry h
 obtain ⟨d,e,hd,he,sd,se,q⟩:=h
 obtain ⟨as,ra⟩:=DV.reads I d x v hd rx
 obtain ⟨bs,rb⟩:=DV.reads I e y u he ry
 exact SeqAt.compareNe_shaped ra rb sd se hu ⟨.bl _,H,I,rfl,q⟩
end
noncomputable def zy1 {α:Type} (Pre:α→List V→Hp→Prop) (Post:α→V→Hp→Prop) (Exc:α→Addr→Prop):Sp:=λ vs H Q E=>Plain H∧∃ a,Pre a vs H∧(∀ v H',Post a v H'→Same H H'→Plain H'→Q v H')∧(∀ C H',Exc a C→Same H H'→Plain H'→E (.ref C) none H')
end L2
namespace L2
open PySem PySem.Spec PyProof.Rows PySem.NumText
section
variable {X:Cx}
theorem zxk {use:Option (Value→Sem Unit)} {QQ:Value→Shared→Prop} {p0:Pos} {pins:List (Addr×Obj)} {s:Shared} {σ:St} {H:Hp} {Q:VK} {elt tg iter:Expr} {ifs:List Expr} {scope:Scope} {pos:Pos} {N':List Str} {nt:Nat} {cap:List Nat} {wi:TI} {g:TG} {ti:TT} {te:TE}
  (EK:Addr→Shared→Hp→List Addr→(Value→Shared→Prop)→Prop)
  (hE:∀ (pins:List (Addr×Obj)) (σ:St) (s3:Shared) (H3:Hp) (fp:List Addr) (Q:VK) (D:Addr),Inv X pins σ H3 s3→(∀ b∈fp,FpOk X pins H3 b) →
   EK s3.heap.objs.size s3 H3 fp (notedBy (model X.prog X.w) X.A (compEnvC scope (clOf scope X.env) s3.heap.objs.size X.env) λ e s'=>compPost (model X.prog X.w) X.A X.xe none (EP X pins σ Q) (.ref D) s3.heap.objs.size (.error e) s'))
  (hc:X.calm=true) (hi:PI X tg iter wi)
  (hg:∀ C s₀ H₀ fp E',EK C s₀ H₀ fp E'→PG (X.comp scope C s₀ H₀ fp N' E') tg g)
  (hif:∀ C s₀ H₀ fp E',EK C s₀ H₀ fp E'→PIf (X.comp scope C s₀ H₀ fp N' E') ifs ti)
  (he:∀ C s₀ H₀ fp E',EK C s₀ H₀ fp E'→PE (X.comp scope C s₀ H₀ fp N' E') elt te)
  (hk:scope.kind = .function) (hb:zyc scope X.env=true) (hcap:zho X scope N' nt cap=true)
  (hgk:zhi nt g) (hs:∀ x,foldedSetIterable iter X.env x=pure x) (I:Inv X pins σ H s) (h:zdy wi nt cap g ti te σ H Q)
  (fin:∀ (D C:Addr) (m:Str→Option Value) (H5:Hp) (s6:Shared),Inv X pins σ H5 s6→Q (.ref D) H5→s6.heap.Ns C m→C≠X.env.locals→(∀ x c,X.env.cells.lookup x=some c→c≠C)→(∀ H',H' C=none→FpOk X pins H' C)→H5 C=none →
   compPost (model X.prog X.w) X.A X.xe use QQ (.ref D) C (.ok .next) s6) :
  wpAny (model X.prog X.w) X.A (comprehension (.ListComp elt [⟨tg,iter,ifs,0⟩] scope pos) scope X.env p0 (newList []) false (eval iter X.env) use) QQ X.xe s:=by
 have hclos:closureFor scope X.env=pure (clOf scope X.env):=zbe λ p hp e=>I.ok.has p.1 (ztb hb p hp e)
 refine wpAny_comprehension_free (use:=use) rfl hs hclos hk (zlc hb) (thn (hi pins s σ H _ I h) λ v s1 h1=>thn h1 λ itv s2 h2=>?_)
 obtain ⟨it,fp,tn,J,H2,e,I2,T,st2,f2,q2⟩:=h2
 subst e
 refine wpAny_newObj_type (wpAny_newFunctionEnv (zgc hb) (by intro y hy;simp at hy) (λ h₁ hns₁ hsb₁=>?_) hk)
 have I3:=I2.lnew (ys:=[]) (its:=[]) (t':=s2.toks) .nil (Nat.zero_le _)
 have hfl:∀ b∈fp,b<s2.heap.objs.size:=λ b hb'=>let ⟨o,e,_⟩:=T.obj 0 _ st2 b hb';Heap.lt_size e
 obtain ⟨W,⟨m0,w0⟩,turn⟩:=q2 s2.heap.objs.size (I2.hok.fresh (Nat.le_refl _))
 have nD:∀ b∈fp,b≠s2.heap.objs.size:=λ b hb'=>Nat.ne_of_lt (hfl b hb')
 have f3:∀ b∈fp,FpOk X pins (upd H2 s2.heap.objs.size (.lst [])) b:=λ b hb'=>⟨by rw [zha (nD b hb')];exact (f2 b hb').1,(f2 b hb').2⟩
 obtain ⟨s3,hs3⟩:∃ s3:Shared,s3={ s2 with heap:=s2.heap.push { cls := .type "list",data := .seq ([]:List Value).toArray },toks:=s2.toks }:=⟨_,rfl⟩
 have hs3':s3.heap=s2.heap.push { cls := .type "list",data := .seq ([]:List Value).toArray }:=by rw [hs3]
 rw [← hs3] at I3
 have hsz:s3.heap.objs.size=s2.heap.objs.size+1:=by rw [hs3',Heap.size_push]
 have hfl3:∀ b∈fp,b<s3.heap.objs.size:=λ b hb'=>by rw [hsz];exact Nat.lt_succ_of_lt (hfl b hb')
 have hC:(s2.heap.push { cls:=Value.type "list",dict:=none,data:=Data.seq ([]:List Value).toArray }).objs.size=s3.heap.objs.size:=by rw [hs3']
 dsimp only at hns₁ hsb₁ ⊢
 rw [hC] at hns₁ hsb₁ ⊢
 rw [← hs3'] at hsb₁
 have kp:∀ b o,s3.heap.get? b=some o→h₁.get? b=some o:=λ b o e=>hsb₁.extBut b o (Nat.ne_of_lt (Heap.lt_size e)) (Heap.get?_push_of_some _ e)
 have hEE:=hE pins σ s3 _ fp Q s2.heap.objs.size I3 f3
 generalize hE':(notedBy (model X.prog X.w) X.A (compEnvC scope (clOf scope X.env) s3.heap.objs.size X.env) λ e s'=>compPost (model X.prog X.w) X.A X.xe none (EP X pins σ Q) (.ref s2.heap.objs.size) s3.heap.objs.size (.error e) s')=E' at hEE
 have hE2:(notedBy (model X.prog X.w) X.A (compEnvC scope (clOf scope X.env) s3.heap.objs.size X.env) λ e s'=>compPost (model X.prog X.w) X.A X.xe use QQ (.ref s2.heap.objs.size) s3.heap.objs.size (.error e) s')=E':=hE'
 have I4:=zge (t4:=s2.toks+([]:List (Str×Value)).length) (E':=E') I3 hk hb hcap f3 hfl3 hns₁ kp
 have st4:tn 0 h₁:=T.keep 0 _ _ st2 λ b hb' o e=>kp b o (by rw [hs3'];exact Heap.get?_push_of_some _ e)
 obtain ⟨s4,hs4⟩:∃ s4:Shared,s4={ s3 with heap:=h₁,toks:=s2.toks+([]:List (Str×Value)).length }:=⟨_,rfl⟩
 rw [← hs4] at I4
 have st4':tn 0 s4.heap:=by rw [hs4];exact st4
 have cin:∀ x c,(clOf scope X.env).lookup x=some c→X.env.cells.lookup x=some c:=λ x c e=>zky scope.names [] (λ y d q=>by simp at q) e
 have stat:∀ {H':Hp},(∀ b∈fp,H' b=none)→∀ b∈fp,FpOk (X.comp scope s3.heap.objs.size s3 (upd H2 s2.heap.objs.size (.lst [])) fp N' E') [] H' b:=λ hn b hb'=>by
  refine ⟨hn b hb',Nat.ne_of_lt (hfl3 b hb'),λ z=>?_,.inl hb',λ x c e=>(f3 b hb').2.2.2.2.1 x c (cin x c e),λ p hp=>absurd hp (by simp [Cx.comp])⟩
  rcases List.mem_cons.mp (I3.stkSub b z) with z | z
  ·exact (f3 b hb').2.1 z
  ·exact (f3 b hb').2.2.1 z
 have loop:codeAny (model X.prog X.w) X.A (.compLoop (.ListComp elt [⟨tg,iter,ifs,0⟩] scope pos) 0 (.ref it) (.ref s2.heap.objs.size) (compEnvC scope (clOf scope X.env) s3.heap.objs.size X.env))
   (compPost (model X.prog X.w) X.A X.xe use QQ (.ref s2.heap.objs.size) s3.heap.objs.size) s4:=by
  refine zie (λ n s'=>∃ i ys H',Inv (X.comp scope s3.heap.objs.size s3 (upd H2 s2.heap.objs.size (.lst [])) fp N' E') [] (List.replicate nt none++caps cap σ) H' s'∧tn i s'.heap∧(∀ b∈fp,H' b=none)∧W i n ys H') ?_ m0
   ⟨0,[],_,I4,st4',λ b hb'=>(f3 b hb').1,w0⟩
  rintro n s5 ⟨i,ys,H5,I5,st5,fr5,w5⟩
  rw [hE2]
  obtain ⟨hD5,alt⟩:=turn i n ys H5 w5
  rcases alt with ⟨stop,qn⟩ | ⟨go,hyl,step⟩
  ·refine thn (T.done (X.comp scope s3.heap.objs.size s3 (upd H2 s2.heap.objs.size (.lst [])) fp N' E') rfl rfl rfl hc i [] s5 _ H5 E' I5 (stat fr5) st5 stop) λ r s6 ⟨hr,I6⟩=>?_
   subst hr
   obtain ⟨m6,hn6,_⟩:=I6.loc
   have I7:=zpf I3 f3 I6
   refine fin _ _ m6 H5 s6 I7 qn hn6 ?_ ?_ (λ H' hn=>I3.fpOk (Nat.le_refl _) hn) I6.free
   ·intro z
    exact absurd (Nat.lt_of_lt_of_le I3.lt (Nat.le_of_eq z)) (Nat.lt_irrefl _)
   ·intro x c e z
    obtain ⟨v,q⟩:=I3.cell x c e
    exact absurd (Nat.lt_of_lt_of_le q.lt (by rw [z];exact Nat.le_refl _)) (Nat.lt_irrefl _)
  ·refine thn (T.item (X.comp scope s3.heap.objs.size s3 (upd H2 s2.heap.objs.size (.lst [])) fp N' E') rfl rfl rfl hc i [] s5 _ H5 E' I5 (stat fr5) st5 go) λ r s6 ⟨u,hr,h6⟩=>?_
   subst hr
   refine thn h6 λ _ s7 ⟨x,H7,I7,r7,y7,st7,fr7⟩=>?_
   have I7':=I7.pinned (stat fr7) (T.obj _ _ st7)
   have again:∀ {σ8:St} {H8:Hp} {ys':List V} {s8:Shared},Inv (X.comp scope s3.heap.objs.size s3 (upd H2 s2.heap.objs.size (.lst [])) fp N' E') ([]++znk fp s7.heap) σ8 H8 s8→(∃ m',m'<n∧W (i+1) m' ys' H8)→(∀ (j:Nat) v,(List.replicate nt none++caps cap σ)[j]? = some (some v)→σ8[j]? = some (some v)) →
     ∃ m,m<n∧∃ i ys H',Inv (X.comp scope s3.heap.objs.size s3 (upd H2 s2.heap.objs.size (.lst [])) fp N' E') [] (List.replicate nt none++caps cap σ) H' s8∧tn i s8.heap∧(∀ b∈fp,H' b=none)∧W i m ys H':=fun {σ8 H8 ys' s8} I8 ⟨m',hm,w8⟩ hσ=>by
    refine ⟨m',hm,i+1,ys',H8,I8.unpinned.weak (by rw [I8.len,I5.len]) hσ,T.keep _ _ _ st7 λ b hb o e=>(I8.pin (b,o) (List.mem_append_right _ (List.mem_append_right _ (zyb hb e)))).1,λ b hb=>?_,w8⟩
    obtain ⟨o,e,d⟩:=T.obj _ _ st7 b hb
    exact (I8.pin (b,o) (List.mem_append_right _ (List.mem_append_right _ (zyb hb e)))).2.1
   refine thn (hg _ _ _ _ _ hEE _ s7 _ H7 x u _ I7' r7 (hgk x _ H7 _ (step x H7 y7))) λ _ s8 ⟨σ8,H8,I8,q8,hσ⟩=>?_
   refine thn (hif _ _ _ _ _ hEE _ s8 σ8 H8 _ I8 q8) λ ok s9 ⟨H9,I9,q9⟩=>?_
   cases ok with
   | false =>
    rw [if_neg Bool.false_ne_true] at q9 ⊢
    exact again I9 q9 hσ
   | true =>
    rw [if_pos rfl] at q9 ⊢
    refine thn (he _ _ _ _ _ hEE _ s9 σ8 H9 _ I9 q9) λ y s10 ⟨vy,H10,I10,r10,hD10,hm10⟩=>?_
    exact thn (zmd (X:=X.comp scope s3.heap.objs.size s3 (upd H2 s2.heap.objs.size (.lst [])) fp N' E') _ s10 σ8 H10 (.ref s2.heap.objs.size) [vy] (.ref s2.heap.objs.size) [y] (λ _ H'=>H'=upd H10 s2.heap.objs.size (.lst (ys++[vy]))) I10 rfl (.cons r10 .nil) ⟨_,_,_,rfl,rfl,hD10,hyl,rfl⟩) λ _ s11 ⟨_,H11,I11,_,e11⟩=>by
     subst e11
     exact again I11 hm10 hσ
 have e4:({ s2 with heap:=h₁,toks:=s2.toks+([]:List (Str×Value)).length }:Shared)=s4:=by rw [hs4,hs3]
 show codeAny _ _ _ _ { s2 with heap:=h₁,toks:=s2.toks+([]:List (Str×Value)).length }
 rw [e4]
 exact codeAny_compStart_list loop (T.self X.A 0 s4 _ _ st4' loop)
theorem zeu {elt tg iter:Expr} {ifs:List Expr} {scope:Scope} {cpos pos pos':Pos} {N':List Str} {nt:Nat} {cap:List Nat} {wi:TI} {g:TG} {ti:TT} {te:TE} {i:Nat} {x:Str}
  (EK:Addr→Shared→Hp→List Addr→(Value→Shared→Prop)→Prop)
  (hE:∀ (pins:List (Addr×Obj)) (σ:St) (s3:Shared) (H3:Hp) (fp:List Addr) (Q:VK) (D:Addr),Inv X pins σ H3 s3→(∀ b∈fp,FpOk X pins H3 b) →
   EK s3.heap.objs.size s3 H3 fp (notedBy (model X.prog X.w) X.A (compEnvC scope (clOf scope X.env) s3.heap.objs.size X.env) λ e s'=>compPost (model X.prog X.w) X.A X.xe none (EP X pins σ Q) (.ref D) s3.heap.objs.size (.error e) s'))
  (hc:X.calm=true) (hi:PI X tg iter wi)
  (hg:∀ C s₀ H₀ fp E',EK C s₀ H₀ fp E'→PG (X.comp scope C s₀ H₀ fp N' E') tg g)
  (hif:∀ C s₀ H₀ fp E',EK C s₀ H₀ fp E'→PIf (X.comp scope C s₀ H₀ fp N' E') ifs ti)
  (he:∀ C s₀ H₀ fp E',EK C s₀ H₀ fp E'→PE (X.comp scope C s₀ H₀ fp N' E') elt te)
  (hk:scope.kind = .function) (hb:zyc scope X.env=true) (hcap:zho X scope N' nt cap=true)
  (hgk:zhi nt g) (hs:∀ x,foldedSetIterable iter X.env x=pure x)
  (hN:X.N.Nodup) (hix:X.N[i]? = some x) (hx:Loc X.env.scope x) (hf:X.fn x=true ∨ X.env.scope.names.lookup x=some .local)
  (hsw:swapsWith (.ListComp elt [⟨tg,iter,ifs,0⟩] scope cpos) (some (.Name x pos')) pos.line X.env=pure true) :
  PS X (.Assign [.Name x pos'] (.ListComp elt [⟨tg,iter,ifs,0⟩] scope cpos) pos) (tAsg (zdy wi nt cap g ti te) (zgo i)) := .mk <| by
 intro pins s σ H D I h
 rw [exec_Assign_Name_used _ _ _ _ hsw]
 refine wpAny_bind (wpAny_standAt (wpAny_bind ?_))
 show wpAny _ X.A (do let _ ← comprehension (.ListComp elt [⟨tg,iter,ifs,0⟩] scope cpos) scope X.env _ (newList []) false (eval iter X.env) (some (assign (.Name x pos') X.env))) _ _ s
 refine wpAny_bind (thn (zxk (use:=some (assign (.Name x pos') X.env)) (QQ:=λ _ s'=>SP X pins D .next s') EK hE hc hi hg hif he hk hb hcap hgk hs I h ?_) λ _ s' hq=>wpAny_pure (wpAny_pure hq))
 intro Da C m H5 s6 I6 q6 hn hC hcell hfp h5
 show wpAny _ _ (assign (.Name x pos') X.env (.ref Da)) _ _ s6
 refine wpAny_assign_Name (zsi I6 hN hix hx (v := .ref Da) rfl (λ s7 I7 ⟨a,hsb,ha⟩=>?_) hf)
 have hCa:C≠a:=by
  rcases ha with rfl | ha
  ·exact hC
  ·exact λ z=>hcell x a ha z.symm
 refine ⟨m,hn.sameBut hsb hCa,λ h' hsb'=>⟨_,H5,?_,q6⟩⟩
 refine I7.turnedL (ch:=[C]) (t':=s7.toks) (λ b hb'=>?_) λ b u hb' e=>(hsb'.2 b λ z=>hb' (by simp [z])).trans e
 have eb:b=C:=by simpa using hb'
 subst eb
 exact hfp _ h5
theorem zmr {elt tg iter:Expr} {ifs:List Expr} {scope:Scope} {cpos pos pos':Pos} {wi:TI} {g:TG} {ti:TT} {te:TE} {i:Nat} {x:Str} (N':List Str) (nt:Nat) (cap:List Nat)
  (hN:X.N.Nodup) (hix:X.N[i]? = some x) (hx:Loc X.env.scope x)
  (hc:X.calm=true) (hi:PI X tg iter wi) (hgk:zhi nt g)
  (hg:∀ C s₀ H₀ fp E',PG (X.comp scope C s₀ H₀ fp N' E') tg g)
  (hif:∀ C s₀ H₀ fp E',PIf (X.comp scope C s₀ H₀ fp N' E') ifs ti)
  (he:∀ C s₀ H₀ fp E',PE (X.comp scope C s₀ H₀ fp N' E') elt te)
  (hk:scope.kind = .function:=by rfl) (hb:zyc scope X.env=true:=by rfl) (hcap:zho X scope N' nt cap=true:=by rfl)
  (hs:∀ x,foldedSetIterable iter X.env x=pure x:=by intro _;rfl) (hf:X.fn x=true ∨ X.env.scope.names.lookup x=some .local:=by first | exact .inl rfl | exact .inr rfl | assumption)
  (hsw:swapsWith (.ListComp elt [⟨tg,iter,ifs,0⟩] scope cpos) (some (.Name x pos')) pos.line X.env=pure true:=by rfl) :
  PS X (.Assign [.Name x pos'] (.ListComp elt [⟨tg,iter,ifs,0⟩] scope cpos) pos) (tAsg (zdy wi nt cap g ti te) (zgo i)) :=
 zeu (λ _ _ _ _ _=>True) (λ _ _ _ _ _ _ _ _ _=>trivial) hc hi (λ C s₀ H₀ fp E' _=>hg C s₀ H₀ fp E') (λ C s₀ H₀ fp E' _=>hif C s₀ H₀ fp E') (λ C s₀ H₀ fp E' _=>he C s₀ H₀ fp E') hk hb hcap hgk hs hN hix hx hf hsw
end
end L2
namespace HT
open PySem PySem.Spec PyProof.Rows
section
variable {prog:Program} {w:World} {A:Around} {E:Value→Shared→Prop} {s:Shared}
theorem getItem_tuple_whole {t sl:Addr} {items:Array Value} {vl vu:Value} {lo hi:Option Int} {Q:Value→Shared→Prop} (ht:IsTup s.heap t items) (hs:s.heap.IsSliceOf sl vl vu .none) (pl:IsPart vl lo) (pu:IsPart vu hi)
  (hw:sIx items.size 0 lo=0∧sIx items.size items.size hi=items.size) (h:Q (.ref t) s):wpAny (model prog w) A (getItem (.ref t) (.ref sl)) Q E s:=by
 obtain ⟨os,hos,hcs,hds⟩:=id hs
 have hTs:s.TypeIs (.ref sl) "slice" := ⟨os,hos,hcs⟩
 unfold getItem
 try with_reducible refine wpAny_holding ?_
 first | refine wpAny_bind (wpAny_pure ?_) | skip
 refine wpAny_bind (wpAny_sequenceKey ht.typeIs (by decide) ?_)
 refine wpAny_bind (wpAny_callSpecial?_slot (name:=Str.ofString "__getitem__") ht.typeIs PyProof.Rows.slot_tuple_getitem
  (wpAny_call_entry PyProof.Rows.slot_tuple_getitem ht.typeIs entry_tuple_getitem ?_ (args_tuple_getitem _ _)))
 show wpAny _ _ (Builtin.Tuple.tupleItemsOf (.ref t) >>= _) _ _ s
 refine wpAny_bind (tupleItemsOf_ ht ?_)
 refine wpAny_bind (wpAny_typeOf hTs ?_)
 rw [if_pos (by decide)]
 refine wpAny_bind (zcc hs pl pu ?_)
 have hyes:((((sIx items.size 0 lo:Nat):Int) == 0 && (1:Int) == 1 && (sIx items.size items.size hi - sIx items.size 0 lo) == items.size)=true):=by
  rw [hw.1,hw.2]
  simp
 show wpAny _ _ (if (((sIx items.size 0 lo:Nat):Int) == 0 && (1:Int) == 1 && (sIx items.size items.size hi - sIx items.size 0 lo) == items.size)=true then _ else _) _ _ s
 rw [if_pos hyes]
 refine wpAny_bind ?_
 unfold Builtin.Tuple.tupleIsExact
 refine wpAny_bind (wpAny_typeOf ht.typeIs (wpAny_pure ?_))
 rw [if_pos (by decide)]
 refine wpAny_bind (wpAny_rule ?_)
 refine wpAny_pure ⟨_,rfl,?_⟩
 exact wpAny_pure h
end
end HT
namespace L2
open PySem PySem.Spec PyProof.Rows PySem.NumText
section
variable {X:Cx}
noncomputable def rSlG (K:W.Frag):V→Option Int→Option Int→Hp→VK→Prop:=λ x lo hi H Q=>∃ a xs,x = .ref a∧SqT K H a xs∧∀ p H',SqT K H' p (cutV xs lo hi)→Same H H'→(Plain H→Plain H')→Q (.ref p) H'
theorem zkl:SlR X (rSlG X.K):=by
 intro pins s σ H x v vl vu lo hi sl Q I rx hs pl pu h
 obtain ⟨a,xs,rfl,hx,q⟩:=h
 by_cases hw:HT.sIx xs.length 0 lo=0∧HT.sIx xs.length xs.length hi=xs.length
 ·cases rx
  obtain ⟨its,r,ht,hz⟩:=I.tuple hx
  have hlen:its.toArray.size=xs.length:=by rw [List.size_toArray];exact r.length.symm
  refine ⟨"tuple",_,PyProof.Rows.slot_tuple_getitem.lookup,ht.typeIs,?_⟩
  refine HT.getItem_tuple_whole ht hs pl pu (by rw [hlen];exact hw) ⟨.ref a,H,I,rfl,q _ _ ?_ (Same.refl _) id⟩
  unfold cutV
  rw [hw.1,hw.2]
  simpa using hx
 ·exact zf5 pins s σ H (.ref a) v vl vu lo hi sl Q I rx hs pl pu ⟨a,xs,rfl,hx,hw,λ p hp=>q _ _ (SqT.of upd_same) (zga hp) λ z=>z.tup⟩
noncomputable def zg7 (K:W.Frag):R2:=λ x y H Q=>∃ a b xs ys,x = .ref a∧y = .ref b∧SqT K H a xs∧SqT K H b ys∧xs.length+ys.length≤sizeLine∧∀ p H',SqT K H' p (xs++ys)→Same H H'→(Plain H→Plain H')→Q (.ref p) H'
theorem zcw:OpR X (binaryOp .Add) (zg7 X.K):=by
 intro pins s σ H x y v u Q I rx ry h
 obtain ⟨a,b,xs,ys,rfl,rfl,ha,hb,hz,q⟩:=h
 by_cases hx:xs=[]
 ·cases rx
  cases ry
  obtain ⟨its,r1,p1,_⟩:=I.tuple ha
  obtain ⟨its2,r2,p2,_⟩:=I.tuple hb
  have e:its=[]:=by subst hx;cases r1;rfl
  subst e
  obtain ⟨⟨cls,dd,data,sl⟩,ho,hc,n,hd⟩:=id p1
  obtain ⟨⟨cls2,dd2,data2,sl2⟩,ho2,hc2,n2,hd2⟩:=id p2
  simp only at hc hd hc2 hd2
  subst hc hd hc2 hd2
  exact concat_meets ⟨_,ho,rfl⟩ ⟨_,ho2,rfl⟩ noFill_tuple_add seq_tuple_add PySem.F.slot_tuple_add PySem.F.entry_tuple_add (PySem.F.args_tuple_add_2 _ _)
   (tuple_addW0 a b #[] its2.toArray n n2 dd dd2 sl sl2 rfl) ⟨ho,ho2,⟨.ref b,H,I,rfl,q _ _ (by subst hx;exact hb) (Same.refl _) id⟩⟩
 ·refine zix pins s σ H _ _ v u Q I rx ry ⟨a,b,xs,ys,rfl,rfl,ha,hb,hx,hz,λ e=>q _ _ (by subst e;rw [List.append_nil];exact ha) (Same.refl _) id,λ _ p hp=>q _ _ (SqT.of upd_same) (zga hp) λ z=>z.tup⟩
end
mutual
noncomputable def noL:PyData→Bool
 | .list _=>false
 | .tuple xs=>noLs xs
 | _=>true
noncomputable def noLs:List PyData→Bool
 | []=>true
 | d::ds=>noL d && noLs ds
end
theorem SqT.mono {K:W.Frag} {H H':Hp} {a D:Addr} {xs:List V} (k:∀ b o,b≠D→H b=some o→H' b=some o) (hd:∃ zs,H D=some (.lst zs)) (h:SqT K H a xs):SqT K H' a xs:=by
 obtain ⟨zs,hd⟩:=hd
 rcases h with h | h
 ·rcases h with h | ⟨o,h⟩
  ·exact .inl (.inl (k _ _ (zxd h hd (λ e=>nomatch e)) h))
  ·exact .inl (.inr ⟨o,k _ _ (zxd h hd (λ e=>nomatch e)) h⟩)
 ·exact .inr h
mutual
theorem DV.mono {K:W.Frag} {H H':Hp} {D:Addr} (k:∀ b o,b≠D→H b=some o→H' b=some o) (hd:∃ zs,H D=some (.lst zs)):∀ (d:PyData) (v:V),noL d=true→DV K H d v→DV K H' d v
 | .none,v,_,h=>h
 | .bool b,v,_,h=>h
 | .int i,v,_,h=>h
 | .str x,v,_,h=>h
 | .list xs,v,n,_=>by cases n
 | .tuple xs,v,n,⟨a,vs,h1,h2,h3⟩=>⟨a,vs,h1,h2.mono k hd,DVs.mono k hd xs vs n h3⟩
 | .dict _,v,_,h=>h.elim
theorem DVs.mono {K:W.Frag} {H H':Hp} {D:Addr} (k:∀ b o,b≠D→H b=some o→H' b=some o) (hd:∃ zs,H D=some (.lst zs)):∀ (ds:List PyData) (vs:List V),noLs ds=true→DVs K H ds vs→DVs K H' ds vs
 | [],vs,_,h=>h
 | d::ds,vs,n,⟨v,r,h1,h2,h3⟩=>by
  have n:noL d=true∧noLs ds=true:=by rw [noLs,Bool.and_eq_true] at n;exact n
  exact ⟨v,r,h1,DV.mono k hd d v n.1 h2,DVs.mono k hd ds r n.2 h3⟩
end
theorem DVs.length {K:W.Frag} {H:Hp}:∀ {ds:List PyData} {vs:List V},DVs K H ds vs→vs.length=ds.length
 | [],vs,h=>by cases (show vs=[] from h);rfl
 | d::ds,vs,⟨v,r,h1,h2,h3⟩=>by subst h1;simp [DVs.length h3]
theorem DVs.get {K:W.Frag} {H:Hp}:∀ {ds:List PyData} {vs:List V} {i:Nat} {d:PyData},DVs K H ds vs→ds[i]? = some d→∃ v,vs[i]? = some v∧DV K H d v
 | [],vs,i,d,h,e=>by simp at e
 | d::ds,vs,0,e',⟨v,r,h1,h2,h3⟩,e=>by subst h1;simp at e;subst e;exact ⟨v,rfl,h2⟩
 | d::ds,vs,i+1,e',⟨v,r,h1,h2,h3⟩,e=>by subst h1;simp at e;obtain ⟨u,hu,q⟩:=DVs.get h3 e;exact ⟨u,by simpa using hu,q⟩
theorem DVs.append {K:W.Frag} {H:Hp}:∀ {ds es:List PyData} {vs us:List V},DVs K H ds vs→DVs K H es us→DVs K H (ds++es) (vs++us)
 | [],es,vs,us,h,h'=>by cases (show vs=[] from h);exact h'
 | d::ds,es,vs,us,⟨v,r,h1,h2,h3⟩,h'=>by subst h1;exact ⟨v,r++us,rfl,h2,DVs.append h3 h'⟩
theorem DVs.drop {K:W.Frag} {H:Hp}:∀ {ds:List PyData} {vs:List V} (n:Nat),DVs K H ds vs→DVs K H (ds.drop n) (vs.drop n)
 | ds,vs,0,h=>by simpa using h
 | [],vs,n+1,h=>by cases (show vs=[] from h);rfl
 | d::ds,vs,n+1,⟨v,r,h1,h2,h3⟩=>by subst h1;exact DVs.drop n h3
theorem DVs.take {K:W.Frag} {H:Hp}:∀ {ds:List PyData} {vs:List V} (n:Nat),DVs K H ds vs→DVs K H (ds.take n) (vs.take n)
 | ds,vs,0,h=>by rw [List.take_zero,List.take_zero];rfl
 | [],vs,n+1,h=>by cases (show vs=[] from h);rfl
 | d::ds,vs,n+1,⟨v,r,h1,h2,h3⟩=>by subst h1;exact ⟨v,_,rfl,h2,DVs.take n h3⟩
theorem DVs.of {α:Type} {K:W.Frag} {H:Hp} {f:α→PyData}:∀ {xs:List α} {vs:List V},vs.length=xs.length→(∀ (i:Nat) v x,vs[i]? = some v→xs[i]? = some x→DV K H (f x) v)→DVs K H (xs.map f) vs
 | [],vs,hl,h=>by cases vs with | nil=>rfl | cons _ _=>simp at hl
 | x::xs,vs,hl,h=>by
  cases vs with
  | nil=>simp at hl
  | cons v vs=>exact ⟨v,vs,rfl,h 0 v x rfl rfl,DVs.of (by simpa using hl) λ i u y e1 e2=>h (i+1) u y (by simpa using e1) (by simpa using e2)⟩
theorem gk3 {K:W.Frag}:zhi 3 (gTup K 3 (zsu (zgo 0) (zsu (zgo 1) (zsu (zgo 2) gNil)))):=λ x c H Q h=>by
 obtain ⟨a,xs,e1,hq,hl,v,r,e2,v',r',e3,v2,r2,e4,e5,h⟩:=h
 refine ⟨a,xs,e1,hq,hl,v,r,e2,v',r',e3,v2,r2,e4,e5,h,λ j v e=>?_⟩
 match j,e with
 | 0,e=>simp [List.replicate] at e
 | 1,e=>simp [List.replicate] at e
 | 2,e=>simp [List.replicate] at e
 | j+3,e=>simpa [List.replicate,List.set] using e
section
variable {X:Cx} {K:W.Frag}
theorem zhj (h:X.K=K):IxR X (rIxT K):=h ▸ zae
end
end L2
namespace L2
open PySem PySem.Spec PyProof.Rows PySem.NumText
noncomputable abbrev Stp:=Int×Int×Int
noncomputable def stp (s:Stp):PyData := .tuple [.int s.1,.int s.2.1,.int s.2.2]
noncomputable def plc (ss:List Stp):PyData := .tuple (ss.map stp)
noncomputable abbrev sV (s:Stp):List V:=[.int s.1,.int s.2.1,.int s.2.2]
theorem znz {K:W.Frag} {H:Hp} {s:Stp} {v:V} (h:DV K H (stp s) v):∃ t,v = .ref t∧SqT K H t (sV s):=by
 obtain ⟨t,vs,rfl,hq,x,r,rfl,hx,y,r2,rfl,hy,z,r3,rfl,hz,h4⟩:=h
 cases (show x=V.int s.1 from hx)
 cases (show y=V.int s.2.1 from hy)
 cases (show z=V.int s.2.2 from hz)
 cases (show r3=[] from h4)
 exact ⟨t,rfl,hq⟩
theorem zmt {K:W.Frag} {H:Hp} {s:Stp} {t:Addr} (h:SqT K H t (sV s)):DV K H (stp s) (.ref t):=⟨t,_,rfl,h,_,_,rfl,rfl,_,_,rfl,rfl,_,_,rfl,rfl,rfl⟩
theorem zpw (s:Stp):noL (stp s)=true:=rfl
theorem zrl:∀ ss:List Stp,noLs (ss.map stp)=true
 | []=>rfl
 | s::ss=>by rw [List.map_cons,noLs,zpw,zrl ss];rfl
theorem zgm (ss:List Stp):noL (plc ss)=true:=zrl ss
theorem zif:∀ ss:List Stp,PyData.canLayAll0 (ss.map stp)=true
 | []=>rfl
 | s::ss=>by
  rw [List.map_cons,PyData.canLayAll0,zif ss]
  rfl
theorem zsb:∀ ss:List Stp,PyData.depthAll (ss.map stp)≤1
 | []=>Nat.zero_le _
 | s::ss=>by
  rw [List.map_cons,PyData.depthAll]
  have h1:PyData.depth (stp s)=1:=rfl
  have h2:=zsb ss
  rw [h1]
  omega
theorem zff (ss:List Stp):PyData.canLay0 (plc ss)=true:=zif ss
theorem znb (ss:List Stp):SeqAt.shaped (plc ss)=true:=by
 unfold SeqAt.shaped
 rw [zff,Bool.true_and]
 have h:PyData.depth (plc ss)=PyData.depthAll (ss.map stp)+1:=rfl
 have:=zsb ss
 exact decide_eq_true (by omega)
theorem zao (a b:Stp):PyData.eqv (stp a) (stp b)=decide (a=b):=by
 obtain ⟨a1,a2,a3⟩:=a
 obtain ⟨b1,b2,b3⟩:=b
 have e:PyData.eqv (stp (a1,a2,a3)) (stp (b1,b2,b3))=(a1 == b1 && (a2 == b2 && (a3 == b3 && true))):=rfl
 rw [e,Bool.eq_iff_iff]
 simp
theorem zan:∀ a b:List Stp,PyData.eqvAll (a.map stp) (b.map stp)=decide (a=b)
 | [],[]=>rfl
 | [],_::_=>rfl
 | _::_,[]=>rfl
 | x::a,y::b=>by
  rw [List.map_cons,List.map_cons,PyData.eqvAll,zao,zan a b,Bool.eq_iff_iff]
  simp
theorem zwi (a b:List Stp):PyData.eqv (plc a) (plc b)=decide (a=b):=zan a b
theorem zfn {K:W.Frag} {H:Hp} {ss:List Stp} {vs:List V} {i:Nat} (h:DVs K H (ss.map stp) vs) (hi:i<ss.length):∃ t,vs[i]? = some (.ref t)∧SqT K H t (sV ss[i]):=by
 obtain ⟨v,hv,hd⟩:=h.get (i:=i) (d:=stp ss[i]) (by simp [hi])
 obtain ⟨t,rfl,hq⟩:=znz hd
 exact ⟨t,hv,hq⟩
theorem zj0 {K:W.Frag} {H:Hp} {p:Addr} {xs:List V} {i:Int} {v:V} {Q:VK} (hq:SqT K H p xs) (h0:0≤i) (hv:xs[i.toNat]? = some v) (h:Q v H):rIxT K (.ref p) (.int i) H Q:=by
 obtain ⟨j,rfl⟩:∃ j:Nat,i=j:=⟨i.toNat,by omega⟩
 exact ⟨p,xs,_,v,rfl,rfl,hq,zvi (by simpa using hv),h⟩
theorem zfi {xs:List V} {i:Int} (h0:0≤i):cutV xs none (some i)=xs.take i.toNat:=by
 obtain ⟨j,rfl⟩:∃ j:Nat,i=j:=⟨i.toNat,by omega⟩
 unfold cutV
 rw [HT.sIx_none,HT.sIx_nat,List.drop_zero,Nat.sub_zero,Int.toNat_natCast]
 rcases Nat.le_total j xs.length with h | h
 ·rw [Nat.min_eq_left h]
 ·rw [Nat.min_eq_right h,List.take_of_length_le (Nat.le_refl _),List.take_of_length_le h]
theorem zzm {xs:List V} {i:Int} (h0:0≤i):cutV xs (some i) none=xs.drop i.toNat:=by
 obtain ⟨j,rfl⟩:∃ j:Nat,i=j:=⟨i.toNat,by omega⟩
 unfold cutV
 rw [HT.sIx_none,HT.sIx_nat,Int.toNat_natCast]
 rcases Nat.le_total j xs.length with h | h
 ·rw [Nat.min_eq_left h,List.take_of_length_le (by rw [List.length_drop];exact Nat.le_refl _)]
 ·rw [Nat.min_eq_right h,List.drop_of_length_le h,List.drop_of_length_le (Nat.le_refl _),List.take_nil]
end L2
namespace L2
open PySem PySem.Spec PyProof.Rows PySem.NumText
noncomputable def lexD (e r:Nat→Bool) (d:Bool):List Nat→Bool
 | []=>d
 | j::js=>if e j=true then lexD e r d js else r j
noncomputable def zgf (op:CmpOp) (A:Around) (s:Shared) (y x:Value) (b:Bool):Prop :=
 ∀ (prog:Program) (w:World) (E:Value→Shared→Prop) (Q:Value→Shared→Prop),Q (.bool b) s→wpAny (model prog w) A (richCompare op y x) Q E s
section
open PySem.SeqAt
open PySem.AutoSeq1 (wpAny_loadPart')
open PySem.MeetsSeq PySem.MeetsSeq2 PySem.MeetsSeq3
theorem zuk (l b:Addr) (items items2:Array Value) (n n2:Nat) (dd dd2:Option Addr) (sl sl2:Array (Option Value)) (e r:Nat→Bool) :
  Meets (Builtin.«tuple.__lt__» ⟨[.ref l,.ref b],[]⟩)
   (λ A R s=>s.heap.get? l=some { cls := .type "tuple",dict:=dd,data := .seq items n,slots:=sl }∧s.heap.get? b=some { cls := .type "tuple",dict:=dd2,data := .seq items2 n2,slots:=sl2 } ∧
    (∀ j (h1:j<items.size) (h2:j<items2.size),EqAt A.in1 s items[j] items2[j] (e j)) ∧
    (∀ j (h1:j<items.size) (h2:j<items2.size),e j=false→zgf .Lt A.in1 s items[j] items2[j] (r j)) ∧
    R (.ok (.ret (.bool (lexD e r (decide (items.size<items2.size)) (List.range (min items.size items2.size)))))) s) :=
 .of_wp λ prog w A R s h=>by
  obtain ⟨hp,g,d,tk,os⟩:=s;obtain ⟨hl,hb,he,hc,h⟩:=h
  have f2:=AutoSeq1.sub_tuple_tuple
  have hZ:(items.toList.zip items2.toList).length=min items.size items2.size:=by simp
  wp_walk using wpAny_loadPart' hl,wpAny_loadPart' hb,wpAny_forIn_list _ (λ rest b s'=>b.1=none∧s'=⟨hp,g,d,tk,os⟩∧∃ i,rest=(items.toList.zip items2.toList).drop i ∧
   R (.ok (.ret (.bool (lexD e r (decide (items.size<items2.size)) ((List.range (min items.size items2.size)).drop i))))) ⟨hp,g,d,tk,os⟩) _
  case turn =>
   rintro ⟨y,x⟩ rest b s' ⟨hb',rfl,i,hz,hR⟩
   have hlt:i<(items.toList.zip items2.toList).length:=by
    rcases Nat.lt_or_ge i (items.toList.zip items2.toList).length with h' | h'
    ·exact h'
    ·rw [List.drop_of_length_le h'] at hz;cases hz
   have hm:i<min items.size items2.size:=hZ ▸ hlt
   have h1:i<items.size:=Nat.lt_of_lt_of_le hm (Nat.min_le_left _ _)
   have h2:i<items2.size:=Nat.lt_of_lt_of_le hm (Nat.min_le_right _ _)
   rw [List.drop_eq_getElem_cons hlt] at hz
   injection hz with hyx hrest
   have hy:y=items[i]:=by have:=congrArg Prod.fst hyx;simpa using this
   have hx:x=items2[i]:=by have:=congrArg Prod.snd hyx;simpa using this
   subst hy hx
   have hd:(List.range (min items.size items2.size)).drop i=i::(List.range (min items.size items2.size)).drop (i+1):=by simp [List.drop_eq_getElem_cons,hm]
   rw [hd,lexD] at hR
   refine wpAny_bind (he i h1 h2 prog w _ _ ?_)
   cases hy:e i with
   | true =>
    rw [hy,if_pos rfl] at hR
    wp_walk
    exact ⟨rfl,rfl,i+1,hrest,hR⟩
   | false =>
    rw [hy,if_neg Bool.false_ne_true] at hR
    have hri:=hc i h1 h2 hy prog w
    wp_walk using hri
    exact ⟨_,rfl,by simpa using hR⟩
  case fin =>
   rintro ⟨b1,b2⟩ s' ⟨hb',rfl,i,hz,hR⟩
   simp only at hb'
   subst hb'
   have hge:min items.size items2.size≤i:=by
    rw [← hZ]
    rcases Nat.lt_or_ge i (items.toList.zip items2.toList).length with h' | h'
    ·rw [List.drop_eq_getElem_cons h'] at hz;cases hz
    ·exact h'
   rw [List.drop_of_length_le (by simpa using hge),lexD] at hR
   wp_walk
   exact ⟨_,rfl,by simpa [Builtin.Tuple.tupleCompareSizes] using hR⟩
  case h =>
   exact ⟨rfl,rfl,0,rfl,h⟩
theorem zvk {prog:Program} {w:World} {A:Around} {E:Value→Shared→Prop} {s:Shared} {l b:Addr} {items items2:Array Value} {e r:Nat→Bool} {Q:Value→Shared→Prop} (hl:IsTup s.heap l items) (hb:IsTup s.heap b items2)
  (he:∀ j (h1:j<items.size) (h2:j<items2.size),EqAt A.in1 s items[j] items2[j] (e j)) (hc:∀ j (h1:j<items.size) (h2:j<items2.size),e j=false→zgf .Lt A.in1 s items[j] items2[j] (r j))
  (hu:A.units<cLine) (h:Q (.bool (lexD e r (decide (items.size<items2.size)) (List.range (min items.size items2.size)))) s):wpAny (model prog w) A (compareOp .Lt (.ref l) (.ref b)) Q E s:=by
 obtain ⟨⟨cls,dd,data,sl⟩,ho,hc1,n,hd⟩:=id hl
 obtain ⟨⟨cls2,dd2,data2,sl2⟩,ho2,hc2,n2,hd2⟩:=id hb
 simp only at hc1 hd hc2 hd2
 subst hc1 hd hc2 hd2
 refine richCompare_meets_room (op := .Lt) ⟨_,ho,rfl⟩ ⟨_,ho2,rfl⟩ PySem.F.slot_tuple_lt PySem.F.entry_tuple_lt (PySem.F.args_tuple_lt_2 _ _) (zuk l b items items2 n n2 dd dd2 sl sl2 e r) ⟨ho,ho2,he,hc,?_⟩ hu
 exact (show Value.bool _≠Value.notImplemented∧Q (.bool _) s from ⟨(λ x=>nomatch x),h⟩)
theorem zjm (l b:Addr) (items items2:Array Value) (n n2:Nat) (dd dd2:Option Addr) (sl sl2:Array (Option Value)) (e r:Nat→Bool) :
  Meets (Builtin.«tuple.__ge__» ⟨[.ref l,.ref b],[]⟩)
   (λ A R s=>s.heap.get? l=some { cls := .type "tuple",dict:=dd,data := .seq items n,slots:=sl }∧s.heap.get? b=some { cls := .type "tuple",dict:=dd2,data := .seq items2 n2,slots:=sl2 } ∧
    (∀ j (h1:j<items.size) (h2:j<items2.size),EqAt A.in1 s items[j] items2[j] (e j)) ∧
    (∀ j (h1:j<items.size) (h2:j<items2.size),e j=false→zgf .GtE A.in1 s items[j] items2[j] (r j)) ∧
    R (.ok (.ret (.bool (lexD e r (decide (items2.size≤items.size)) (List.range (min items.size items2.size)))))) s) :=
 .of_wp λ prog w A R s h=>by
  obtain ⟨hp,g,d,tk,os⟩:=s;obtain ⟨hl,hb,he,hc,h⟩:=h
  have f2:=AutoSeq1.sub_tuple_tuple
  have hZ:(items.toList.zip items2.toList).length=min items.size items2.size:=by simp
  wp_walk using wpAny_loadPart' hl,wpAny_loadPart' hb,wpAny_forIn_list _ (λ rest b s'=>b.1=none∧s'=⟨hp,g,d,tk,os⟩∧∃ i,rest=(items.toList.zip items2.toList).drop i ∧
   R (.ok (.ret (.bool (lexD e r (decide (items2.size≤items.size)) ((List.range (min items.size items2.size)).drop i))))) ⟨hp,g,d,tk,os⟩) _
  case turn =>
   rintro ⟨y,x⟩ rest b s' ⟨hb',rfl,i,hz,hR⟩
   have hlt:i<(items.toList.zip items2.toList).length:=by
    rcases Nat.lt_or_ge i (items.toList.zip items2.toList).length with h' | h'
    ·exact h'
    ·rw [List.drop_of_length_le h'] at hz;cases hz
   have hm:i<min items.size items2.size:=hZ ▸ hlt
   have h1:i<items.size:=Nat.lt_of_lt_of_le hm (Nat.min_le_left _ _)
   have h2:i<items2.size:=Nat.lt_of_lt_of_le hm (Nat.min_le_right _ _)
   rw [List.drop_eq_getElem_cons hlt] at hz
   injection hz with hyx hrest
   have hy:y=items[i]:=by have:=congrArg Prod.fst hyx;simpa using this
   have hx:x=items2[i]:=by have:=congrArg Prod.snd hyx;simpa using this
   subst hy hx
   have hd:(List.range (min items.size items2.size)).drop i=i::(List.range (min items.size items2.size)).drop (i+1):=by simp [List.drop_eq_getElem_cons,hm]
   rw [hd,lexD] at hR
   refine wpAny_bind (he i h1 h2 prog w _ _ ?_)
   cases hy:e i with
   | true =>
    rw [hy,if_pos rfl] at hR
    wp_walk
    exact ⟨rfl,rfl,i+1,hrest,hR⟩
   | false =>
    rw [hy,if_neg Bool.false_ne_true] at hR
    have hri:=hc i h1 h2 hy prog w
    wp_walk using hri
    exact ⟨_,rfl,by simpa using hR⟩
  case fin =>
   rintro ⟨b1,b2⟩ s' ⟨hb',rfl,i,hz,hR⟩
   simp only at hb'
   subst hb'
   have hge:min items.size items2.size≤i:=by
    rw [← hZ]
    rcases Nat.lt_or_ge i (items.toList.zip items2.toList).length with h' | h'
    ·rw [List.drop_eq_getElem_cons h'] at hz;cases hz
    ·exact h'
   rw [List.drop_of_length_le (by simpa using hge),lexD] at hR
   wp_walk
   exact ⟨_,rfl,by simpa [Builtin.Tuple.tupleCompareSizes] using hR⟩
  case h =>
   exact ⟨rfl,rfl,0,rfl,h⟩
theorem zam {prog:Program} {w:World} {A:Around} {E:Value→Shared→Prop} {s:Shared} {l b:Addr} {items items2:Array Value} {e r:Nat→Bool} {Q:Value→Shared→Prop} (hl:IsTup s.heap l items) (hb:IsTup s.heap b items2)
  (he:∀ j (h1:j<items.size) (h2:j<items2.size),EqAt A.in1 s items[j] items2[j] (e j)) (hc:∀ j (h1:j<items.size) (h2:j<items2.size),e j=false→zgf .GtE A.in1 s items[j] items2[j] (r j))
  (hu:A.units<cLine) (h:Q (.bool (lexD e r (decide (items2.size≤items.size)) (List.range (min items.size items2.size)))) s):wpAny (model prog w) A (compareOp .GtE (.ref l) (.ref b)) Q E s:=by
 obtain ⟨⟨cls,dd,data,sl⟩,ho,hc1,n,hd⟩:=id hl
 obtain ⟨⟨cls2,dd2,data2,sl2⟩,ho2,hc2,n2,hd2⟩:=id hb
 simp only at hc1 hd hc2 hd2
 subst hc1 hd hc2 hd2
 refine richCompare_meets_room (op := .GtE) ⟨_,ho,rfl⟩ ⟨_,ho2,rfl⟩ PySem.F.slot_tuple_ge PySem.F.entry_tuple_ge (PySem.F.args_tuple_ge_2 _ _) (zjm l b items items2 n n2 dd dd2 sl sl2 e r) ⟨ho,ho2,he,hc,?_⟩ hu
 exact (show Value.bool _≠Value.notImplemented∧Q (.bool _) s from ⟨(λ x=>nomatch x),h⟩)
end
noncomputable def lexG {α:Type} [DecidableEq α] (lt:α→α→Bool):List α→List α→Bool
 | [],[]=>false
 | [],_::_=>true
 | _::_,[]=>false
 | x::xs,y::ys=>if x=y then lexG lt xs ys else lt x y
theorem zbg (e r:Nat→Bool) (d:Bool):∀ js:List Nat,lexD e r d (js.map Nat.succ)=lexD (λ j=>e (j+1)) (λ j=>r (j+1)) d js
 | []=>rfl
 | j::js=>by
  rw [List.map_cons,lexD,lexD,zbg e r d js]
theorem zvq {α:Type} [DecidableEq α] {lt:α→α→Bool}:∀ {xs ys:List α} {e r:Nat→Bool},(∀ (j:Nat) x y,xs[j]? = some x→ys[j]? = some y→e j=decide (x=y))→(∀ (j:Nat) x y,xs[j]? = some x→ys[j]? = some y→x≠y→r j=lt x y) →
  lexD e r (decide (xs.length<ys.length)) (List.range (min xs.length ys.length))=lexG lt xs ys:=by
 intro xs
 induction xs with
 | nil =>
  intro ys e r _ _
  cases ys with
  | nil=>rfl
  | cons y ys=>rw [List.length_nil,Nat.zero_min];exact decide_eq_true (Nat.succ_pos _)
 | cons x xs ih =>
  intro ys e r he hr
  cases ys with
  | nil=>rw [List.length_nil,Nat.min_zero];exact decide_eq_false (Nat.not_lt_zero _)
  | cons y ys =>
   have h0:=he 0 x y rfl rfl
   rw [List.length_cons,List.length_cons,Nat.succ_min_succ,List.range_succ_eq_map,lexD,lexG,h0]
   by_cases hxy:x=y
   ·rw [if_pos (decide_eq_true hxy),if_pos hxy,zbg]
    have:=ih (ys:=ys) (e:=λ j=>e (j+1)) (r:=λ j=>r (j+1)) (λ j a b h1 h2=>he (j+1) a b (by simpa using h1) (by simpa using h2)) (λ j a b h1 h2=>hr (j+1) a b (by simpa using h1) (by simpa using h2))
    rw [← this]
    congr 1
    exact decide_eq_decide.mpr (by omega)
   ·rw [if_neg (by simpa using hxy),if_neg hxy]
    exact hr 0 x y rfl rfl hxy
theorem zhr {α:Type} [DecidableEq α] {lt:α→α→Bool}:∀ {xs ys:List α} {e r:Nat→Bool},(∀ (j:Nat) x y,xs[j]? = some x→ys[j]? = some y→e j=decide (x=y))→(∀ (j:Nat) x y,xs[j]? = some x→ys[j]? = some y→x≠y→r j = !lt x y) →
  lexD e r (decide (ys.length≤xs.length)) (List.range (min xs.length ys.length)) = !lexG lt xs ys:=by
 intro xs
 induction xs with
 | nil =>
  intro ys e r _ _
  cases ys with
  | nil=>rfl
  | cons y ys=>rw [List.length_nil,Nat.zero_min];exact decide_eq_false (Nat.not_succ_le_zero _)
 | cons x xs ih =>
  intro ys e r he hr
  cases ys with
  | nil=>rw [List.length_nil,Nat.min_zero];exact decide_eq_true (Nat.zero_le _)
  | cons y ys =>
   have h0:=he 0 x y rfl rfl
   rw [List.length_cons,List.length_cons,Nat.succ_min_succ,List.range_succ_eq_map,lexD,lexG,h0]
   by_cases hxy:x=y
   ·rw [if_pos (decide_eq_true hxy),if_pos hxy,zbg]
    have:=ih (ys:=ys) (e:=λ j=>e (j+1)) (r:=λ j=>r (j+1)) (λ j a b h1 h2=>he (j+1) a b (by simpa using h1) (by simpa using h2)) (λ j a b h1 h2=>hr (j+1) a b (by simpa using h1) (by simpa using h2))
    rw [← this]
    congr 1
    exact decide_eq_decide.mpr (by omega)
   ·rw [if_neg (by simpa using hxy),if_neg hxy]
    exact hr 0 x y rfl rfl hxy
noncomputable abbrev iLt (a b:Int):Bool:=decide (a<b)
noncomputable def sI (s:Stp):List Int:=[s.1,s.2.1,s.2.2]
theorem sI_inj {a b:Stp}:sI a=sI b↔a=b:=by
 obtain ⟨a1,a2,a3⟩:=a
 obtain ⟨b1,b2,b3⟩:=b
 simp [sI]
noncomputable abbrev sLt (a b:Stp):Bool:=lexG iLt (sI a) (sI b)
noncomputable abbrev pLt (a b:List Stp):Bool:=lexG sLt a b
theorem zmj {xs:List V} {us:List Value} (r:Vals xs us) {j:Nat} (h:j<us.toArray.size):∃ x,xs[j]? = some x∧RelV x us.toArray[j]:=by
 have hj:j<xs.length:=by rw [r.length];simpa using h
 obtain ⟨u,hu,q⟩:=r.get (List.getElem?_eq_getElem hj)
 refine ⟨xs[j],List.getElem?_eq_getElem hj,?_⟩
 have:us[j]? = some us.toArray[j]:=by simp
 rw [hu] at this
 cases this
 exact q
section
variable {X:Cx} {pins:List (Addr×Obj)} {σ:St} {H:Hp} {s:Shared} {A:Around}
theorem ztq (I:Inv X pins σ H s) {a b:Stp} {t u:Addr} (ha:SqT X.K H t (sV a)) (hb:SqT X.K H u (sV b)) (hu:A.units<cLine):zgf .Lt A s (.ref t) (.ref u) (sLt a b)∧zgf .GtE A s (.ref t) (.ref u) (!sLt a b):=by
 obtain ⟨its,r1,p1,_⟩:=I.tuple ha
 obtain ⟨its2,r2,p2,_⟩:=I.tuple hb
 have i1:IntsAre its (sI a):=zyg (by simpa [sI] using r1)
 have i2:IntsAre its2 (sI b):=zyg (by simpa [sI] using r2)
 have z1:its.toArray.size=(sI a).length:=by rw [← i1.length];simp
 have z2:its2.toArray.size=(sI b).length:=by rw [← i2.length];simp
 have get1:∀ j (h:j<its.toArray.size),∃ n t',(sI a)[j]? = some n∧its.toArray[j] = .int n t':=λ j h=>by
  obtain ⟨x,hx,q⟩:=zmj (xs:=(sI a).map V.int) (by simpa [sI] using r1) h
  rw [List.getElem?_map] at hx
  cases e:(sI a)[j]? with
  | none=>rw [e] at hx;cases hx
  | some n=>rw [e] at hx;cases hx;obtain ⟨t',q⟩:=q;exact ⟨n,t',rfl,q⟩
 have get2:∀ j (h:j<its2.toArray.size),∃ n t',(sI b)[j]? = some n∧its2.toArray[j] = .int n t':=λ j h=>by
  obtain ⟨x,hx,q⟩:=zmj (xs:=(sI b).map V.int) (by simpa [sI] using r2) h
  rw [List.getElem?_map] at hx
  cases e:(sI b)[j]? with
  | none=>rw [e] at hx;cases hx
  | some n=>rw [e] at hx;cases hx;obtain ⟨t',q⟩:=q;exact ⟨n,t',rfl,q⟩
 have he:∀ j (h1:j<its.toArray.size) (h2:j<its2.toArray.size),SeqAt.EqAt A.in1 s its.toArray[j] its2.toArray[j] (decide ((sI a)[j]? = (sI b)[j]?)):=λ j h1 h2=>by
  obtain ⟨n,t1,e1,q1⟩:=get1 j h1
  obtain ⟨m,t2,e2,q2⟩:=get2 j h2
  rw [q1,q2,e1,e2]
  have:decide (some n=some m)=(n == m):=by rw [Bool.eq_iff_iff];simp
  rw [this]
  exact SeqAt.EqAt.int_int n t1 m t2
 have hd:∀ (j:Nat) x y,(sI a)[j]? = some x→(sI b)[j]? = some y→decide ((sI a)[j]? = (sI b)[j]?)=decide (x=y):=λ j x y h1 h2=>by
  rw [h1,h2];exact decide_eq_decide.mpr (by simp)
 refine ⟨λ prog w E Q hq=>?_,λ prog w E Q hq=>?_⟩
 ·refine zvk (e:=λ j=>decide ((sI a)[j]? = (sI b)[j]?)) (r:=λ j=>decide (((sI a)[j]?).getD 0<((sI b)[j]?).getD 0)) p1 p2 he (λ j h1 h2 _ prog w E Q hq=>?_) hu ?_
  ·obtain ⟨n,t1,e1,q1⟩:=get1 j h1
   obtain ⟨m,t2,e2,q2⟩:=get2 j h2
   rw [q1,q2]
   rw [e1,e2] at hq
   exact (PyProof.Rows.lt_int hq:wpAny (model prog w) A.in1 (compareOp .Lt (.int n t1) (.int m t2)) Q E s)
  ·rw [z1,z2,zvq (lt:=iLt) hd (λ j x y h1 h2 _=>by rw [h1,h2];rfl)]
   exact hq
 ·refine zam (e:=λ j=>decide ((sI a)[j]? = (sI b)[j]?)) (r:=λ j=>decide (((sI b)[j]?).getD 0≤((sI a)[j]?).getD 0)) p1 p2 he (λ j h1 h2 _ prog w E Q hq=>?_) hu ?_
  ·obtain ⟨n,t1,e1,q1⟩:=get1 j h1
   obtain ⟨m,t2,e2,q2⟩:=get2 j h2
   rw [q1,q2]
   rw [e1,e2] at hq
   exact (PyProof.Rows.ge_int hq:wpAny (model prog w) A.in1 (compareOp .GtE (.int n t1) (.int m t2)) Q E s)
  ·rw [z1,z2,zhr (lt:=iLt) hd (λ j x y h1 h2 _=>by
    rw [h1,h2]
    show decide (y≤x) = !decide (x<y)
    rw [← decide_not]
    exact decide_eq_decide.mpr (by omega))]
   exact hq
theorem zry (I:Inv X pins σ H s) {a b:List Stp} {x y:V} {u v:Value} (ha:DV X.K H (plc a) x) (hb:DV X.K H (plc b) y) (rx:RelV x u) (ry:RelV y v) (hu:A.units+100<cLine):zgf .Lt A s u v (pLt a b)∧zgf .GtE A s u v (!pLt a b):=by
 obtain ⟨p,xs,rfl,hp,hdp⟩:=ha
 obtain ⟨q,ys,rfl,hq,hdq⟩:=hb
 cases rx
 cases ry
 obtain ⟨its,r1,p1,_⟩:=I.tuple hp
 obtain ⟨its2,r2,p2,_⟩:=I.tuple hq
 have z1:its.toArray.size=a.length:=by rw [List.size_toArray,← r1.length,hdp.length,List.length_map]
 have z2:its2.toArray.size=b.length:=by rw [List.size_toArray,← r2.length,hdq.length,List.length_map]
 have get1:∀ j (h:j<its.toArray.size),∃ n t',a[j]? = some n∧its.toArray[j] = .ref t'∧SqT X.K H t' (sV n):=λ j h=>by
  have hj:j<a.length:=by omega
  obtain ⟨t',e1,h1⟩:=zfn hdp hj
  obtain ⟨x,hx,q⟩:=zmj r1 h
  rw [e1] at hx
  cases hx
  exact ⟨a[j],t',List.getElem?_eq_getElem hj,q,h1⟩
 have get2:∀ j (h:j<its2.toArray.size),∃ n t',b[j]? = some n∧its2.toArray[j] = .ref t'∧SqT X.K H t' (sV n):=λ j h=>by
  have hj:j<b.length:=by omega
  obtain ⟨t',e1,h1⟩:=zfn hdq hj
  obtain ⟨x,hx,q⟩:=zmj r2 h
  rw [e1] at hx
  cases hx
  exact ⟨b[j],t',List.getElem?_eq_getElem hj,q,h1⟩
 have he:∀ j (h1:j<its.toArray.size) (h2:j<its2.toArray.size),SeqAt.EqAt A.in1 s its.toArray[j] its2.toArray[j] (decide (a[j]? = b[j]?)):=λ j h1 h2=>by
  obtain ⟨n,t1,e1,q1,w1⟩:=get1 j h1
  obtain ⟨m,t2,e2,q2,w2⟩:=get2 j h2
  rw [q1,q2,e1,e2]
  obtain ⟨as,ra⟩:=DV.reads I (stp n) (.ref t1) (.ref t1) (zmt w1) rfl
  obtain ⟨bs,rb⟩:=DV.reads I (stp m) (.ref t2) (.ref t2) (zmt w2) rfl
  have:=SeqAt.eqAt_reads (stp n) (stp m) A.in1 s _ _ as bs ra rb rfl rfl (by
   show A.units+1+min 1 1<cLine
   omega)
  rw [zao] at this
  have e:decide (some n=some m)=decide (n=m):=decide_eq_decide.mpr (by simp)
  rw [e]
  exact this
 have hd:∀ (j:Nat) x y,a[j]? = some x→b[j]? = some y→decide (a[j]? = b[j]?)=decide (x=y):=λ j x y h1 h2=>by
  rw [h1,h2];exact decide_eq_decide.mpr (by simp)
 have hu1:A.in1.units<cLine:=by show A.units+1<cLine;omega
 refine ⟨λ prog w E Q hq=>?_,λ prog w E Q hq=>?_⟩
 ·refine zvk (e:=λ j=>decide (a[j]? = b[j]?)) (r:=λ j=>sLt ((a[j]?).getD (0,0,0)) ((b[j]?).getD (0,0,0))) p1 p2 he (λ j h1 h2 _ prog w E Q hq=>?_) (by omega) ?_
  ·obtain ⟨n,t1,e1,q1,w1⟩:=get1 j h1
   obtain ⟨m,t2,e2,q2,w2⟩:=get2 j h2
   rw [q1,q2]
   rw [e1,e2] at hq
   exact (ztq I w1 w2 hu1).1 prog w E Q hq
  ·rw [z1,z2,zvq (lt:=sLt) hd (λ j x y h1 h2 _=>by rw [h1,h2];rfl)]
   exact hq
 ·refine zam (e:=λ j=>decide (a[j]? = b[j]?)) (r:=λ j => !sLt ((a[j]?).getD (0,0,0)) ((b[j]?).getD (0,0,0))) p1 p2 he (λ j h1 h2 _ prog w E Q hq=>?_) (by omega) ?_
  ·obtain ⟨n,t1,e1,q1,w1⟩:=get1 j h1
   obtain ⟨m,t2,e2,q2,w2⟩:=get2 j h2
   rw [q1,q2]
   rw [e1,e2] at hq
   exact (ztq I w1 w2 hu1).2 prog w E Q hq
  ·rw [z1,z2,zhr (lt:=sLt) hd (λ j x y h1 h2 _=>by rw [h1,h2];rfl)]
   exact hq
end
section
variable {X:Cx} {K:W.Frag}
noncomputable def rGeP (K:W.Frag):R2:=λ x y H Q=>∃ a b,DV K H (plc a) x∧DV K H (plc b) y∧Q (.bl (!pLt a b)) H
theorem za0 (hu:X.A.units+100<cLine):OpR X (compareOp .GtE) (rGeP X.K):=by
 intro pins s σ H x y v u Q I rx ry h
 obtain ⟨a,b,ha,hb,q⟩:=h
 exact (zry I ha hb rx ry hu).2 _ _ _ _ ⟨.bl _,H,I,rfl,q⟩
end
theorem Room.u100 {k:Nat} {A:Around} (r:Room k A):A.units+100<cLine:=by have:=r.un;omega
end L2
namespace L2
open PySem PySem.Spec PyProof.Rows PySem.NumText
section
open PySem.SeqAt
open PySem.AutoSeq1 (wpAny_loadPart')
open PySem.MeetsSeq PySem.MeetsSeq2 PySem.MeetsSeq3
theorem zkk (l b:Addr) (items items2:Array Value) (n n2:Nat) (dd dd2:Option Addr) (sl sl2:Array (Option Value)) (e r:Nat→Bool) :
  Meets (Builtin.«tuple.__lt__» ⟨[.ref l,.ref b],[]⟩)
   (λ A R s=>s.heap.get? l=some { cls := .type "tuple",dict:=dd,data := .seq items n,slots:=sl }∧s.heap.get? b=some { cls := .type "tuple",dict:=dd2,data := .seq items2 n2,slots:=sl2 } ∧
    (∀ j (h1:j<items.size) (h2:j<items2.size),EqAt A.in1 s items[j] items2[j] (e j)) ∧
    (∀ j (h1:j<items.size) (h2:j<items2.size),(∀ i,i<j→e i=true)→e j=false→zgf .Lt A.in1 s items[j] items2[j] (r j)) ∧
    R (.ok (.ret (.bool (lexD e r (decide (items.size<items2.size)) (List.range (min items.size items2.size)))))) s) :=
 .of_wp λ prog w A R s h=>by
  obtain ⟨hp,g,d,tk,os⟩:=s;obtain ⟨hl,hb,he,hc,h⟩:=h
  have f2:=AutoSeq1.sub_tuple_tuple
  have hZ:(items.toList.zip items2.toList).length=min items.size items2.size:=by simp
  wp_walk using wpAny_loadPart' hl,wpAny_loadPart' hb,wpAny_forIn_list _ (λ rest b s'=>b.1=none∧s'=⟨hp,g,d,tk,os⟩∧∃ i,rest=(items.toList.zip items2.toList).drop i∧(∀ k,k<i→e k=true) ∧
   R (.ok (.ret (.bool (lexD e r (decide (items.size<items2.size)) ((List.range (min items.size items2.size)).drop i))))) ⟨hp,g,d,tk,os⟩) _
  case turn =>
   rintro ⟨y,x⟩ rest b s' ⟨hb',rfl,i,hz,hall,hR⟩
   have hlt:i<(items.toList.zip items2.toList).length:=by
    rcases Nat.lt_or_ge i (items.toList.zip items2.toList).length with h' | h'
    ·exact h'
    ·rw [List.drop_of_length_le h'] at hz;cases hz
   have hm:i<min items.size items2.size:=hZ ▸ hlt
   have h1:i<items.size:=Nat.lt_of_lt_of_le hm (Nat.min_le_left _ _)
   have h2:i<items2.size:=Nat.lt_of_lt_of_le hm (Nat.min_le_right _ _)
   rw [List.drop_eq_getElem_cons hlt] at hz
   injection hz with hyx hrest
   have hy:y=items[i]:=by have:=congrArg Prod.fst hyx;simpa using this
   have hx:x=items2[i]:=by have:=congrArg Prod.snd hyx;simpa using this
   subst hy hx
   have hd:(List.range (min items.size items2.size)).drop i=i::(List.range (min items.size items2.size)).drop (i+1):=by simp [List.drop_eq_getElem_cons,hm]
   rw [hd,lexD] at hR
   refine wpAny_bind (he i h1 h2 prog w _ _ ?_)
   cases hy:e i with
   | true =>
    rw [hy,if_pos rfl] at hR
    wp_walk
    exact ⟨rfl,rfl,i+1,hrest,λ k hk=>by
     rcases Nat.lt_or_ge k i with h' | h'
     ·exact hall k h'
     ·have:k=i:=by omega
      rw [this];exact hy,hR⟩
   | false =>
    rw [hy,if_neg Bool.false_ne_true] at hR
    have hri:=hc i h1 h2 hall hy prog w
    wp_walk using hri
    exact ⟨_,rfl,by simpa using hR⟩
  case fin =>
   rintro ⟨b1,b2⟩ s' ⟨hb',rfl,i,hz,hall,hR⟩
   simp only at hb'
   subst hb'
   have hge:min items.size items2.size≤i:=by
    rw [← hZ]
    rcases Nat.lt_or_ge i (items.toList.zip items2.toList).length with h' | h'
    ·rw [List.drop_eq_getElem_cons h'] at hz;cases hz
    ·exact h'
   rw [List.drop_of_length_le (by simpa using hge),lexD] at hR
   wp_walk
   exact ⟨_,rfl,by simpa [Builtin.Tuple.tupleCompareSizes] using hR⟩
  case h =>
   exact ⟨rfl,rfl,0,rfl,λ k hk=>absurd hk (Nat.not_lt_zero _),h⟩
theorem zfq {prog:Program} {w:World} {A:Around} {E:Value→Shared→Prop} {s:Shared} {l b:Addr} {items items2:Array Value} {e r:Nat→Bool} {Q:Value→Shared→Prop} (hl:IsTup s.heap l items) (hb:IsTup s.heap b items2)
  (he:∀ j (h1:j<items.size) (h2:j<items2.size),EqAt A.in1 s items[j] items2[j] (e j)) (hc:∀ j (h1:j<items.size) (h2:j<items2.size),(∀ i,i<j→e i=true)→e j=false→zgf .Lt A.in1 s items[j] items2[j] (r j))
  (hu:A.units<cLine) (h:Q (.bool (lexD e r (decide (items.size<items2.size)) (List.range (min items.size items2.size)))) s):wpAny (model prog w) A (compareOp .Lt (.ref l) (.ref b)) Q E s:=by
 obtain ⟨⟨cls,dd,data,sl⟩,ho,hc1,n,hd⟩:=id hl
 obtain ⟨⟨cls2,dd2,data2,sl2⟩,ho2,hc2,n2,hd2⟩:=id hb
 simp only at hc1 hd hc2 hd2
 subst hc1 hd hc2 hd2
 refine richCompare_meets_room (op := .Lt) ⟨_,ho,rfl⟩ ⟨_,ho2,rfl⟩ PySem.F.slot_tuple_lt PySem.F.entry_tuple_lt (PySem.F.args_tuple_lt_2 _ _) (zkk l b items items2 n n2 dd dd2 sl sl2 e r) ⟨ho,ho2,he,hc,?_⟩ hu
 exact (show Value.bool _≠Value.notImplemented∧Q (.bool _) s from ⟨(λ x=>nomatch x),h⟩)
theorem zhk (l b:Addr) (items items2:Array Value) (n n2:Nat) (dd dd2:Option Addr) (sl sl2:Array (Option Value)) (e r:Nat→Bool) :
  Meets (Builtin.«tuple.__ge__» ⟨[.ref l,.ref b],[]⟩)
   (λ A R s=>s.heap.get? l=some { cls := .type "tuple",dict:=dd,data := .seq items n,slots:=sl }∧s.heap.get? b=some { cls := .type "tuple",dict:=dd2,data := .seq items2 n2,slots:=sl2 } ∧
    (∀ j (h1:j<items.size) (h2:j<items2.size),EqAt A.in1 s items[j] items2[j] (e j)) ∧
    (∀ j (h1:j<items.size) (h2:j<items2.size),(∀ i,i<j→e i=true)→e j=false→zgf .GtE A.in1 s items[j] items2[j] (r j)) ∧
    R (.ok (.ret (.bool (lexD e r (decide (items2.size≤items.size)) (List.range (min items.size items2.size)))))) s) :=
 .of_wp λ prog w A R s h=>by
  obtain ⟨hp,g,d,tk,os⟩:=s;obtain ⟨hl,hb,he,hc,h⟩:=h
  have f2:=AutoSeq1.sub_tuple_tuple
  have hZ:(items.toList.zip items2.toList).length=min items.size items2.size:=by simp
  wp_walk using wpAny_loadPart' hl,wpAny_loadPart' hb,wpAny_forIn_list _ (λ rest b s'=>b.1=none∧s'=⟨hp,g,d,tk,os⟩∧∃ i,rest=(items.toList.zip items2.toList).drop i∧(∀ k,k<i→e k=true) ∧
   R (.ok (.ret (.bool (lexD e r (decide (items2.size≤items.size)) ((List.range (min items.size items2.size)).drop i))))) ⟨hp,g,d,tk,os⟩) _
  case turn =>
   rintro ⟨y,x⟩ rest b s' ⟨hb',rfl,i,hz,hall,hR⟩
   have hlt:i<(items.toList.zip items2.toList).length:=by
    rcases Nat.lt_or_ge i (items.toList.zip items2.toList).length with h' | h'
    ·exact h'
    ·rw [List.drop_of_length_le h'] at hz;cases hz
   have hm:i<min items.size items2.size:=hZ ▸ hlt
   have h1:i<items.size:=Nat.lt_of_lt_of_le hm (Nat.min_le_left _ _)
   have h2:i<items2.size:=Nat.lt_of_lt_of_le hm (Nat.min_le_right _ _)
   rw [List.drop_eq_getElem_cons hlt] at hz
   injection hz with hyx hrest
   have hy:y=items[i]:=by have:=congrArg Prod.fst hyx;simpa using this
   have hx:x=items2[i]:=by have:=congrArg Prod.snd hyx;simpa using this
   subst hy hx
   have hd:(List.range (min items.size items2.size)).drop i=i::(List.range (min items.size items2.size)).drop (i+1):=by simp [List.drop_eq_getElem_cons,hm]
   rw [hd,lexD] at hR
   refine wpAny_bind (he i h1 h2 prog w _ _ ?_)
   cases hy:e i with
   | true =>
    rw [hy,if_pos rfl] at hR
    wp_walk
    exact ⟨rfl,rfl,i+1,hrest,λ k hk=>by
     rcases Nat.lt_or_ge k i with h' | h'
     ·exact hall k h'
     ·have:k=i:=by omega
      rw [this];exact hy,hR⟩
   | false =>
    rw [hy,if_neg Bool.false_ne_true] at hR
    have hri:=hc i h1 h2 hall hy prog w
    wp_walk using hri
    exact ⟨_,rfl,by simpa using hR⟩
  case fin =>
   rintro ⟨b1,b2⟩ s' ⟨hb',rfl,i,hz,hall,hR⟩
   simp only at hb'
   subst hb'
   have hge:min items.size items2.size≤i:=by
    rw [← hZ]
    rcases Nat.lt_or_ge i (items.toList.zip items2.toList).length with h' | h'
    ·rw [List.drop_eq_getElem_cons h'] at hz;cases hz
    ·exact h'
   rw [List.drop_of_length_le (by simpa using hge),lexD] at hR
   wp_walk
   exact ⟨_,rfl,by simpa [Builtin.Tuple.tupleCompareSizes] using hR⟩
  case h =>
   exact ⟨rfl,rfl,0,rfl,λ k hk=>absurd hk (Nat.not_lt_zero _),h⟩
theorem zqo {prog:Program} {w:World} {A:Around} {E:Value→Shared→Prop} {s:Shared} {l b:Addr} {items items2:Array Value} {e r:Nat→Bool} {Q:Value→Shared→Prop} (hl:IsTup s.heap l items) (hb:IsTup s.heap b items2)
  (he:∀ j (h1:j<items.size) (h2:j<items2.size),EqAt A.in1 s items[j] items2[j] (e j)) (hc:∀ j (h1:j<items.size) (h2:j<items2.size),(∀ i,i<j→e i=true)→e j=false→zgf .GtE A.in1 s items[j] items2[j] (r j))
  (hu:A.units<cLine) (h:Q (.bool (lexD e r (decide (items2.size≤items.size)) (List.range (min items.size items2.size)))) s):wpAny (model prog w) A (compareOp .GtE (.ref l) (.ref b)) Q E s:=by
 obtain ⟨⟨cls,dd,data,sl⟩,ho,hc1,n,hd⟩:=id hl
 obtain ⟨⟨cls2,dd2,data2,sl2⟩,ho2,hc2,n2,hd2⟩:=id hb
 simp only at hc1 hd hc2 hd2
 subst hc1 hd hc2 hd2
 refine richCompare_meets_room (op := .GtE) ⟨_,ho,rfl⟩ ⟨_,ho2,rfl⟩ PySem.F.slot_tuple_ge PySem.F.entry_tuple_ge (PySem.F.args_tuple_ge_2 _ _) (zhk l b items items2 n n2 dd dd2 sl sl2 e r) ⟨ho,ho2,he,hc,?_⟩ hu
 exact (show Value.bool _≠Value.notImplemented∧Q (.bool _) s from ⟨(λ x=>nomatch x),h⟩)
theorem zik (l b:Addr) (items items2:Array Value) (n n2:Nat) (dd dd2:Option Addr) (sl sl2:Array (Option Value)) (e r:Nat→Bool) :
  Meets (Builtin.«tuple.__gt__» ⟨[.ref l,.ref b],[]⟩)
   (λ A R s=>s.heap.get? l=some { cls := .type "tuple",dict:=dd,data := .seq items n,slots:=sl }∧s.heap.get? b=some { cls := .type "tuple",dict:=dd2,data := .seq items2 n2,slots:=sl2 } ∧
    (∀ j (h1:j<items.size) (h2:j<items2.size),EqAt A.in1 s items[j] items2[j] (e j)) ∧
    (∀ j (h1:j<items.size) (h2:j<items2.size),(∀ i,i<j→e i=true)→e j=false→zgf .Gt A.in1 s items[j] items2[j] (r j)) ∧
    R (.ok (.ret (.bool (lexD e r (decide (items2.size<items.size)) (List.range (min items.size items2.size)))))) s) :=
 .of_wp λ prog w A R s h=>by
  obtain ⟨hp,g,d,tk,os⟩:=s;obtain ⟨hl,hb,he,hc,h⟩:=h
  have f2:=AutoSeq1.sub_tuple_tuple
  have hZ:(items.toList.zip items2.toList).length=min items.size items2.size:=by simp
  wp_walk using wpAny_loadPart' hl,wpAny_loadPart' hb,wpAny_forIn_list _ (λ rest b s'=>b.1=none∧s'=⟨hp,g,d,tk,os⟩∧∃ i,rest=(items.toList.zip items2.toList).drop i∧(∀ k,k<i→e k=true) ∧
   R (.ok (.ret (.bool (lexD e r (decide (items2.size<items.size)) ((List.range (min items.size items2.size)).drop i))))) ⟨hp,g,d,tk,os⟩) _
  case turn =>
   rintro ⟨y,x⟩ rest b s' ⟨hb',rfl,i,hz,hall,hR⟩
   have hlt:i<(items.toList.zip items2.toList).length:=by
    rcases Nat.lt_or_ge i (items.toList.zip items2.toList).length with h' | h'
    ·exact h'
    ·rw [List.drop_of_length_le h'] at hz;cases hz
   have hm:i<min items.size items2.size:=hZ ▸ hlt
   have h1:i<items.size:=Nat.lt_of_lt_of_le hm (Nat.min_le_left _ _)
   have h2:i<items2.size:=Nat.lt_of_lt_of_le hm (Nat.min_le_right _ _)
   rw [List.drop_eq_getElem_cons hlt] at hz
   injection hz with hyx hrest
   have hy:y=items[i]:=by have:=congrArg Prod.fst hyx;simpa using this
   have hx:x=items2[i]:=by have:=congrArg Prod.snd hyx;simpa using this
   subst hy hx
   have hd:(List.range (min items.size items2.size)).drop i=i::(List.range (min items.size items2.size)).drop (i+1):=by simp [List.drop_eq_getElem_cons,hm]
   rw [hd,lexD] at hR
   refine wpAny_bind (he i h1 h2 prog w _ _ ?_)
   cases hy:e i with
   | true =>
    rw [hy,if_pos rfl] at hR
    wp_walk
    exact ⟨rfl,rfl,i+1,hrest,λ k hk=>by
     rcases Nat.lt_or_ge k i with h' | h'
     ·exact hall k h'
     ·have:k=i:=by omega
      rw [this];exact hy,hR⟩
   | false =>
    rw [hy,if_neg Bool.false_ne_true] at hR
    have hri:=hc i h1 h2 hall hy prog w
    wp_walk using hri
    exact ⟨_,rfl,by simpa using hR⟩
  case fin =>
   rintro ⟨b1,b2⟩ s' ⟨hb',rfl,i,hz,hall,hR⟩
   simp only at hb'
   subst hb'
   have hge:min items.size items2.size≤i:=by
    rw [← hZ]
    rcases Nat.lt_or_ge i (items.toList.zip items2.toList).length with h' | h'
    ·rw [List.drop_eq_getElem_cons h'] at hz;cases hz
    ·exact h'
   rw [List.drop_of_length_le (by simpa using hge),lexD] at hR
   wp_walk
   exact ⟨_,rfl,by simpa [Builtin.Tuple.tupleCompareSizes] using hR⟩
  case h =>
   exact ⟨rfl,rfl,0,rfl,λ k hk=>absurd hk (Nat.not_lt_zero _),h⟩
theorem zdq {prog:Program} {w:World} {A:Around} {E:Value→Shared→Prop} {s:Shared} {l b:Addr} {items items2:Array Value} {e r:Nat→Bool} {Q:Value→Shared→Prop} (hl:IsTup s.heap l items) (hb:IsTup s.heap b items2)
  (he:∀ j (h1:j<items.size) (h2:j<items2.size),EqAt A.in1 s items[j] items2[j] (e j)) (hc:∀ j (h1:j<items.size) (h2:j<items2.size),(∀ i,i<j→e i=true)→e j=false→zgf .Gt A.in1 s items[j] items2[j] (r j))
  (hu:A.units<cLine) (h:Q (.bool (lexD e r (decide (items2.size<items.size)) (List.range (min items.size items2.size)))) s):wpAny (model prog w) A (compareOp .Gt (.ref l) (.ref b)) Q E s:=by
 obtain ⟨⟨cls,dd,data,sl⟩,ho,hc1,n,hd⟩:=id hl
 obtain ⟨⟨cls2,dd2,data2,sl2⟩,ho2,hc2,n2,hd2⟩:=id hb
 simp only at hc1 hd hc2 hd2
 subst hc1 hd hc2 hd2
 refine richCompare_meets_room (op := .Gt) ⟨_,ho,rfl⟩ ⟨_,ho2,rfl⟩ PySem.F.slot_tuple_gt PySem.F.entry_tuple_gt (PySem.F.args_tuple_gt_2 _ _) (zik l b items items2 n n2 dd dd2 sl sl2 e r) ⟨ho,ho2,he,hc,?_⟩ hu
 exact (show Value.bool _≠Value.notImplemented∧Q (.bool _) s from ⟨(λ x=>nomatch x),h⟩)
end
mutual
noncomputable def ltD:PyData→PyData→Option Bool
 | .int a,.int b=>some (decide (a<b))
 | .str a,.str b=>some (decide (a.cps.toList<b.cps.toList))
 | .tuple xs,.tuple ys=>ltDs xs ys
 | _,_=>none
noncomputable def ltDs:List PyData→List PyData→Option Bool
 | [],[]=>some false
 | [],_::_=>some true
 | _::_,[]=>some false
 | x::xs,y::ys=>if PyData.eqv x y=true then ltDs xs ys else ltD x y
end
theorem zjj {e r:Nat→Bool}:∀ {xs ys:List PyData} {b:Bool},ltDs xs ys=some b→(∀ (j:Nat) x y,xs[j]? = some x→ys[j]? = some y→e j=PyData.eqv x y) →
  (∀ (j:Nat) x y c,xs[j]? = some x→ys[j]? = some y→(∀ i,i<j→e i=true)→e j=false→ltD x y=some c→r j=c) →
  lexD e r (decide (xs.length<ys.length)) (List.range (min xs.length ys.length))=b:=by
 intro xs
 induction xs generalizing e r with
 | nil =>
  intro ys b h _ _
  cases ys with
  | nil=>cases h;rfl
  | cons y ys=>cases h;rw [List.length_nil,Nat.zero_min];exact decide_eq_true (Nat.succ_pos _)
 | cons x xs ih =>
  intro ys b h he hr
  cases ys with
  | nil=>cases h;rw [List.length_nil,Nat.min_zero];exact decide_eq_false (Nat.not_lt_zero _)
  | cons y ys =>
   have h0:=he 0 x y rfl rfl
   rw [List.length_cons,List.length_cons,Nat.succ_min_succ,List.range_succ_eq_map,lexD]
   rw [ltDs] at h
   by_cases hxy:PyData.eqv x y=true
   ·rw [if_pos hxy] at h
    rw [if_pos (h0.trans hxy),zbg]
    have:=ih (ys:=ys) (e:=λ j=>e (j+1)) (r:=λ j=>r (j+1)) h (λ j a b h1 h2=>he (j+1) a b (by simpa using h1) (by simpa using h2))
     (λ j a b c h1 h2 h3 h4 h5=>hr (j+1) a b c (by simpa using h1) (by simpa using h2) (λ i hi=>by
      cases i with
      | zero=>exact h0.trans hxy
      | succ i=>exact h3 i (by omega)) h4 h5)
    rw [← this]
    congr 1
    exact decide_eq_decide.mpr (by omega)
   ·rw [if_neg hxy] at h
    have hf:e 0=false:=by rw [h0];simpa using hxy
    rw [if_neg (by rw [hf];exact Bool.false_ne_true)]
    exact hr 0 x y b rfl rfl (λ i hi=>absurd hi (Nat.not_lt_zero _)) hf h
theorem zdm {e r:Nat→Bool} {d:Bool}:∀ js:List Nat,lexD e (λ j => !r j) (!d) js = !lexD e r d js
 | []=>rfl
 | j::js=>by
  rw [lexD,lexD,zdm js]
  split <;> rfl
theorem zzb {h:Heap}:∀ {xs:List PyData} {vs:List Value} {as:List Addr} {j:Nat} {v:Value},ReadsAll h vs xs as→vs[j]? = some v→∃ d bs,xs[j]? = some d∧Reads h v d bs∧d∈xs
 | _,_,_,0,v,.cons (v:=u) (d:=d) r rr,e=>by
  have:u=v:=by simpa using e
  subst this
  exact ⟨_,_,rfl,r,List.mem_cons_self⟩
 | _,_,_,j+1,v,.cons r rr,e=>by
  obtain ⟨d,bs,h1,h2,h3⟩:=zzb rr (j:=j) (by simpa using e)
  exact ⟨d,bs,by simpa using h1,h2,List.mem_cons_of_mem _ h3⟩
theorem zab:∀ {xs:List PyData} {d:PyData},d∈xs→PyData.canLayAll0 xs=true→PyData.canLay0 d=true
 | x::xs,d,h,c=>by
  rw [PyData.canLayAll0,Bool.and_eq_true] at c
  rcases List.mem_cons.mp h with rfl | h
  ·exact c.1
  ·exact zab h c.2
theorem zoc:∀ {xs:List PyData} {d:PyData},d∈xs→PyData.depth d≤PyData.depthAll xs
 | x::xs,d,h=>by
  rw [PyData.depthAll]
  rcases List.mem_cons.mp h with rfl | h
  ·omega
  ·have:=zoc h
   omega
theorem zfh:∀ (n:Nat) (da db:PyData) (c:Bool) (A:Around) (s:Shared) (a b:Value) (as bs:List Addr),PyData.depth da≤n→Reads s.heap a da as→Reads s.heap b db bs→da.canLay0=true→db.canLay0=true→ltD da db=some c →
  A.units+n+2<cLine→zgf .Lt A s a b c∧zgf .GtE A s a b (!c):=by
 intro n
 induction n with
 | zero =>
  intro da db c A s a b as bs hd ra rb _ _ hc hu
  cases ra with
  | int i t =>
   cases rb with
   | int j u =>
    have hc:decide (i<j)=c:=by simpa [ltD] using hc
    subst hc
    refine ⟨λ prog w E Q hq=>(PyProof.Rows.lt_int hq:wpAny (model prog w) A (compareOp .Lt (.int i t) (.int j u)) Q E s),λ prog w E Q hq=>?_⟩
    have e:(!decide (i<j))=decide (j≤i):=by rw [← decide_not];exact decide_eq_decide.mpr (by omega)
    rw [e] at hq
    exact (PyProof.Rows.ge_int hq:wpAny (model prog w) A (compareOp .GtE (.int i t) (.int j u)) Q E s)
   | _=>simp [ltD] at hc
  | str x t =>
   cases rb with
   | str y u =>
    have hc:decide (x.cps.toList<y.cps.toList)=c:=by simpa [ltD] using hc
    subst hc
    exact ⟨λ prog w E Q hq=>(PyProof.Rows.lt_str hq:wpAny (model prog w) A (compareOp .Lt (.str x t) (.str y u)) Q E s),λ prog w E Q hq=>(PySem.P.ge_str hq:wpAny (model prog w) A (compareOp .GtE (.str x t) (.str y u)) Q E s)⟩
   | _=>simp [ltD] at hc
  | tuple h1 h2 h3 h4=>simp [PyData.depth] at hd
  | _=>simp [ltD] at hc
 | succ n ih =>
  intro da db c A s a b as bs hd ra rb la lb hc hu
  cases ra with
  | int i t =>
   cases rb with
   | int j u =>
    have hc:decide (i<j)=c:=by simpa [ltD] using hc
    subst hc
    refine ⟨λ prog w E Q hq=>(PyProof.Rows.lt_int hq:wpAny (model prog w) A (compareOp .Lt (.int i t) (.int j u)) Q E s),λ prog w E Q hq=>?_⟩
    have e:(!decide (i<j))=decide (j≤i):=by rw [← decide_not];exact decide_eq_decide.mpr (by omega)
    rw [e] at hq
    exact (PyProof.Rows.ge_int hq:wpAny (model prog w) A (compareOp .GtE (.int i t) (.int j u)) Q E s)
   | _=>simp [ltD] at hc
  | str x t =>
   cases rb with
   | str y u =>
    have hc:decide (x.cps.toList<y.cps.toList)=c:=by simpa [ltD] using hc
    subst hc
    exact ⟨λ prog w E Q hq=>(PyProof.Rows.lt_str hq:wpAny (model prog w) A (compareOp .Lt (.str x t) (.str y u)) Q E s),λ prog w E Q hq=>(PySem.P.ge_str hq:wpAny (model prog w) A (compareOp .GtE (.str x t) (.str y u)) Q E s)⟩
   | _=>simp [ltD] at hc
  | @tuple l o vs m xs as h1 h2 h3 h4 =>
   cases rb with
   | @tuple l2 o2 vs2 m2 ys bs g1 g2 g3 g4 =>
    have hc:ltDs xs ys=some c:=by simpa [ltD] using hc
    have z1:vs.size=xs.length:=by have:=SeqAt.ReadsAll.length _ _ _ h4;simpa using this
    have z2:vs2.size=ys.length:=by have:=SeqAt.ReadsAll.length _ _ _ g4;simpa using this
    have la':PyData.canLayAll0 xs=true:=la
    have lb':PyData.canLayAll0 ys=true:=lb
    have hd':PyData.depthAll xs≤n:=by have:PyData.depth (.tuple xs)=PyData.depthAll xs+1:=rfl;omega
    have at1:∀ j (h:j<vs.size),∃ d bs,xs[j]? = some d∧Reads s.heap vs[j] d bs∧d∈xs:=λ j h=>zzb h4 (by simp [h])
    have at2:∀ j (h:j<vs2.size),∃ d bs,ys[j]? = some d∧Reads s.heap vs2[j] d bs∧d∈ys:=λ j h=>zzb g4 (by simp [h])
    have he:∀ j (k1:j<vs.size) (k2:j<vs2.size),SeqAt.EqAt A.in1 s vs[j] vs2[j] (PyData.eqv ((xs[j]?).getD .none) ((ys[j]?).getD .none)):=λ j k1 k2=>by
     obtain ⟨d,b1,e1,r1,m1⟩:=at1 j k1
     obtain ⟨d2,b2,e2,r2,m2⟩:=at2 j k2
     rw [e1,e2]
     refine SeqAt.eqAt_reads d d2 A.in1 s _ _ b1 b2 r1 r2 (zab m1 la') (zab m2 lb') ?_
     have:=zoc m1
     have:min d.depth d2.depth≤d.depth:=Nat.min_le_left _ _
     show A.units+1+min d.depth d2.depth<cLine
     omega
    have hl:IsTup s.heap l vs:=⟨o,h1,h2,m,h3⟩
    have hr:IsTup s.heap l2 vs2:=⟨o2,g1,g2,m2,g3⟩
    have e0:∀ (j:Nat) x y,xs[j]? = some x→ys[j]? = some y→PyData.eqv ((xs[j]?).getD .none) ((ys[j]?).getD .none)=PyData.eqv x y:=λ j x y e1 e2=>by rw [e1,e2];rfl
    have lexlt:=zjj (e:=λ j=>PyData.eqv ((xs[j]?).getD .none) ((ys[j]?).getD .none)) (r:=λ j=>(ltD ((xs[j]?).getD .none) ((ys[j]?).getD .none)).getD false) hc e0 (λ j x y c' e1 e2 _ _ e3=>by rw [e1,e2];simp only [Option.getD_some];rw [e3];rfl)
    have ans:∀ (xs ys:List PyData) (c:Bool),ltDs xs ys=some c→∀ (j:Nat) x y,xs[j]? = some x→ys[j]? = some y→(∀ i x y,i<j→xs[i]? = some x→ys[i]? = some y→PyData.eqv x y=true)→PyData.eqv x y=false→∃ c',ltD x y=some c':=by
     intro xs
     induction xs with
     | nil=>intro ys c _ j x y e1;simp at e1
     | cons x0 xs ih2 =>
      intro ys c h j x y e1 e2 hall hne
      cases ys with
      | nil=>simp at e2
      | cons y0 ys =>
       rw [ltDs] at h
       cases j with
       | zero =>
        simp at e1 e2
        subst e1 e2
        rw [if_neg (by rw [hne];exact Bool.false_ne_true)] at h
        exact ⟨c,h⟩
       | succ j =>
        rw [if_pos (hall 0 x0 y0 (Nat.succ_pos _) rfl rfl)] at h
        exact ih2 ys c h j x y (by simpa using e1) (by simpa using e2) (λ i a b hi h1 h2=>hall (i+1) a b (by omega) (by simpa using h1) (by simpa using h2)) hne
    have hu1:A.in1.units+n+2<cLine:=by show A.units+1+n+2<cLine;omega
    have cmp:∀ j (k1:j<vs.size) (k2:j<vs2.size),(∀ i,i<j→PyData.eqv ((xs[i]?).getD .none) ((ys[i]?).getD .none)=true)→PyData.eqv ((xs[j]?).getD .none) ((ys[j]?).getD .none)=false →
      zgf .Lt A.in1 s vs[j] vs2[j] ((ltD ((xs[j]?).getD .none) ((ys[j]?).getD .none)).getD false)∧zgf .GtE A.in1 s vs[j] vs2[j] (!(ltD ((xs[j]?).getD .none) ((ys[j]?).getD .none)).getD false):=λ j k1 k2 hall hne=>by
     obtain ⟨d,b1,e1,r1,m1⟩:=at1 j k1
     obtain ⟨d2,b2,e2,r2,m2⟩:=at2 j k2
     rw [e1,e2] at hne ⊢
     obtain ⟨c',hc'⟩:=ans xs ys c hc j d d2 e1 e2 (λ i x y hi h1 h2=>by have:=hall i hi;rw [h1,h2] at this;exact this) hne
     simp only [Option.getD_some]
     rw [hc']
     exact ih d d2 c' A.in1 s _ _ b1 b2 (Nat.le_trans (zoc m1) hd') r1 r2 (zab m1 la') (zab m2 lb') hc' hu1
    refine ⟨λ prog w E Q hq=>?_,λ prog w E Q hq=>?_⟩
    ·refine (zfq hl hr he (λ j k1 k2 h3 h4=>(cmp j k1 k2 h3 h4).1) (by omega) ?_:wpAny (model prog w) A (compareOp .Lt (.ref l) (.ref l2)) Q E s)
     rw [z1,z2,lexlt]
     exact hq
    ·refine (zqo hl hr he (λ j k1 k2 h3 h4=>(cmp j k1 k2 h3 h4).2) (by omega) ?_:wpAny (model prog w) A (compareOp .GtE (.ref l) (.ref l2)) Q E s)
     have e:decide (vs2.size≤vs.size) = !decide (vs.size<vs2.size):=by rw [← decide_not];exact decide_eq_decide.mpr (by omega)
     rw [e,zdm,z1,z2,lexlt]
     exact hq
   | _=>simp [ltD] at hc
  | _=>simp [ltD] at hc
section
variable {X:Cx}
end
end L2
namespace L2
open PySem
noncomputable abbrev ST:=SetTable
end L2
namespace L2
open PySem
end L2
namespace L2
open PySem PySem.Spec PyProof.Rows PySem.NumText
mutual
noncomputable def zuv:PyData→Bool
 | .int _=>true
 | .tuple xs=>zsk xs
 | _=>false
noncomputable def zsk:List PyData→Bool
 | []=>true
 | x::xs=>zuv x && zsk xs
end
section
variable {prog:Program} {w:World}
end
end L2
namespace L2
open PySem PySem.Spec PyProof.Rows PySem.NumText
section
variable {prog:Program} {w:World}
end
end L2
namespace L2
open PySem PySem.Spec PyProof.Rows PySem.NumText
section
variable {prog:Program} {w:World} {A:Around} {E:Value→Shared→Prop} {s:Shared}
end
end L2
namespace L2
open PySem PySem.Spec PyProof.Rows PySem.NumText
section
variable {prog:Program} {w:World} {A:Around} {E:Value→Shared→Prop} {s:Shared}
end
end L2
namespace L2
open PySem PySem.Spec PyProof.Rows PySem.NumText
section
variable {prog:Program} {w:World} {A:Around} {R:Result→Shared→Prop} {I:Addr} {fp wr:List Addr} {G:Array GenState→Array GenState→Prop} {n:Nat} {P:Nat→Value→Prop} {St:Nat→Shared→Prop}
end
section
variable {prog:Program} {w:World} {A:Around} {E:Value→Shared→Prop} {s:Shared}
end
end L2
namespace L2
open PySem PySem.Spec PyProof.Rows PySem.NumText
section
variable {X:Cx}
end
end L2
namespace L2
open PySem PySem.Spec PyProof.Rows PySem.NumText
noncomputable def redH (i:Int):Int :=
 if (decide (-(2:Int) ^ 63≤i) && decide (i<2 ^ 63))=true then (if (i == -1)=true then -2 else i)
 else if ((if i<0 then -((i.natAbs:Int) % (2 ^ 61 - 1)) else (i.natAbs:Int) % (2 ^ 61 - 1)) == -1)=true then -2 else (if i<0 then -((i.natAbs:Int) % (2 ^ 61 - 1)) else (i.natAbs:Int) % (2 ^ 61 - 1))
mutual
noncomputable def zrf:PyData→Int
 | .int i=>hashInt i
 | .tuple xs=>redH (Builtin.Tuple.tupleHashOf (zvc xs))
 | _=>0
noncomputable def zvc:List PyData→List Int
 | []=>[]
 | x::xs=>zrf x::zvc xs
end
theorem zfd:∀ (xs ys:List PyData),zvc (xs++ys)=zvc xs++zvc ys
 | [],ys=>rfl
 | x::xs,ys=>by rw [List.cons_append,zvc,zvc,zfd xs ys,List.cons_append]
section
variable {prog:Program} {w:World}
theorem zas:∀ (n:Nat) (d:PyData) (A:Around) (E:Value→Shared→Prop) (s:Shared) (v:Value) (as:List Addr),d.depth≤n→Reads s.heap v d as→zuv d=true→A.units+n<cLine→∀ (Q:Int→Shared→Prop),(∀ tk,s.toks≤tk→Q (zrf d) { s with toks:=tk })→wpAny (model prog w) A (pyHash v) Q E s:=by
 intro n
 induction n with
 | zero =>
  intro d A E s v as hd r ho hu Q h
  cases r with
  | int i t=>exact (intKind prog w).pyHash (k:=i) (intKind_is _ _ _ _) (h _ (Nat.le_succ _))
  | tuple=>simp [PyData.depth] at hd
  | _=>simp [zuv] at ho
 | succ n ih =>
  intro d A E s v as hd r ho hu Q h
  cases r with
  | int i t=>exact (intKind prog w).pyHash (k:=i) (intKind_is _ _ _ _) (h _ (Nat.le_succ _))
  | @tuple a o vs m xs as h1 h2 h3 h4 =>
   have hT:s.TypeIs (.ref a) "tuple" := ⟨o,h1,h2⟩
   have hdx:PyData.depthAll xs≤n:=by have:PyData.depth (.tuple xs)=PyData.depthAll xs+1:=rfl;omega
   have hox:zsk xs=true:=ho
   unfold pyHash
   first | unfold pyHashByItsType | skip
   first | refine wpAny_bind (wpAny_cRoomFor_or (.inr (by omega)) ?_) | skip
   refine wpAny_bind (wpAny_specialOf hT F.slot_tuple_hash.lookup ?_)
   show wpAny _ _ (if (some (Value.builtin "tuple.__hash__") == some Value.none)=true then _ else _) Q E s
   rw [if_neg (by rw [beq_builtin_none];exact Bool.false_ne_true)]
   refine wpAny_bind (wpAny_specialOf hT F.slot_tuple_hash.lookup ?_)
   show wpAny _ _ (callSpecialIfBoundUnlessNone? (.ref a) "__hash__" _ >>= _) Q E s
   refine wpAny_bind (wpAny_callSpecialIfBoundUnlessNone?_slot hT F.slot_tuple_hash (wpAny_call_entry F.slot_tuple_hash hT F.entry_tuple_hash ?_ (F.args_tuple_hash_1 _)))
   show wpAny _ _ (Builtin.Tuple.tupleItemsOf (.ref a) >>= _) _ _ s
   refine wpAny_bind (wpAny_tupleItemsOf h1 h3 ?_)
   refine wpAny_bind ?_
   rw [← Array.forIn_toList]
   refine wpAny_forIn_list _ (λ rest (b:Array Int) s'=>∃ tk gone ds bs,s.toks≤tk∧s'={ s with toks:=tk }∧ReadsAll s.heap rest ds bs∧PyData.depthAll ds≤n∧zsk ds=true∧xs=gone++ds∧b.toList=zvc gone) _ ?_ ?_ _ _ ⟨s.toks,[],xs,as,Nat.le_refl _,rfl,h4,hdx,hox,rfl,rfl⟩
   ·rintro x rest b s' ⟨tk,gone,ds,bs,htk,rfl,hr,hd',ho',hx,hb⟩
    cases hr with
    | @cons _ _ d1 ds1 as1 bs1 r1 rr =>
     rw [PyData.depthAll] at hd'
     rw [zsk,Bool.and_eq_true] at ho'
     refine wpAny_bind (ih d1 _ _ { s with toks:=tk } x as1 (by omega) r1 ho'.1 (by show A.units+1+n<cLine;omega) _ λ tk' htk'=>?_)
     have e1:xs=(gone++[d1])++ds1:=by rw [hx,List.append_assoc];rfl
     have e2:(b.push (zrf d1)).toList=zvc (gone++[d1]):=by rw [Array.toList_push,hb,zfd];rfl
     first
      | exact wpAny_pure ⟨tk',_,ds1,bs1,Nat.le_trans htk htk',rfl,rr,by omega,ho'.2,e1,e2⟩
      | exact wpAny_bind (wpAny_pure (wpAny_pure ⟨tk',_,ds1,bs1,Nat.le_trans htk htk',rfl,rr,by omega,ho'.2,e1,e2⟩))
   ·rintro b s' ⟨tk,gone,ds,bs,htk,rfl,hr,hd',ho',hx,hb⟩
    cases hr
    rw [List.append_nil] at hx
    subst hx
    show wpAny _ _ (retInt (Builtin.Tuple.tupleHashOf b.toList)) _ _ _
    refine wpAny_ret_mkInt ?_
    rw [hb]
    have hq:∀ tk,s.toks≤tk→Q (redH (Builtin.Tuple.tupleHashOf (zvc xs))) { s with toks:=tk }:=h
    generalize Builtin.Tuple.tupleHashOf (zvc xs)=hv at hq ⊢
    show wpAny _ _ (if (decide (-(2:Int) ^ 63≤hv) && decide (hv<2 ^ 63))=true then _ else _) Q E _
    unfold redH at hq
    by_cases hr:(decide (-(2:Int) ^ 63≤hv) && decide (hv<2 ^ 63))=true
    ·rw [if_pos hr] at hq ⊢
     exact wpAny_pure (hq _ (Nat.le_succ_of_le htk))
    ·rw [if_neg hr] at hq ⊢
     exact wpAny_bind (wpAny_rule (wpAny_pure (hq _ (Nat.le_succ_of_le htk))))
  | _=>simp [zuv] at ho
end
end L2
namespace L2
open PySem PySem.Spec PyProof.Rows PySem.NumText
mutual
theorem zwn:∀ a b:PyData,PyData.eqv a b=PyData.eqv b a
 | .list xs,.list ys=>by rw [PyData.eqv,PyData.eqv];exact zzc xs ys
 | .tuple xs,.tuple ys=>by rw [PyData.eqv,PyData.eqv];exact zzc xs ys
 | .bool a,.bool b=>by rw [PyData.eqv,PyData.eqv];exact Bool.beq_comm
 | .bool a,.int j=>by rw [PyData.eqv,PyData.eqv];exact Bool.beq_comm
 | .int i,.bool b=>by rw [PyData.eqv,PyData.eqv];exact Bool.beq_comm
 | .int i,.int j=>by rw [PyData.eqv,PyData.eqv];exact Bool.beq_comm
 | .str x,.str y=>by rw [PyData.eqv,PyData.eqv];exact Bool.beq_comm
 | .dict _,.dict _=>by rw [PyData.eqv,PyData.eqv]
 | .none,b=>by cases b <;> simp [PyData.eqv]
 | .bool _,.none | .bool _,.str _ | .bool _,.list _ | .bool _,.tuple _ | .bool _,.dict _=>by simp [PyData.eqv]
 | .int _,.none | .int _,.str _ | .int _,.list _ | .int _,.tuple _ | .int _,.dict _=>by simp [PyData.eqv]
 | .str _,.none | .str _,.bool _ | .str _,.int _ | .str _,.list _ | .str _,.tuple _ | .str _,.dict _=>by simp [PyData.eqv]
 | .list _,.none | .list _,.bool _ | .list _,.int _ | .list _,.str _ | .list _,.tuple _ | .list _,.dict _=>by simp [PyData.eqv]
 | .tuple _,.none | .tuple _,.bool _ | .tuple _,.int _ | .tuple _,.str _ | .tuple _,.list _ | .tuple _,.dict _=>by simp [PyData.eqv]
 | .dict _,.none | .dict _,.bool _ | .dict _,.int _ | .dict _,.str _ | .dict _,.list _ | .dict _,.tuple _=>by simp [PyData.eqv]
theorem zzc:∀ a b:List PyData,PyData.eqvAll a b=PyData.eqvAll b a
 | [],[]=>rfl
 | [],_::_=>by simp [PyData.eqvAll]
 | _::_,[]=>by simp [PyData.eqvAll]
 | x::xs,y::ys=>by rw [PyData.eqvAll,PyData.eqvAll,zwn x y,zzc xs ys]
end
theorem zet:∀ (xs ys:List PyData) (c:Bool),ltDs xs ys=some c→∀ (j:Nat) x y,xs[j]? = some x→ys[j]? = some y→(∀ i x y,i<j→xs[i]? = some x→ys[i]? = some y→PyData.eqv x y=true)→PyData.eqv x y=false→∃ c',ltD x y=some c':=by
 intro xs
 induction xs with
 | nil=>intro ys c _ j x y e1;simp at e1
 | cons x0 xs ih2 =>
  intro ys c h j x y e1 e2 hall hne
  cases ys with
  | nil=>simp at e2
  | cons y0 ys =>
   rw [ltDs] at h
   cases j with
   | zero =>
    simp at e1 e2
    subst e1 e2
    rw [if_neg (by rw [hne];exact Bool.false_ne_true)] at h
    exact ⟨c,h⟩
   | succ j =>
    rw [if_pos (hall 0 x0 y0 (Nat.succ_pos _) rfl rfl)] at h
    exact ih2 ys c h j x y (by simpa using e1) (by simpa using e2) (λ i a b hi h1 h2=>hall (i+1) a b (by omega) (by simpa using h1) (by simpa using h2)) hne
theorem ztl:∀ (n:Nat) (da db:PyData) (c:Bool) (A:Around) (s:Shared) (a b:Value) (as bs:List Addr),PyData.depth da≤n→Reads s.heap a da as→Reads s.heap b db bs→da.canLay0=true→db.canLay0=true→ltD db da=some c →
  A.units+n+2<cLine→zgf .Gt A s a b c:=by
 intro n
 induction n with
 | zero =>
  intro da db c A s a b as bs hd ra rb _ _ hc hu
  cases ra with
  | int i t =>
   cases rb with
   | int j u =>
    have hc:decide (j<i)=c:=by simpa [ltD] using hc
    subst hc
    exact λ prog w E Q hq=>(PyProof.Rows.gt_int hq:wpAny (model prog w) A (compareOp .Gt (.int i t) (.int j u)) Q E s)
   | _=>simp [ltD] at hc
  | str x t =>
   cases rb with
   | str y u =>
    have hc:decide (y.cps.toList<x.cps.toList)=c:=by simpa [ltD] using hc
    subst hc
    exact λ prog w E Q hq=>(PySem.P.gt_str hq:wpAny (model prog w) A (compareOp .Gt (.str x t) (.str y u)) Q E s)
   | _=>simp [ltD] at hc
  | tuple h1 h2 h3 h4=>simp [PyData.depth] at hd
  | _=>cases rb <;> simp [ltD] at hc
 | succ n ih =>
  intro da db c A s a b as bs hd ra rb la lb hc hu
  cases ra with
  | int i t =>
   cases rb with
   | int j u =>
    have hc:decide (j<i)=c:=by simpa [ltD] using hc
    subst hc
    exact λ prog w E Q hq=>(PyProof.Rows.gt_int hq:wpAny (model prog w) A (compareOp .Gt (.int i t) (.int j u)) Q E s)
   | _=>simp [ltD] at hc
  | str x t =>
   cases rb with
   | str y u =>
    have hc:decide (y.cps.toList<x.cps.toList)=c:=by simpa [ltD] using hc
    subst hc
    exact λ prog w E Q hq=>(PySem.P.gt_str hq:wpAny (model prog w) A (compareOp .Gt (.str x t) (.str y u)) Q E s)
   | _=>simp [ltD] at hc
  | @tuple l o vs m xs as h1 h2 h3 h4 =>
   cases rb with
   | @tuple l2 o2 vs2 m2 ys bs g1 g2 g3 g4 =>
    have hc:ltDs ys xs=some c:=by simpa [ltD] using hc
    have z1:vs.size=xs.length:=by have:=SeqAt.ReadsAll.length _ _ _ h4;simpa using this
    have z2:vs2.size=ys.length:=by have:=SeqAt.ReadsAll.length _ _ _ g4;simpa using this
    have la':PyData.canLayAll0 xs=true:=la
    have lb':PyData.canLayAll0 ys=true:=lb
    have hd':PyData.depthAll xs≤n:=by have:PyData.depth (.tuple xs)=PyData.depthAll xs+1:=rfl;omega
    have at1:∀ j (h:j<vs.size),∃ d bs,xs[j]? = some d∧Reads s.heap vs[j] d bs∧d∈xs:=λ j h=>zzb h4 (by simp [h])
    have at2:∀ j (h:j<vs2.size),∃ d bs,ys[j]? = some d∧Reads s.heap vs2[j] d bs∧d∈ys:=λ j h=>zzb g4 (by simp [h])
    have he:∀ j (k1:j<vs.size) (k2:j<vs2.size),SeqAt.EqAt A.in1 s vs[j] vs2[j] (PyData.eqv ((ys[j]?).getD .none) ((xs[j]?).getD .none)):=λ j k1 k2=>by
     obtain ⟨d,b1,e1,r1,m1⟩:=at1 j k1
     obtain ⟨d2,b2,e2,r2,m2⟩:=at2 j k2
     rw [e1,e2,zwn]
     refine SeqAt.eqAt_reads d d2 A.in1 s _ _ b1 b2 r1 r2 (zab m1 la') (zab m2 lb') ?_
     have:=zoc m1
     have:min d.depth d2.depth≤d.depth:=Nat.min_le_left _ _
     show A.units+1+min d.depth d2.depth<cLine
     omega
    have hl:IsTup s.heap l vs:=⟨o,h1,h2,m,h3⟩
    have hr:IsTup s.heap l2 vs2:=⟨o2,g1,g2,m2,g3⟩
    have e0:∀ (j:Nat) x y,ys[j]? = some x→xs[j]? = some y→PyData.eqv ((ys[j]?).getD .none) ((xs[j]?).getD .none)=PyData.eqv x y:=λ j x y e1 e2=>by rw [e1,e2];rfl
    have lexlt:=zjj (e:=λ j=>PyData.eqv ((ys[j]?).getD .none) ((xs[j]?).getD .none)) (r:=λ j=>(ltD ((ys[j]?).getD .none) ((xs[j]?).getD .none)).getD false) hc e0 (λ j x y c' e1 e2 _ _ e3=>by rw [e1,e2];simp only [Option.getD_some];rw [e3];rfl)
    have hu1:A.in1.units+n+2<cLine:=by show A.units+1+n+2<cLine;omega
    have cmp:∀ j (k1:j<vs.size) (k2:j<vs2.size),(∀ i,i<j→PyData.eqv ((ys[i]?).getD .none) ((xs[i]?).getD .none)=true)→PyData.eqv ((ys[j]?).getD .none) ((xs[j]?).getD .none)=false →
      zgf .Gt A.in1 s vs[j] vs2[j] ((ltD ((ys[j]?).getD .none) ((xs[j]?).getD .none)).getD false):=λ j k1 k2 hall hne=>by
     obtain ⟨d,b1,e1,r1,m1⟩:=at1 j k1
     obtain ⟨d2,b2,e2,r2,m2⟩:=at2 j k2
     rw [e1,e2] at hne ⊢
     obtain ⟨c',hc'⟩:=zet ys xs c hc j d2 d e2 e1 (λ i x y hi h1 h2=>by have:=hall i hi;rw [h1,h2] at this;exact this) hne
     simp only [Option.getD_some]
     rw [hc']
     exact ih d d2 c' A.in1 s _ _ b1 b2 (Nat.le_trans (zoc m1) hd') r1 r2 (zab m1 la') (zab m2 lb') hc' hu1
    intro prog w E Q hq
    refine (zdq hl hr he (λ j k1 k2 h3 h4=>cmp j k1 k2 h3 h4) (by omega) ?_:wpAny (model prog w) A (compareOp .Gt (.ref l) (.ref l2)) Q E s)
    rw [z1,z2,Nat.min_comm,lexlt]
    exact hq
   | _=>simp [ltD] at hc
  | _=>cases rb <;> simp [ltD] at hc
section
variable {X:Cx}
noncomputable def rGtG (K:W.Frag):R2:=λ x y H Q=>∃ d e c,DV K H d x∧DV K H e y∧SeqAt.shaped d=true∧SeqAt.shaped e=true∧ltD e d=some c∧Q (.bl c) H
theorem zy5 (hu:X.A.units+100<cLine):OpR X (compareOp .Gt) (rGtG X.K):=by
 intro pins s σ H x y v u Q I rx ry h
 obtain ⟨d,e,c,hd,he,sd,se,hc,q⟩:=h
 obtain ⟨as,ra⟩:=DV.reads I d x v hd rx
 obtain ⟨bs,rb⟩:=DV.reads I e y u he ry
 exact ztl 64 d e c X.A s v u as bs (SeqAt.depth_of_shaped sd) ra rb (SeqAt.canLay_of_shaped sd) (SeqAt.canLay_of_shaped se) hc (by omega) _ _ _ _ ⟨.bl _,H,I,rfl,q⟩
end
noncomputable abbrev Ext (h h':Heap):Prop:=∀ b o,h.get? b=some o→h'.get? b=some o
noncomputable def zcz (prog:Program) (w:World) (A:Around) (op:CmpOp) (h0:Heap) (P:Nat→Value→Prop) (bt:Nat→Nat→Bool):Prop :=
 ∀ (i j:Nat) (x y:Value) (s:Shared) (Q E:Value→Shared→Prop),j<i→Ext h0 s.heap→P i x→P j y→Q (.bool (bt i j)) s→wpAny (model prog w) A (richCompare op x y) Q E s
theorem zqg (bt:Nat→Nat→Bool):∀ k,argBest bt k≤k
 | 0=>Nat.le_refl _
 | k+1=>by have:=zqg bt k;rw [argBest];split <;> omega
section
variable {prog:Program} {w:World} {A:Around} {R:Result→Shared→Prop} {I:Addr} {fp wr:List Addr} {n:Nat} {P:Nat→Value→Prop} {St:Nat→Heap→Prop} {h0:Heap} {kw:List (Str×Value)}
theorem zx0 (W:Walks prog w A.in1 I fp wr n P St) (bt:Nat→Nat→Bool) (cmp:zcz prog w A.in1 .Lt h0 P bt) (S:Addr) (S1:S∉fp) (N1:∀ b∈wr,h0.get? b=none) (N2:h0.get? S=none)
  (k:Nat):∀ (j:Nat) (s:Shared) (best:Value) (c:Nat),n - (j+1)=k→j+1≤n→St (j+1) s.heap→P (argBest bt j) best→Ext h0 s.heap →
   s.heap.get? S=some { cls := .type "list",dict:=none,data := .seq #[best,best] c,slots := #[] } →
   (∀ v h' tk,P (argBest bt (n - 1)) v→Ext h0 h'→R (.ok (.ret v)) { s with heap:=h',toks:=tk }) →
   codeAny (model prog w) A (.builtin "min.loop" ⟨[.ref I,.none,.ref S],kw⟩) R s:=by
 have S2:S∉wr:=λ z=>S1 (W.sub _ z)
 have nm:(toString "min" ++ toString ".loop" : String) = "min.loop" := by decide
 have keep:∀ {h h':Heap},Ext h0 h→(∀ b o,b∉wr→h.get? b=some o→h'.get? b=some o)→Ext h0 h':=fun {h h'} e1 e2 b o e=>e2 b o (λ z=>by rw [N1 b z] at e;cases e) (e1 b o e)
 have keepS:∀ {h:Heap} {f:Obj→Obj},Ext h0 h→Ext h0 (h.update S f):=fun {h f} e1 b o e=>(Heap.get?_update_other _ _ (λ z:S=b=>by rw [← z,N2] at e;cases e)).trans (e1 b o e)
 induction k with
 | zero =>
  intro j s best c hk hj st hP ex hS fin
  have jn:j+1=n:=by omega
  refine codeAny_builtin F.entry_min_loop ?_
  rw [Around.under_plainId F.plain_min_loop _]
  show wpAny _ A.in1 (seqItems? (.ref S) >>= _) _ _ s
  refine wpAny_bind (wpAny_seqItems hS rfl ?_)
  show wpAny _ A.in1 (tryCatch (pyNext (.ref I)) _ >>= _) _ _ s
  refine wpAny_bind (wpAny_tryCatch (W.done s _ _ (jn ▸ st) λ h' tk kp=>?_))
  have hS':=kp S _ S2 hS
  show wpAny _ A.in1 (updateSeq S (λ _ => #[]) >>= _) _ _ _
  refine wpAny_bind (wpAny_updateSeq hS' rfl (wpAny_bind (wpAny_letGo (wpAny_pure ?_))))
  exact fin best _ tk (by rw [← jn];exact hP) (keepS (keep ex kp))
 | succ k ih =>
  intro j s best c hk hj st hP ex hS fin
  have jl:j+1<n:=by omega
  refine codeAny_builtin F.entry_min_loop ?_
  rw [Around.under_plainId F.plain_min_loop _]
  show wpAny _ A.in1 (seqItems? (.ref S) >>= _) _ _ s
  refine wpAny_bind (wpAny_seqItems hS rfl ?_)
  show wpAny _ A.in1 (tryCatch (pyNext (.ref I)) _ >>= _) _ _ s
  refine wpAny_bind (wpAny_tryCatch (W.item (j+1) s _ _ jl st λ v h' tk pv st' kp=>?_))
  have hS':=kp S _ S2 hS
  have ex':=keep ex kp
  show wpAny _ A.in1 (tryCatch (holding [v,v] (richCompare .Lt v best >>= _)) _ >>= _) _ _ _
  refine wpAny_bind (wpAny_tryCatch (wpAny_holding (wpAny_bind (cmp (j+1) (argBest bt j) v best _ _ _ (Nat.lt_succ_of_le (zqg bt j)) ex' pv hP ?_))))
  refine wpAny_bind (wpAny_holding (wpAny_truthy_bool (wpAny_bind (wpAny_letGo (wpAny_pure ?_)))))
  cases hb:bt (j+1) (argBest bt j) with
  | true =>
   simp only [if_true]
   refine wpAny_bind (wpAny_updateSeq hS' rfl (wpAny_bind (wpAny_letGo ?_)))
   rw [nm]
   have st2:=W.frame _ _ (h'.update S (Obj.mapSeq λ _ => #[v,v])) st' λ b bf o e=>(Heap.get?_update_other _ _ (λ z:S=b=>S1 (by rw [z];exact bf))).trans e
   exact wpAny_pure ⟨plainId_quiet F.plain_min_loop _,ih (j+1) _ v _ (by omega) jl st2 (by simp only [argBest,hb,if_true];exact pv) (keepS ex') (Heap.get?_update_self _ hS' rfl) λ v' h2 tk2 p2 e2=>fin v' h2 tk2 p2 e2⟩
  | false =>
   simp only [Bool.false_eq_true,if_false]
   refine wpAny_bind (wpAny_letGo ?_)
   rw [nm]
   exact wpAny_pure ⟨plainId_quiet F.plain_min_loop _,ih (j+1) _ best c (by omega) jl st' (by simp only [argBest,hb,Bool.false_eq_true,if_false];exact hP) ex' hS' λ v' h2 tk2 p2 e2=>fin v' h2 tk2 p2 e2⟩
theorem znt (W:Walks prog w A.in1 I fp wr n P St) (bt:Nat→Nat→Bool) (cmp:zcz prog w A.in1 .Lt h0 P bt) (S:Addr) (S1:S∉fp) (N1:∀ b∈wr,h0.get? b=none) (N2:h0.get? S=none) (n0:0<n)
  {s:Shared} {c:Nat} (st:St 0 s.heap) (ex:Ext h0 s.heap) (hS:s.heap.get? S=some { cls := .type "list",dict:=none,data := .seq #[] c,slots := #[] })
  (fin:∀ v h' tk,P (argBest bt (n - 1)) v→Ext h0 h'→R (.ok (.ret v)) { s with heap:=h',toks:=tk }) :
  codeAny (model prog w) A (.builtin "min.loop" ⟨[.ref I,.none,.ref S],kw⟩) R s:=by
 have S2:S∉wr:=λ z=>S1 (W.sub _ z)
 have nm:(toString "min" ++ toString ".loop" : String) = "min.loop" := by decide
 refine codeAny_builtin F.entry_min_loop ?_
 rw [Around.under_plainId F.plain_min_loop _]
 show wpAny _ A.in1 (seqItems? (.ref S) >>= _) _ _ s
 refine wpAny_bind (wpAny_seqItems hS rfl ?_)
 show wpAny _ A.in1 (tryCatch (pyNext (.ref I)) _ >>= _) _ _ s
 refine wpAny_bind (wpAny_tryCatch (W.item 0 s _ _ n0 st λ v h' tk pv st' kp=>?_))
 have hS':=kp S _ S2 hS
 have ex':Ext h0 h':=λ b o e=>kp b o (λ z=>by rw [N1 b z] at e;cases e) (ex b o e)
 have ex2:Ext h0 (h'.update S (Obj.mapSeq λ _ => #[v,v])):=λ b o e=>(Heap.get?_update_other _ _ (λ z:S=b=>by rw [← z,N2] at e;cases e)).trans (ex' b o e)
 show wpAny _ A.in1 (updateSeq S (λ _ => #[v,v]) >>= _) _ _ _
 refine wpAny_bind (wpAny_updateSeq hS' rfl ?_)
 rw [nm]
 have st2:=W.frame _ _ (h'.update S (Obj.mapSeq λ _ => #[v,v])) st' λ b bf o e=>(Heap.get?_update_other _ _ (λ z:S=b=>S1 (by rw [z];exact bf))).trans e
 exact wpAny_pure ⟨plainId_quiet F.plain_min_loop _,zx0 W bt cmp S S1 N1 N2 _ 0 _ v _ rfl n0 st2 pv ex2 (Heap.get?_update_self _ hS' rfl) λ v' h2 tk2 p2 e2=>fin v' h2 tk2 p2 e2⟩
end
section
variable {X:Cx}
mutual
theorem zcg {h h':Heap} (e:Ext h h'):∀ {v:Value} {d:PyData} {as:List Addr},Reads h v d as→Reads h' v d as
 | _,_,_,.none=>.none
 | _,_,_,.bool b=>.bool b
 | _,_,_,.int i t=>.int i t
 | _,_,_,.str x t=>.str x t
 | _,_,_,.list a b c d=>.list (e _ _ a) b c (zfb e d)
 | _,_,_,.tuple a b c d=>.tuple (e _ _ a) b c (zfb e d)
 | _,_,_,.dict a b c d f=>.dict (e _ _ a) b c (zfb e d) (zfb e f)
theorem zfb {h h':Heap} (e:Ext h h'):∀ {vs:List Value} {ds:List PyData} {as:List Addr},ReadsAll h vs ds as→ReadsAll h' vs ds as
 | _,_,_,.nil=>.nil
 | _,_,_,.cons a b=>.cons (zcg e a) (zfb e b)
end
end
end L2
namespace L2
open PySem PySem.Spec PyProof.Rows
section
variable {X:Cx} {CX:CXT} {k:Nat} {f C D:Addr} {fd:FuncData} {ps:List Str} {sp:Sp} {dvs:List V} {ds:List Value} {EX:XK} {x m:Str} {p pos apos:Pos} {e o:Expr} {es:List Expr} {ta:TE} {t:TA} {σ₀:St}
theorem zvv {pins:List (Addr×Obj)} {σ:St} {H:Hp} {s:Shared} {Q:VK} {us:List Value} {vs:List V} (F:FnOk X.prog X.w X.K X.mg X.base CX k f fd ps sp) (room:Room k X.A) (hb:Binds X.K fd ps ds) (hd:Vals dvs ds) (hx:zej CX X σ EX)
  (I:Inv X pins σ H s) (r:Vals vs us) (h:sp (vs++dvs) H Q EX):wpAny (model X.prog X.w) X.A (call (.ref f) us) (EP X pins σ Q) X.xe s:=by
 have r2:Vals (vs++dvs) (us++ds):=r.append hd
 have ln:(us++ds).length=ps.length:=by rw [← r2.length];exact F.len _ _ _ _ h
 refine wpAny_call (codeAny_mono (F.run X.A X.stack s H ⟨us,[]⟩ (us++ds) (vs++dvs) Q EX room I.env0 (hb s us I.kIn ln) r2 h) λ r s' hq=>?_)
 cases r with
 | error e=>exact hx pins H s e s' I hq
 | ok fl =>
  cases fl with
  | ret u=>exact I.after hq
  | next=>exact hq.elim
  | brk=>exact hq.elim
  | cont=>exact hq.elim
theorem zqj {pl:Sem Bool} (he:PE X o ta) (c:Cls X.K C) (hm:Meth X.K C m f) (F:FnOk X.prog X.w X.K X.mg X.base CX k f fd ps sp) (room:Room k X.A) (hb:Binds X.K fd ps ds) (hd:Vals dvs ds) (hx:zej CX X σ₀ EX)
  (ht:eval (.Call (.Attribute o m apos) [] [] pos) X.env=(do
   let ov ← eval o X.env
   standAt apos.atName
   let (f,first) ← holding [ov] (getMethod ov m pl)
   callWith pos f first (backTo pos (starEach [] X.env)) (backToKw pos (keywordEach [] X.env))):=by rfl) :
  PE X (.Call (.Attribute o m apos) [] [] pos) (λ σ H Q=>σ=σ₀∧zqz C m sp dvs EX ta tNil σ H Q) := .mk <| by
 rintro pins s σ H Q I ⟨rfl,h⟩
 refine W.methodCall_KW (pl:=pl) (thn (he pins s σ H _ I h) λ u s1 ⟨x,H1,I1,rx,a,dx,fs,ex,ea,l,q⟩=>?_) ht
 subst ex
 obtain rfl:u=Value.ref a:=rx
 exact zwd I1 ea c hm l (W.callWith_K0 (first:=[.ref a]) I1.kIn hm.kp (zvv (us:=[.ref a]) (vs:=[.ref a]) F room hb hd hx I1 (.cons rfl .nil) q))
noncomputable def zi8 (K:W.Frag) (D:Addr) (tb:St→XK→TS) (th:TS):TS:=λ Dn σ H=>∃ E1:XK,tb σ E1 Dn σ H ∧
 ∀ (C:Addr) (H1:Hp),E1 (.ref C) none H1→XCls K C∧W.mroIn K C (.ref D)=some true∧th Dn σ H1
theorem zjy {dn:Str} {body:List Stmt} {tb:St→XK→TS} {b₀:Stmt} {suite:List Stmt} {th:TS} {p3 p4 pos:Pos} (xd:XCls X.K D) (hg:Gl X dn) (hm:X.mg dn=some (.ref D)) (tp:X.Top)
  (hb:∀ σ₀ E' pn' E1,zej (CX1 X.prog X.w X.base) (X.tryC E' pn') σ₀ E1→PSs (X.tryC E' pn') body (tb σ₀ E1))
  (hh:∀ x,PSs (X.hand x) (b₀::suite) th) (hdb:(dn == ("__debug__" : Str))=false:=by decide) :
  PS X (.Try body [.ExceptHandler (some (.Name dn p3)) none (b₀::suite) p4] [] [] pos) (zi8 X.K D tb th) := .mk <| by
 intro pins s σ H Dn I h
 obtain ⟨E1,hte,hth⟩:=h
 show wpAny (model X.prog X.w) X.A (do standAt pos;tryStmt false (execs body X.env) [.ExceptHandler (some (.Name dn p3)) none (b₀::suite) p4] (execs [] X.env) [] X.env) (SP X pins Dn) X.xe s
 refine wpAny_bind (wpAny_standAt (wpAny_tryStmt_except ?_))
 generalize hE:(λ (e:Value) (s₁:Shared)=>wpAny (model X.prog X.w) X.A (noteFrame e X.env) (λ _ s₂=>wpAny (model X.prog X.w) X.A (setFlight e none) (λ _ s₃ =>
  wpAny (model X.prog X.w) X.A (handleBy e X.env [.ExceptHandler (some (.Name dn p3)) none (b₀::suite) p4]) (SP X pins Dn) X.xe s₃) X.xe s₂) X.xe s₁)=E'
 have hx:zej (CX1 X.prog X.w X.base) (X.tryC E' pins) σ E1:=by
  rintro pins' H1 s1 _ s' J1 ⟨x,C,H',rfl,os,bare,un,hok,F,q⟩
  have J:Inv (X.tryC E' pins) [] σ H' s':=(J1.call' (ch:=[]) os un hok bare λ b z=>absurd z (by simp)).nopins
  have F':Fly (X.tryC E' pins).new H' x C s'.heap:=F.imp λ b hb=>zu2 J1 hb
  have tp':(X.tryC E' pins).Top:=⟨tp.top⟩
  show E' (.ref x) s'
  rw [← hE]
  refine zvm (X:=X.tryC E' pins) J tp' F' λ h1 I1 F1 t1=>?_
  refine zqe (X:=X.tryC E' pins) (A:=X.A) I1 F1 t1 λ h2 I2 F2 t2=>?_
  obtain ⟨xc,hmro,hsuite⟩:=hth C H' q
  obtain ⟨oe,vs,a1,a2,a3,a4,_,_⟩:=id F2.ob
  refine wpAny_handleBy_cons (codeAny_handlers_test ?_) (by intro q;cases q)
  refine zef (X:=X.hand x) (I2.ofTry.toHand x) hg hm ?_ hdb
  refine zrp (I2.kIn) xd xc hmro a1 a2 ?_
  refine codeAny_handlers_suite ?_
  refine zqe (X:=X.tryC E' pins) (A:=X.A.mark (some (.ref x))) I2 F2 t2 λ h3 I3 F3 _=>?_
  have I4:Inv (X.hand x) pins σ H' { s' with heap:=h3 }:=I3.ofTry.toHand x
  refine wpAny_mono (hh x pins _ _ _ _ I4 hsuite) (λ fl s6 q6=>?_) λ _ _ z=>z.elim
  cases fl with
  | next=>obtain ⟨σ6,H6,I6,r6⟩:=q6;exact ⟨σ6,H6,I6.ofHand I.ok.hd,r6⟩
  | brk=>obtain ⟨σ6,H6,I6,r6⟩:=q6;exact ⟨σ6,H6,I6.ofHand I.ok.hd,r6⟩
  | cont=>obtain ⟨σ6,H6,I6,r6⟩:=q6;exact ⟨σ6,H6,I6.ofHand I.ok.hd,r6⟩
  | ret u=>obtain ⟨v,σ6,H6,I6,rv,r6⟩:=q6;exact ⟨v,σ6,H6,I6.ofHand I.ok.hd,rv,r6⟩
 refine thn (hb σ E' pins E1 hx [] s σ H Dn (I.toTry E') hte) λ fl s1 q1=>?_
 cases fl with
 | next=>obtain ⟨σ1,H1,I1,r1⟩:=q1;exact wpAny_execs_nil ⟨σ1,H1,I1.ofTry,r1⟩
 | brk=>obtain ⟨σ1,H1,I1,r1⟩:=q1;exact ⟨σ1,H1,I1.ofTry,r1⟩
 | cont=>obtain ⟨σ1,H1,I1,r1⟩:=q1;exact ⟨σ1,H1,I1.ofTry,r1⟩
 | ret u=>obtain ⟨v,σ1,H1,I1,rv,r1⟩:=q1;exact ⟨v,σ1,H1,I1.ofTry,rv,r1⟩
end
end L2
namespace L2
open PySem PySem.Spec PyProof.Rows PySem.NumText
theorem zhp (x:Str) (c:Nat):(Txt.partition x ⟨#[c]⟩=(x,Str.empty,Str.empty)∧c∉x.cps.toList) ∨ ((Txt.partition x ⟨#[c]⟩).2.1=⟨#[c]⟩∧c∉(Txt.partition x ⟨#[c]⟩).1.cps.toList):=by
 unfold Txt.partition
 rcases StrLaws.occ_head x ⟨#[c]⟩ 1 (Nat.le_refl _) with ⟨e,hn⟩ | ⟨i,r,e,ha,hn⟩
 ·rw [e]
  refine .inl ⟨rfl,?_⟩
  have:=StrLaws.part_free x c 0 x.length (Nat.le_refl _) λ k _ _=>hn k
  rwa [StrLaws.sub_whole] at this
 ·rw [e]
  refine .inr ⟨rfl,?_⟩
  exact StrLaws.part_free x c 0 i (by have:=ha.1;omega) λ k _ hk=>hn k hk
section
variable {X:Cx}
end
end L2
namespace L2
open PySem PySem.Spec PyProof.Rows PySem.NumText
theorem zr1 {z:Str}:PyData.strOk z=true ↔ ∀ n∈z.cps.toList,n<0x110000:=by
 unfold PyData.strOk
 rw [← Array.all_toList,List.all_eq_true]
 constructor
 ·intro h n hn;exact of_decide_eq_true (h n hn)
 ·intro h n hn;exact decide_eq_true (h n hn)
theorem zcj (a b:Str):(a++b).cps.toList=a.cps.toList++b.cps.toList:=by
 show (a.cps++b.cps).toList=_
 simp
theorem za4 (s:String):PyData.strOk (Str.ofString s)=true:=by
 rw [zr1]
 intro n hn
 rw [signs_ofString] at hn
 obtain ⟨c,_,rfl⟩:=List.mem_map.mp hn
 have:=c.valid
 unfold UInt32.isValidChar Nat.isValidChar at this
 show c.val.toNat<1114112
 omega
theorem zaw (c:Nat) (t:Str):(!(Builtin.Str.occurrences t ⟨#[c]⟩ 0 t.length 1).isEmpty)=decide (c∈t.cps.toList):=by
 have hs:=StrLaws.partition_sum t ⟨#[c]⟩
 have h:=zhp t c
 unfold Txt.partition at h hs
 cases e:Builtin.Str.occurrences t ⟨#[c]⟩ 0 t.length 1 with
 | nil =>
  rw [e] at h
  rcases h with ⟨_,h⟩ | ⟨h,_⟩
  ·rw [decide_eq_false h];rfl
  ·have:(0:Nat)=1:=congrArg Str.length h
   cases this
 | cons i r =>
  rw [e] at h hs
  rcases h with ⟨h,_⟩ | ⟨_,_⟩
  ·have:(1:Nat)=0:=congrArg (λ q:Str×Str×Str=>q.2.1.length) h
   cases this
  ·dsimp only at hs
   have:c∈t.cps.toList:=by rw [← hs,zcj,zcj];simp
   rw [decide_eq_true this];rfl
end L2
namespace L2
open PySem PySem.Spec PyProof.Rows PySem.NumText
structure STO {α:Type} (lt:α→α→Bool):Prop where
 irr:∀ a,lt a a=false
 tr:∀ a b c,lt a b=true→lt b c=true→lt a c=true
 tri:∀ a b,a≠b→lt a b=false→lt b a=true
theorem STO.asym {α:Type} {lt:α→α→Bool} (h:STO lt) {a b:α} (x:lt a b=true):lt b a=false:=by
 cases e:lt b a with
 | false=>rfl
 | true=>have:=h.tr a b a x e;rw [h.irr] at this;cases this
theorem zew:STO iLt where
 irr:=λ a=>decide_eq_false (by omega)
 tr:=λ a b c h1 h2=>decide_eq_true (by have:=of_decide_eq_true h1;have:=of_decide_eq_true h2;omega)
 tri:=λ a b h1 h2=>decide_eq_true (by have:=of_decide_eq_false h2;omega)
theorem zll {α:Type} [DecidableEq α] {lt:α→α→Bool} (h:STO lt):STO (lexG lt) where
 irr:=λ a=>by
  induction a with
  | nil=>rfl
  | cons x xs ih=>rw [lexG,if_pos rfl];exact ih
 tr:=λ a=>by
  induction a with
  | nil =>
   intro b c h1 h2
   cases c with
   | nil=>cases b <;> cases h2
   | cons z zs=>rfl
  | cons x xs ih =>
   intro b c h1 h2
   cases b with
   | nil=>cases h1
   | cons y ys =>
    cases c with
    | nil=>cases h2
    | cons z zs =>
     rw [lexG] at h1 h2 ⊢
     by_cases e1:x=y
     ·rw [if_pos e1] at h1
      by_cases e2:y=z
      ·rw [if_pos e2] at h2
       rw [if_pos (e1.trans e2)]
       exact ih ys zs h1 h2
      ·rw [if_neg e2] at h2
       rw [e1,if_neg e2]
       exact h2
     ·rw [if_neg e1] at h1
      by_cases e2:y=z
      ·rw [if_pos e2] at h2
       subst e2
       rw [if_neg e1]
       exact h1
      ·rw [if_neg e2] at h2
       have h3:=h.tr x y z h1 h2
       have e3:x≠z:=λ e=>by rw [e,h.irr] at h3;cases h3
       rw [if_neg e3]
       exact h3
 tri:=λ a=>by
  induction a with
  | nil =>
   intro b h1 h2
   cases b with
   | nil=>exact absurd rfl h1
   | cons y ys=>cases h2
  | cons x xs ih =>
   intro b h1 h2
   cases b with
   | nil=>rfl
   | cons y ys =>
    rw [lexG] at h2 ⊢
    by_cases e:x=y
    ·rw [if_pos e] at h2
     rw [if_pos e.symm]
     exact ih ys (λ z=>h1 (by rw [e,z])) h2
    ·rw [if_neg e] at h2
     rw [if_neg (λ z=>e z.symm)]
     exact h.tri x y e h2
theorem STO.map {α β:Type} {lt:β→β→Bool} (h:STO lt) {f:α→β} (inj:∀ a b,f a=f b→a=b):STO (λ a b=>lt (f a) (f b)) where
 irr:=λ a=>h.irr _
 tr:=λ a b c=>h.tr _ _ _
 tri:=λ a b hn=>h.tri _ _ λ e=>hn (inj a b e)
theorem ztx:STO sLt:=(zll zew).map (f:=sI) λ a b e=>sI_inj.mp e
theorem pLt_sto:STO pLt:=zll ztx
noncomputable def zkh {α β:Type} [DecidableEq α] (l1:α→α→Bool) (l2:β→β→Bool) (a b:α×β):Bool:=if a.1=b.1 then l2 a.2 b.2 else l1 a.1 b.1
theorem zli {α β:Type} [DecidableEq α] {l1:α→α→Bool} {l2:β→β→Bool} (h1:STO l1) (h2:STO l2):STO (zkh l1 l2) where
 irr:=λ a=>by unfold zkh;rw [if_pos rfl];exact h2.irr _
 tr:=λ a b c x y=>by
  unfold zkh at *
  by_cases e1:a.1=b.1
  ·rw [if_pos e1] at x
   by_cases e2:b.1=c.1
   ·rw [if_pos e2] at y
    rw [if_pos (e1.trans e2)]
    exact h2.tr _ _ _ x y
   ·rw [if_neg e2] at y
    rw [e1,if_neg e2]
    exact y
  ·rw [if_neg e1] at x
   by_cases e2:b.1=c.1
   ·rw [if_pos e2] at y
    rw [← e2,if_neg e1]
    exact x
   ·rw [if_neg e2] at y
    have z:=h1.tr _ _ _ x y
    have e3:a.1≠c.1:=λ e=>by rw [e,h1.irr] at z;cases z
    rw [if_neg e3]
    exact z
 tri:=λ a b hn x=>by
  unfold zkh at *
  by_cases e:a.1=b.1
  ·rw [if_pos e] at x
   rw [if_pos e.symm]
   exact h2.tri _ _ (λ z=>hn (Prod.ext e z)) x
  ·rw [if_neg e] at x
   rw [if_neg (λ z=>e z.symm)]
   exact h1.tri _ _ e x
noncomputable abbrev Ver:=Int×List Stp×Str
noncomputable def ver (v:Ver):PyData := .tuple [.int v.1,plc v.2.1,.str v.2.2]
noncomputable def vdat:Option Ver→PyData
 | none=>.none
 | some v=>ver v
noncomputable def okV (v:Ver):Prop:=PySem.PyData.strOk v.2.2=true
noncomputable def okO (o:Option Ver):Prop:=∀ v,o=some v→okV v
theorem zzh {K:W.Frag} {H:Hp} {v:Ver} {x:V} (h:DV K H (ver v) x):∃ t pv,x = .ref t∧SqT K H t [.int v.1,pv,.str v.2.2]∧DV K H (plc v.2.1) pv:=by
 obtain ⟨t,vs,rfl,hq,a,r,rfl,ha,b,r2,rfl,hb,c,r3,rfl,hc,h4⟩:=h
 cases (show a=V.int v.1 from ha)
 cases (show c=V.str v.2.2 from hc)
 cases (show r3=[] from h4)
 exact ⟨t,b,rfl,hq,hb⟩
theorem zss {K:W.Frag} {H:Hp} {v:Ver} {t:Addr} {pv:V} (h:SqT K H t [.int v.1,pv,.str v.2.2]) (hp:DV K H (plc v.2.1) pv):DV K H (ver v) (.ref t):=⟨t,_,rfl,h,_,_,rfl,rfl,_,_,rfl,hp,_,_,rfl,rfl,rfl⟩
theorem zxf (o:Option Ver):noL (vdat o)=true:=by
 cases o with
 | none=>rfl
 | some v =>
  show (noL (.int v.1) && (noL (plc v.2.1) && (noL (.str v.2.2) && true)))=true
  rw [zgm]
  rfl
theorem zjv (a b:Ver):PyData.eqv (ver a) (ver b)=decide (a=b):=by
 obtain ⟨a1,a2,a3⟩:=a
 obtain ⟨b1,b2,b3⟩:=b
 have e:PyData.eqv (ver (a1,a2,a3)) (ver (b1,b2,b3))=(a1 == b1 && (PyData.eqv (plc a2) (plc b2) && (a3 == b3 && true))):=rfl
 rw [e,zwi,Bool.eq_iff_iff]
 simp
theorem zkx (a b:Stp):ltD (stp a) (stp b)=some (sLt a b):=by
 obtain ⟨a1,a2,a3⟩:=a
 obtain ⟨b1,b2,b3⟩:=b
 show ltDs [.int a1,.int a2,.int a3] [.int b1,.int b2,.int b3]=some (lexG iLt [a1,a2,a3] [b1,b2,b3])
 have ie:∀ x y:Int,PyData.eqv (.int x) (.int y)=decide (x=y):=λ x y=>by rw [show PyData.eqv (.int x) (.int y)=(x == y) from rfl,Bool.eq_iff_iff];simp
 rw [ltDs,ltDs,ltDs,ltDs,lexG,lexG,lexG,lexG,ie,ie,ie]
 by_cases e1:a1=b1
 ·rw [if_pos (decide_eq_true e1),if_pos e1]
  by_cases e2:a2=b2
  ·rw [if_pos (decide_eq_true e2),if_pos e2]
   by_cases e3:a3=b3
   ·rw [if_pos (decide_eq_true e3),if_pos e3]
   ·rw [if_neg (by simpa using e3),if_neg e3];rfl
  ·rw [if_neg (by simpa using e2),if_neg e2];rfl
 ·rw [if_neg (by simpa using e1),if_neg e1];rfl
theorem zcm:∀ a b:List Stp,ltDs (a.map stp) (b.map stp)=some (pLt a b)
 | [],[]=>rfl
 | [],_::_=>rfl
 | _::_,[]=>rfl
 | x::a,y::b=>by
  rw [List.map_cons,List.map_cons,ltDs,zao,zcm a b,zkx]
  show _=some (if x=y then lexG sLt a b else sLt x y)
  by_cases e:x=y
  ·rw [if_pos (decide_eq_true e),if_pos e]
  ·rw [if_neg (by simpa using e),if_neg e]
theorem zzn (a b:List Stp):ltD (plc a) (plc b)=some (pLt a b):=zcm a b
end L2
namespace L2
open PySem PySem.Spec PyProof.Rows PySem.NumText PySem.W
section
variable {n:Nat} {s:Shared} {cmp:Nat→Nat→(Bool→Shared→Prop)→Shared→Prop} {lt:Nat→Nat→Bool}
noncomputable def Asks (n:Nat) (s:Shared) (cmp:Nat→Nat→(Bool→Shared→Prop)→Shared→Prop) (lt:Nat→Nat→Bool):Prop:=∀ i j C,i<n→j<n→C (lt i j) s→cmp i j C s
structure Ord (n:Nat) (lt:Nat→Nat→Bool):Prop where
 tr:∀ a b c,a<n→b<n→c<n→lt a b=true→lt b c=true→lt a c=true
 tri:∀ a b,a<n→b<n→a≠b→lt a b=false→lt b a=true
 asy:∀ a b,a<n→b<n→lt a b=true→lt b a=false
structure Pm (n:Nat) (p:Array Nat):Prop where
 pm:p.toList.Perm (List.range n)
noncomputable abbrev at_ (p:Array Nat) (k:Nat):Nat:=p.getD k 0
theorem Pm.size {p:Array Nat} (h:Pm n p):p.size=n:=by have:=h.pm.length_eq;simpa using this
theorem zlu {p:Array Nat} {k:Nat} (h:k<p.size):at_ p k=p[k]:=by simp [at_,Array.getD,h]
theorem Pm.inb {p:Array Nat} (h:Pm n p) {k:Nat} (hk:k<n):at_ p k<n:=by
 have hs:=h.size
 rw [zlu (by omega)]
 have:p[k]'(by omega)∈p.toList:=by simp
 have:=h.pm.mem_iff.mp this
 simpa using this
theorem Pm.inj {p:Array Nat} (h:Pm n p) {i j:Nat} (hi:i<n) (hj:j<n) (e:at_ p i=at_ p j):i=j:=by
 have hs:=h.size
 rw [zlu (by omega),zlu (by omega)] at e
 have nd:p.toList.Nodup:=h.pm.nodup_iff.mpr List.nodup_range
 have pw:=List.pairwise_iff_getElem.mp nd
 rcases Nat.lt_trichotomy i j with z | z | z
 ·exact absurd e (pw i j (by simp;omega) (by simp;omega) z)
 ·exact z
 ·exact absurd e.symm (pw j i (by simp;omega) (by simp;omega) z)
noncomputable def Up (lt:Nat→Nat→Bool) (p:Array Nat) (m:Nat):Prop:=∀ i j,i<j→j<m→lt (at_ p i) (at_ p j)=true
theorem zxl {p:Array Nat} {m:Nat} (O:Ord n lt) (h:Pm n p) (hm:m≤n) (c:∀ k,1≤k→k<m→lt (at_ p (k - 1)) (at_ p k)=true):Up lt p m:=by
 intro i j hij hj
 induction j with
 | zero=>omega
 | succ j ih =>
  have h1:=c (j+1) (by omega) hj
  rw [Nat.add_sub_cancel] at h1
  by_cases e:i=j
  ·rw [e];exact h1
  ·exact O.tr _ _ _ (h.inb (by omega)) (h.inb (by omega)) (h.inb (by omega)) (ih (by omega) (by omega)) h1
theorem zju (hc:Asks n s cmp lt) {p:Array Nat} (h:Pm n p):∀ (f m:Nat) {Q:Nat→Shared→Prop},1≤m→m+f≤n →
  (∀ r,m≤r→r≤m+f→(∀ k,m≤k→k<r→lt (at_ p k) (at_ p (k - 1))=false)→(r<m+f→lt (at_ p r) (at_ p (r - 1))=true)→Q r s)→(kas_asc p f m).kasWp cmp Q s
 | 0,m,Q,h1,hm,q=>q m (Nat.le_refl _) (Nat.le_refl _) (λ k a b=>by omega) (λ a=>by omega)
 | f+1,m,Q,h1,hm,q=>by
  refine hc _ _ _ (h.inb (by omega)) (h.inb (by omega)) ?_
  cases e:lt (at_ p m) (at_ p (m - 1)) with
  | true=>exact q m (Nat.le_refl _) (by omega) (λ k a b=>by omega) (λ _=>e)
  | false =>
   refine zju hc h f (m+1) (by omega) (by omega) λ r a b c d=>q r (by omega) (by omega) (λ k k1 k2=>?_) (λ z=>d (by omega))
   by_cases ek:k=m
   ·rw [ek];exact e
   ·exact c k (by omega) k2
theorem zbr (O:Ord n lt) (hc:Asks n s cmp lt) {p:Array Nat} (h:Pm n p):∀ (f m:Nat) {Q:Array Nat×Nat×Nat→Shared→Prop},1≤m→m+f≤n →
  (∀ r,m≤r→r≤m+f→(∀ k,m≤k→k<r→lt (at_ p k) (at_ p (k - 1))=true)→Q (p,r,0) s)→(kas_desc f p m 0).kasWp cmp Q s
 | 0,m,Q,h1,hm,q=>q m (Nat.le_refl _) (Nat.le_refl _) (λ k a b=>by omega)
 | f+1,m,Q,h1,hm,q=>by
  refine hc _ _ _ (h.inb (by omega)) (h.inb (by omega)) ?_
  cases e:lt (at_ p m) (at_ p (m - 1)) with
  | true =>
   show (kas_desc f p (m+1) 0).kasWp cmp Q s
   refine zbr O hc h f (m+1) (by omega) (by omega) λ r a b c=>q r (by omega) (by omega) (λ k k1 k2=>?_)
   by_cases ek:k=m
   ·rw [ek];exact e
   ·exact c k (by omega) k2
  | false =>
   refine hc _ _ _ (h.inb (by omega)) (h.inb (by omega)) ?_
   have:=O.tri _ _ (h.inb (k:=m) (by omega)) (h.inb (k:=m - 1) (by omega)) (λ z=>by have:=h.inj (by omega) (by omega) z;omega) e
   rw [show lt (p.getD (m - 1) 0) (p.getD m 0)=true from this]
   exact q m (Nat.le_refl _) (by omega) (λ k a b=>by omega)
theorem zug {p q:Array Nat} (h:Pm n p) (e:q.Perm p):Pm n q:=⟨(Array.perm_iff_toList_perm.mp e).trans h.pm⟩
theorem zgv {p:Array Nat} (h:Pm n p) {m:Nat} (hm:m≤n) {k:Nat} (hk:k<n):at_ (kas_rev p 0 m) k=if k<m then at_ p (m - 1 - k) else at_ p k:=by
 have hs:=h.size
 have:=getElem?_mirror_all (xs:=p) (i:=0) (j:=m) (by omega) k
 unfold at_
 rw [Array.getD_eq_getD_getElem?,kas_rev,this]
 by_cases hkm:k<m
 ·rw [if_pos hkm,if_pos ⟨by omega,hkm⟩,Array.getD_eq_getD_getElem?,show 0+m - 1 - k=m - 1 - k by omega]
 ·rw [if_neg hkm,if_neg (by omega),Array.getD_eq_getD_getElem?]
theorem zdu (O:Ord n lt) (hc:Asks n s cmp lt) {p:Array Nat} (h:Pm n p) {m:Nat} {Q:Nat×Array Nat→Shared→Prop} (h1:1≤m) (hm:m≤n) (hd:∀ k,1≤k→k<m→lt (at_ p k) (at_ p (k - 1))=true)
  (q:∀ r p',1≤r→r≤n→Pm n p'→Up lt p' r→Q (r,p') s):(kas_tail3 m n p).kasWp cmp Q s:=by
 have hp':Pm n (kas_rev p 0 m):=zug h (mirror_perm _ _ _ _)
 unfold kas_tail3
 rw [KasT.kasWp_bind]
 refine zju hc hp' (n - m) m h1 (by omega) λ r a b c _=>q r _ (by omega) (by omega) hp' (zxl O hp' (by omega) λ k k1 k2=>?_)
 by_cases hk:k<m
 ·rw [zgv h hm (by omega),zgv h hm (by omega),if_pos (by omega),if_pos hk]
  have:=hd (m - 1 - (k - 1)) (by omega) (by omega)
  rw [show m - 1 - (k - 1) - 1=m - 1 - k by omega] at this
  exact this
 ·exact O.tri _ _ (hp'.inb (by omega)) (hp'.inb (by omega)) (λ z=>by have:=hp'.inj (by omega) (by omega) z;omega) (c k (by omega) k2)
theorem zfk (O:Ord n lt) (hc:Asks n s cmp lt) {p:Array Nat} (h:Pm n p) {Q:Nat×Array Nat→Shared→Prop} (h2:2≤n) (hd:lt (at_ p 1) (at_ p 0)=true)
  (q:∀ r p',1≤r→r≤n→Pm n p'→Up lt p' r→Q (r,p') s):(kas_descPart 1 n p).kasWp cmp Q s:=by
 unfold kas_descPart
 rw [KasT.kasWp_bind]
 refine zbr O hc h (n - 2) 2 (by omega) (by omega) λ r a b c=>?_
 show (kas_tail3 r n p).kasWp cmp Q s
 refine zdu O hc h (by omega) (by omega) (λ k k1 k2=>?_) q
 by_cases e:k=1
 ·rw [e];exact hd
 ·exact c k (by omega) k2
theorem zit (O:Ord n lt) (hc:Asks n s cmp lt) {p:Array Nat} (h:Pm n p) {Q:Nat×Array Nat→Shared→Prop} (h2:2≤n)
  (q:∀ r p',1≤r→r≤n→Pm n p'→Up lt p' r→Q (r,p') s):(kas_count n p).kasWp cmp Q s:=by
 unfold kas_count
 rw [KasT.kasWp_bind]
 refine zju hc h (n - 1) 1 (by omega) (by omega) λ r a b c d=>?_
 have up:Up lt p r:=zxl O h (by omega) λ k k1 k2=>O.tri _ _ (h.inb (by omega)) (h.inb (by omega)) (λ z=>by have:=h.inj (by omega) (by omega) z;omega) (c k k1 k2)
 by_cases e:r=n
 ·rw [if_pos (by simp [e])]
  exact q r p (by omega) (by omega) h up
 ·rw [if_neg (by simp [e])]
  by_cases e1:r > 1
  ·rw [if_pos e1]
   refine hc _ _ _ (h.inb (by omega)) (h.inb (by omega)) ?_
   have:=up 0 (r - 1) (by omega) (by omega)
   rw [show lt (p.getD 0 0) (p.getD (r - 1) 0)=true from this]
   exact q r p (by omega) (by omega) h up
  ·rw [if_neg e1]
   obtain rfl:r=1:=by omega
   exact zfk O hc h h2 (d (by omega)) q
theorem zxh (O:Ord n lt) (hc:Asks n s cmp lt) {p:Array Nat} (h:Pm n p) {k:Nat} (hk:k<n) (up:Up lt p k):∀ (f l r:Nat) {Q:Nat→Shared→Prop},l≤r→r≤k→r - l≤f →
  (∀ i,i<l→lt (at_ p k) (at_ p i)=false)→(∀ i,r≤i→i<k→lt (at_ p k) (at_ p i)=true) →
  (∀ l',l'≤k→(∀ i,i<l'→lt (at_ p k) (at_ p i)=false)→(∀ i,l'≤i→i<k→lt (at_ p k) (at_ p i)=true)→Q l' s)→(kas_place p k f l r).kasWp cmp Q s
 | 0,l,r,Q,h1,h2,h3,a,b,q=>q l (by omega) a λ i i1 i2=>b i (by omega) i2
 | f+1,l,r,Q,h1,h2,h3,a,b,q=>by
  unfold kas_place
  by_cases e:l ≥ r
  ·rw [if_pos e]
   exact q l (by omega) a λ i i1 i2=>b i (by omega) i2
  ·rw [if_neg e]
   refine hc _ _ _ (h.inb hk) (h.inb (by omega)) ?_
   cases e2:lt (p.getD k 0) (p.getD ((l+r) / 2) 0) with
   | true =>
    refine zxh O hc h hk up f l ((l+r) / 2) (by omega) (by omega) (by omega) a (λ i i1 i2=>?_) q
    by_cases ei:i=(l+r) / 2
    ·rw [ei];exact e2
    ·exact O.tr _ _ _ (h.inb hk) (h.inb (by omega)) (h.inb (by omega)) e2 (up _ _ (by omega) i2)
   | false =>
    refine zxh O hc h hk up f ((l+r) / 2+1) r (by omega) h2 (by omega) (λ i i1=>?_) b q
    have hm:=O.tri _ _ (h.inb hk) (h.inb (k:=(l+r) / 2) (by omega)) (λ z=>by have:=h.inj hk (by omega) z;omega) e2
    by_cases ei:i=(l+r) / 2
    ·rw [ei];exact e2
    ·exact O.asy _ _ (h.inb (by omega)) (h.inb hk) (O.tr _ _ _ (h.inb (by omega)) (h.inb (k:=(l+r) / 2) (by omega)) (h.inb hk) (up i _ (by omega) (by omega)) hm)
theorem zty {p:Array Nat} (h:Pm n p) {k l:Nat} (hk:k<n) (hl:l≤k) {i:Nat} (hi:i<n):at_ (bubble p k (k - l)) i=if i<l then at_ p i else if i=l then at_ p k else if i≤k then at_ p (i - 1) else at_ p i:=by
 have hs:=h.size
 have:=getElem?_bubble (xs:=p) (src:=k) (by omega) (k - l) (by omega) i
 unfold at_
 simp only [Array.getD_eq_getD_getElem?]
 rw [this]
 rw [show k - (k - l)=l by omega]
 by_cases e1:i<l
 ·rw [if_pos e1,if_neg (by omega),if_neg (by omega)]
 ·rw [if_neg e1]
  by_cases e2:i=l
  ·rw [if_pos e2,if_pos e2]
  ·rw [if_neg e2,if_neg e2]
   by_cases e3:i≤k
   ·rw [if_pos e3,if_pos ⟨by omega,e3⟩]
   ·rw [if_neg e3,if_neg (by omega)]
theorem zjx (O:Ord n lt) (hc:Asks n s cmp lt):∀ (f:Nat) (p:Array Nat) (k:Nat) {Q:Array Nat→Shared→Prop},Pm n p→k+f=n→Up lt p k→(∀ p',Pm n p'→Up lt p' n→Q p' s)→(kas_bin f p k).kasWp cmp Q s
 | 0,p,k,Q,h,hk,up,q=>by
  obtain rfl:k=n:=by omega
  exact q p h up
 | f+1,p,k,Q,h,hk,up,q=>by
  unfold kas_bin
  rw [KasT.kasWp_bind]
  have hkn:k<n:=by omega
  refine zxh O hc h hkn up k 0 k (by omega) (Nat.le_refl _) (by omega) (λ i z=>by omega) (λ i z z2=>by omega) λ l hl a b=>?_
  have hp':Pm n (bubble p k (k - l)):=zug h (bubble_perm _ _ _)
  refine zjx O hc f _ (k+1) hp' (by omega) (λ i j hij hj=>?_) q
  rw [zty h hkn hl (by omega),zty h hkn hl (by omega)]
  have lo:∀ i,i<l→lt (at_ p i) (at_ p k)=true:=λ i hi=>O.tri _ _ (h.inb hkn) (h.inb (by omega)) (λ z=>by have:=h.inj hkn (by omega) z;omega) (a i hi)
  by_cases i1:i<l
  ·rw [if_pos i1]
   by_cases j1:j<l
   ·rw [if_pos j1];exact up i j hij (by omega)
   ·rw [if_neg j1]
    by_cases j2:j=l
    ·rw [if_pos j2];exact lo i i1
    ·rw [if_neg j2,if_pos (by omega)];exact up i (j - 1) (by omega) (by omega)
  ·rw [if_neg i1,if_neg (show ¬ j<l by omega),if_neg (show ¬ j=l by omega),if_pos (show j≤k by omega)]
   by_cases i2:i=l
   ·rw [if_pos i2];exact b (j - 1) (by omega) (by omega)
   ·rw [if_neg i2,if_pos (by omega)];exact up (i - 1) (j - 1) (by omega) (by omega)
theorem zal:Pm n (List.range n).toArray:=⟨by simp⟩
theorem zqx (O:Ord n lt) (hc:Asks n s cmp lt) (h2:2≤n) {Q:Array Nat→Shared→Prop} (q:∀ p',Pm n p'→Up lt p' n→Q p' s):(kas_sort n).kasWp cmp Q s:=by
 unfold kas_sort
 rw [KasT.kasWp_bind]
 refine zit O hc zal h2 λ r p' a b hp up=>?_
 by_cases e:r<n
 ·show (if r<n then kas_bin (n - max r 1) p' (max r 1) else .ret p':KasT _).kasWp cmp Q s
  rw [if_pos e,show max r 1=r by omega]
  exact zjx O hc _ p' r hp (by omega) up q
 ·show (if r<n then kas_bin (n - max r 1) p' (max r 1) else .ret p':KasT _).kasWp cmp Q s
  rw [if_neg e]
  obtain rfl:r=n:=by omega
  exact q p' hp up
end
end L2
namespace L2
open PySem PySem.Spec PyProof.Rows PySem.NumText PySem.W
section
variable {prog:Program} {w:World} {A:Around} {E:Value→Shared→Prop} {s:Shared} {a:Addr} {vs:List Value} {lt:Nat→Nat→Bool}
noncomputable abbrev zri (vs:List Value) (p:Array Nat):List Value:=p.toList.map λ i=>vs.getD i .none
theorem zwo (vs:List Value):zri vs (List.range vs.length).toArray=vs:=by
 unfold zri
 refine List.ext_getElem (by simp) λ i h1 h2=>?_
 simp only [List.getElem_map,List.getElem_range]
 simp [h2]
theorem zfm {c:Nat} {P:PySem.Fin→Shared→Prop} (ho:s.heap.get? a=some (seqObj "list" vs.toArray c)) (few:vs.length<64) (O:Ord vs.length lt)
  (hk:2≤vs.length→∀ h',(∀ b o,b≠a→s.heap.get? b=some o→h'.get? b=some o)→∃ κ,(∀ (R:SortKind→Shared→Prop) (E':Value→Shared→Prop),R κ { s with heap:=h' }→wpAny (model prog w) A (keyKind' vs.toArray) R E' { s with heap:=h' })∧Asks vs.length { s with heap:=h' } (kas_ask prog w A κ vs) lt)
  (h:∀ (p:Array Nat) (h':Heap) (c':Nat),Pm vs.length p→Up lt p vs.length→h'.get? a=some (seqObj "list" (zri vs p).toArray c')→(∀ b o,b≠a→s.heap.get? b=some o→h'.get? b=some o)→P (.done (.ret .none)) { s with heap:=h' }) :
  wpAny (model prog w) A (Builtin.«list.sort» ⟨[.ref a],[]⟩) P E s:=by
 have la:a<s.heap.objs.size:=Heap.lt_size ho
 have line:vs.length≤sizeLine:=by rw [sizeLine_eq];omega
 obtain ⟨e1,ho1⟩:∃ e1,(s.heap.update a (Obj.mapSeq λ _=>(#[]:Array Value))).get? a=some (seqObj "list" #[] e1):=⟨_,get?_update_seq ho λ _ => #[]⟩
 generalize hh:((s.heap.update a (Obj.mapSeq λ _=>(#[]:Array Value))).push (seqObj "tuple" vs.toArray 0)).push (seqObj "list" #[] 0)=h3
 have keep3:∀ b o,b≠a→s.heap.get? b=some o→h3.get? b=some o:=λ b o nb q=>by
  rw [← hh]
  refine Heap.get?_push_of_some _ (Heap.get?_push_of_some _ ?_)
  rw [Heap.get?_update_other _ _ (Ne.symm nb)]
  exact q
 have at3:h3.get? a=some (seqObj "list" #[] e1):=by rw [← hh];exact Heap.get?_push_of_some _ (Heap.get?_push_of_some _ ho1)
 have fin:∀ (p:Array Nat),Pm vs.length p→Up lt p vs.length→P (.done (.ret .none)) { s with heap:=h3.update a (Obj.mapSeq λ _=>(zri vs p).toArray) }:=λ p hp up=>by
  obtain ⟨c2,hc2⟩:∃ c2,(h3.update a (Obj.mapSeq λ _=>(zri vs p).toArray)).get? a=some (seqObj "list" (zri vs p).toArray c2):=⟨_,get?_update_seq at3 λ _=>(zri vs p).toArray⟩
  refine h p _ c2 hp up hc2 λ b o nb q=>?_
  rw [Heap.get?_update_other _ _ (Ne.symm nb)]
  exact keep3 b o nb q
 rw [list_sort_plain]
 refine wpAny_bind (listItems_at ho rfl (wpAny_bind (listUpdate_at ho rfl ?_ (by rw [List.size_toArray];exact line) (Nat.zero_le _))))
 refine wpAny_bind (seqEpoch_at ho1 rfl (wpAny_bind (wpAny_newTuple (wpAny_bind (wpAny_newList (wpAny_holding ?_) (Nat.zero_le _))) line)))
 show wpAny (model prog w) A _ P E { s with heap:=((s.heap.update a (Obj.mapSeq λ _=>(#[]:Array Value))).push (seqObj "tuple" vs.toArray 0)).push (seqObj "list" #[] 0) }
 rw [hh]
 dsimp only
 by_cases few2:vs.toArray.size<2
 ·rw [if_pos few2,if_pos few2]
  refine wpAny_bind (wpAny_pure ?_)
  rw [StateT.run_pure]
  refine wpAny_bind (wpAny_pure ?_)
  dsimp only
  have hsz:vs.length<2:=by simpa using few2
  have e:(arrOf (SortSt.mk' general' (vs.toArray.zip vs.toArray) #[] 7 none)).map (·.2)=(zri vs (List.range vs.length).toArray).toArray:=by
   rw [zwo]
   show (vs.toArray.zip vs.toArray).map (·.2)=vs.toArray
   refine Array.ext (by simp) λ i h1 h2=>?_
   simp
  refine wpAny_bind (seqEpoch_at at3 rfl (wpAny_bind (listUpdate_at at3 rfl ?_ (Nat.zero_le _) ?_)))
  ·simp only [bne_self_eq_false,Bool.false_eq_true,if_false]
   refine wpAny_pure ?_
   rw [e]
   exact fin _ zal λ i j hij hj=>by omega
  ·rw [e]
   simp only [zri,List.size_toArray,List.length_map,List.length_range]
   omega
 ·rw [if_neg few2,if_neg few2]
  have two:2≤vs.length:=by
   have:¬ vs.length<2:=by simpa using few2
   omega
  obtain ⟨κ,kind,asks⟩:=hk two h3 keep3
  refine wpAny_bind (kind _ _ ?_)
  refine wpAny_bind (wpAny_mono (kat_run (Q:=λ st' s'=>s'={ s with heap:=h3 }∧∃ p:Array Nat,Pm vs.length p∧Up lt p vs.length∧arrOf st'=p.map (kas_item (vs.toArray.zip vs.toArray))∧failedOf st'=none)
   (G:=λ p s'=>s'={ s with heap:=h3 }∧Pm vs.length p∧Up lt p vs.length) rfl two few (λ p' st' s' _ a2 a3 a4=>⟨a4.1,p',a4.2.1,a4.2.2,a2,a3⟩) (zqx O asks two λ p' hp up=>⟨rfl,hp,up⟩)) ?_ λ _ _ e=>e)
  rintro ⟨⟨⟩,st'⟩ s' ⟨rfl,p,hp,up,har,hf⟩
  have e:=kat_snds rfl har
  dsimp only
  rw [e]
  refine wpAny_bind (seqEpoch_at at3 rfl (wpAny_bind (listUpdate_at at3 rfl ?_ (Nat.zero_le _) ?_)))
  ·rw [hf]
   simp only [bne_self_eq_false,Bool.false_eq_true,if_false]
   exact wpAny_pure (fin p hp up)
  ·rw [List.size_toArray,List.length_map,Array.length_toList,hp.size]
   omega
noncomputable def zbs (prog:Program) (w:World) (A:Around) (vs:List Value) (s:Shared) (Q:Value→Shared→Prop):Prop:=∃ lt,vs.length<64∧Ord vs.length lt ∧
 (2≤vs.length→∀ h',(∀ b o,s.heap.get? b=some o→h'.get? b=some o)→∃ κ,(∀ (R:SortKind→Shared→Prop) (E':Value→Shared→Prop),R κ { s with heap:=h' }→wpAny (model prog w) A.in1.in1 (keyKind' vs.toArray) R E' { s with heap:=h' })∧Asks vs.length { s with heap:=h' } (kas_ask prog w A.in1.in1 κ vs) lt) ∧
 ∀ (p:Array Nat) (h':Heap) (l c:Nat),Pm vs.length p→Up lt p vs.length→s.heap.objs.size≤l→h'.get? l=some (seqObj "list" (zri vs p).toArray c)→(∀ b o,s.heap.get? b=some o→h'.get? b=some o)→Q (.ref l) { s with heap:=h' }
theorem znc {x:Value} {Q:Value→Shared→Prop} (hc:wpAny (model prog w) A.in1 (collect x) (λ us s1=>zbs prog w A us s1 Q) E s) :
  wpAny (model prog w) A (call (.builtin "sorted") [x]) Q E s:=by
 refine Calls.call_function_entry kind_sorted plain_sorted entry_sorted (args_sorted1 _) ?_
 unfold Builtin.«sorted»
 refine wpAny_bind (m:=checkCount "sorted" 1 1 _) (wpAny_pure (wpAny_bind (wpAny_mono hc (λ us s1 hg=>?_) λ _ _ e=>e)))
 obtain ⟨lt,few,O,hk,h⟩:=hg
 have line:us.length≤sizeLine:=by rw [sizeLine_eq];omega
 refine wpAny_bind (wpAny_newList ?_ line)
 have at2:(s1.heap.push (seqObj "list" us.toArray 0)).get? s1.heap.objs.size=some (seqObj "list" us.toArray 0):=Heap.get?_push_size _ rfl
 have old:∀ b o,s1.heap.get? b=some o→b≠s1.heap.objs.size:=λ b o q=>Nat.ne_of_lt (Heap.lt_size q)
 refine wpAny_bind (wpAny_holding (wpAny_call_entry slot_list_sort ⟨_,at2,rfl⟩ entry_list_sort (zfm at2 few O (λ two h' kp=>hk two h' λ b o q=>kp b o (old b o q) (Heap.get?_push_of_some _ q)) λ p h' c hp up hl kp=>⟨_,rfl,?_⟩) (args_list_sort _)))
 exact wpAny_pure ⟨_,rfl,h p h' _ c hp up (Nat.le_refl _) hl λ b o q=>kp b o (old b o q) (Heap.get?_push_of_some _ q)⟩
end
end L2
namespace L2
open PySem PySem.Spec PyProof.Rows PySem.NumText PySem.W
section
variable {prog:Program} {w:World} {A:Around} {E:Value→Shared→Prop} {s:Shared}
theorem zhf (hu:A.units+70<cLine) {b fin:Bool} {Q:Bool→Shared→Prop}:∀ (ds es:List PyData) (us ws:List Value) (as bs:List Addr) (i:Nat) (c:Bool),ReadsAll s.heap us ds as→ReadsAll s.heap ws es bs →
  PyData.canLayAll0 ds=true→PyData.canLayAll0 es=true→PyData.depthAll ds≤64→(b=true→i=0→∀ d e r t,ds=d::r→es=e::t→∃ m n,d = .int m∧e = .int n) →
  fin=decide (us.length<ws.length)→ltDs ds es=some c→Q c s→KatLex prog w A b fin Q (us.zip ws) i s
 | [],[],_,_,_,_,i,c,.nil,.nil,_,_,_,_,hf,hc,hq=>by
  cases hc
  subst hf
  exact kat_nil hq
 | [],e::es,_,_,_,_,i,c,.nil,.cons r rr,_,_,_,_,hf,hc,hq=>by
  cases hc
  subst hf
  refine kat_nil ?_
  simpa using hq
 | d::ds,[],_,_,_,_,i,c,.cons r rr,.nil,_,_,_,_,hf,hc,hq=>by
  cases hc
  subst hf
  rw [List.zip_nil_right]
  refine kat_nil ?_
  simpa using hq
 | d::ds,e::es,_,_,_,_,i,c,.cons (v:=u) (vs:=us) r rr,.cons (v:=x) (vs:=ws) q qq,la,lb,hd,hi,hf,hc,hq=>by
  rw [PyData.canLayAll0,Bool.and_eq_true] at la lb
  rw [PyData.depthAll] at hd
  rw [ltDs] at hc
  have d1:PyData.depth d≤64:=by omega
  have d2:PyData.depthAll ds≤64:=by omega
  have hmin:min d.depth e.depth≤d.depth:=Nat.min_le_left _ _
  refine kat_cons (SeqAt.eqAt_reads d e A s _ _ _ _ r q la.1 lb.1 (by omega) prog w _ _ ?_)
  cases he:PyData.eqv d e with
  | true =>
   rw [he,if_pos rfl] at hc
   refine kat_yes (zhf hu ds es us ws _ _ (i+1) c rr qq la.2 lb.2 d2 (λ _ z=>by omega) ?_ hc hq)
   rw [hf]
   exact decide_eq_decide.mpr (by simp)
  | false =>
   rw [he,if_neg Bool.false_ne_true] at hc
   refine kat_no ?_
   cases hb:(b && i == 0) with
   | false=>exact kat_one _ _ ((zfh 64 d e c A s _ _ _ _ d1 r q la.1 lb.1 hc (by omega)).1 prog w _ _ (show W.BoolBack Q (.bool c) s from hq))
   | true =>
    rw [Bool.and_eq_true] at hb
    obtain ⟨m,n,rfl,rfl⟩:=hi hb.1 (by simpa using hb.2) d e ds es rfl rfl
    cases r
    cases q
    have hc:decide (m<n)=c:=by simpa [ltD] using hc
    subst hc
    exact oneLt_int hq
inductive FirstTy | int | tup
noncomputable def FirstTy.ty:FirstTy→Value
 | .int=>.type "int"
 | .tup=>.type "tuple"
noncomputable def FirstTy.of:FirstTy→PyData→Prop
 | .int,d=>∃ n,d = .int n
 | .tup,d=>∃ l,d = .tuple l
theorem zvh {h:Heap} {v:Value} {d:PyData} {as:List Addr} (r:Reads h v d as) {f:FirstTy} (hf:f.of d):Looks (model prog w) h (typeOf v) f.ty:=by
 cases f with
 | int =>
  obtain ⟨n,rfl⟩:=hf
  cases r
  exact λ A Q E s _ q=>wpAny_pure q
 | tup =>
  obtain ⟨l,rfl⟩:=hf
  cases r with
  | tuple h1 h2 h3 h4 =>
   have:=(show Looks (model prog w) h (typeOf (.ref _)) _ from (Looks.ld h1).andThen .now)
   rw [h2] at this
   exact this
theorem zer {prog:Program} {w:World} {h:Heap} {f:FirstTy}:∀ {vs:List Value} {ds:List PyData} {as:List Addr},ReadsAll h vs ds as→(∀ d∈ds,∃ x r,d = .tuple (x::r)∧f.of x)→∃ fs,KatTups h vs fs∧fs.length=vs.length∧∀ v∈fs,Looks (model prog w) h (typeOf v) f.ty
 | _,_,_,.nil,_=>⟨[],trivial,rfl,λ _ z=>nomatch z⟩
 | _,_,_,.cons r rr,hd=>by
  obtain ⟨fs,k,l,t⟩:=zer (prog:=prog) (w:=w) rr λ d hm=>hd d (List.mem_cons_of_mem _ hm)
  obtain ⟨x,rest,rfl,hx⟩:=hd _ List.mem_cons_self
  cases r with
  | @tuple a o vs n xs as h1 h2 h3 h4 =>
   have h4':=h4
   generalize hvs:vs.toList=vl at h4
   cases h4 with
   | @cons y ys _ _ _ _ ry rys =>
    refine ⟨y::fs,⟨⟨_,_,_,_,rfl,h1,h2,h3,?_⟩,k⟩,by simp [l],λ v hv=>?_⟩
    ·rw [← Array.getElem?_toList,hvs];rfl
    ·rcases List.mem_cons.mp hv with rfl | hv
     ·exact zvh ry hx
     ·exact t v hv
end
theorem zad {h:Heap}:∀ {vs:List Value} {ds:List PyData} {as:List Addr},ReadsAll h vs ds as→∀ {i:Nat} {d:PyData},ds[i]? = some d→∃ v bs,vs[i]? = some v∧Reads h v d bs
 | _,_,_,.nil,i,d,e=>by simp at e
 | _,_,_,.cons r rr,0,d,e=>by
  have e:=Option.some.inj e
  subst e
  exact ⟨_,_,rfl,r⟩
 | _,_,_,.cons r rr,i+1,d,e=>by
  obtain ⟨v,bs,h1,h2⟩:=zad rr (i:=i) (d:=d) (by simpa using e)
  exact ⟨v,bs,by simpa using h1,h2⟩
theorem zpe {h:Heap}:∀ {vs:List Value} {ds:List PyData} {as:List Addr},ReadsAll h vs ds as→vs.length=ds.length
 | _,_,_,.nil=>rfl
 | _,_,_,.cons r rr=>by rw [List.length_cons,List.length_cons,zpe rr]
structure Srt {α:Type} (as:List α) (enc:α→List PyData) (lt:α→α→Bool) (f:FirstTy):Prop where
 sto:STO lt
 few:as.length<64
 nd:as.Nodup
 lts:∀ a∈as,∀ b∈as,ltDs (enc a) (enc b)=some (lt a b)
 fst:∀ a∈as,∃ x r,enc a=x::r∧f.of x
 shp:∀ a∈as,SeqAt.shaped (.tuple (enc a))=true
section
variable {α:Type} {as:List α} {enc:α→List PyData} {lt:α→α→Bool} {f:FirstTy}
theorem Srt.ord (S:Srt as enc lt f) (d:α):Ord as.length (λ i j=>lt (as.getD i d) (as.getD j d)) where
 tr:=λ a b c _ _ _ h1 h2=>S.sto.tr _ _ _ h1 h2
 tri:=λ a b ha hb hn h=>S.sto.tri _ _ (λ e=>hn (by
  rw [List.getD_eq_getElem?_getD,List.getD_eq_getElem?_getD,List.getElem?_eq_getElem ha,List.getElem?_eq_getElem hb] at e
  have e:as[a]=as[b]:=e
  have pw:=List.pairwise_iff_getElem.mp S.nd
  rcases Nat.lt_trichotomy a b with z | z | z
  ·exact absurd e (pw a b ha hb z)
  ·exact z
  ·exact absurd e.symm (pw b a hb ha z))) h
 asy:=λ a b _ _ h=>S.sto.asym h
theorem Srt.go (S:Srt as enc lt f) (d:α) {prog:Program} {w:World} {A:Around} {s:Shared} {us:List Value} {bs:List Addr} {Q:Value→Shared→Prop} (hu:A.units+80<cLine) (r:ReadsAll s.heap us (as.map λ a=>.tuple (enc a)) bs)
  (q:∀ (p:Array Nat) (h':Heap) (l c:Nat),Pm as.length p→(p.toList.map λ i=>as.getD i d).Pairwise (λ a b=>lt a b=true)→(p.toList.map λ i=>as.getD i d).Perm as→s.heap.objs.size≤l→h'.get? l=some (seqObj "list" (zri us p).toArray c)→(∀ b o,s.heap.get? b=some o→h'.get? b=some o)→Q (.ref l) { s with heap:=h' }) :
  zbs prog w A us s Q:=by
 have hl:us.length=as.length:=by rw [zpe r,List.length_map]
 refine ⟨λ i j=>lt (as.getD i d) (as.getD j d),by rw [hl];exact S.few,by rw [hl];exact S.ord d,λ two h' kp=>?_,λ p h' l c hp up hlt hat kp=>?_⟩
 ·have r':=zfb kp r
  obtain ⟨fs,k,lf,tf⟩:=zer (prog:=prog) (w:=w) (f:=f) r' (λ x hx=>by
   obtain ⟨a,ha,rfl⟩:=List.mem_map.mp hx
   obtain ⟨y,t,e,hy⟩:=S.fst a ha
   exact ⟨y,t,by rw [e],hy⟩)
  refine ⟨tuples' (f.ty != .type "tuple"),λ R E' hR=>kat_kind (s:={ s with heap:=h' }) k (by omega) tf (by cases f <;> decide) hR,λ i j C hi hj hC=>?_⟩
  rw [hl] at hi hj
  have gi:as[i]? = some as[i]:=List.getElem?_eq_getElem hi
  have gj:as[j]? = some as[j]:=List.getElem?_eq_getElem hj
  have mi:=List.getElem_mem hi
  have mj:=List.getElem_mem hj
  have ei:as.getD i d=as[i]:=by rw [List.getD_eq_getElem?_getD,gi];rfl
  have ej:as.getD j d=as[j]:=by rw [List.getD_eq_getElem?_getD,gj];rfl
  dsimp only at hC
  rw [ei,ej] at hC
  obtain ⟨v,b1,hv,rv⟩:=zad r' (i:=i) (d := .tuple (enc as[i])) (by rw [List.getElem?_map,gi];rfl)
  obtain ⟨x,b2,hx,rx⟩:=zad r' (i:=j) (d := .tuple (enc as[j])) (by rw [List.getElem?_map,gj];rfl)
  have evi:us.getD i .none=v:=by rw [List.getD_eq_getElem?_getD,hv];rfl
  have evj:us.getD j .none=x:=by rw [List.getD_eq_getElem?_getD,hx];rfl
  unfold kas_ask
  rw [evi,evj]
  generalize as[i]=a at *
  generalize as[j]=b at *
  have sa:=S.shp a mi
  have sb:=S.shp b mj
  have la:PyData.canLayAll0 (enc a)=true:=SeqAt.canLay_of_shaped sa
  have lb:PyData.canLayAll0 (enc b)=true:=SeqAt.canLay_of_shaped sb
  have da:PyData.depth (.tuple (enc a))≤64:=SeqAt.depth_of_shaped sa
  have da:PyData.depthAll (enc a)+1≤64:=da
  have first:∀ d e r t,enc a=d::r→enc b=e::t→f = .int→∃ m n,d = .int m∧e = .int n:=λ d e r t e1 e2 hf=>by
   subst hf
   obtain ⟨y,t1,e3,m,hm⟩:=S.fst a mi
   obtain ⟨z,t2,e4,n,hn⟩:=S.fst b mj
   rw [e1] at e3
   rw [e2] at e4
   cases e3
   cases e4
   exact ⟨m,n,hm,hn⟩
  cases rv with
  | @tuple l1 o1 x1 n1 _ _ h1 h2 h3 h4 =>
   cases rx with
   | @tuple l2 o2 x2 n2 _ _ g1 g2 g3 g4 =>
    refine kat_lt h1 h3 g1 g3 (zhf (by show A.units+1+1+70<cLine;omega) _ _ _ _ _ _ 0 (lt a b) h4 g4 la lb (by omega) (λ hb _ d e r t e1 e2=>first d e r t e1 e2 ?_) (by simp) (S.lts a mi b mj) hC)
    cases f with
    | int=>rfl
    | tup=>exact absurd hb (by decide)
 ·rw [hl] at hp up
  refine q p h' l c hp ?_ ?_ hlt hat kp
  ·rw [List.pairwise_iff_getElem]
   intro i j hi hj hij
   simp only [List.length_map,Array.length_toList] at hi hj
   have hs:=hp.size
   have:=up i j hij (by omega)
   rw [List.getElem_map,List.getElem_map]
   rw [zlu (by omega),zlu (by omega)] at this
   simpa using this
  ·have h1:=hp.pm.map (λ i=>as.getD i d)
   refine h1.trans ?_
   have:(List.range as.length).map (λ i=>as.getD i d)=as:=by
    refine List.ext_getElem (by simp) λ i h1 h2=>?_
    simp [h2]
   rw [this]
end
end L2
namespace L2
open PySem PySem.Spec PyProof.Rows PySem.NumText PySem.W
section
variable {X:Cx}
theorem zvl {K:W.Frag} {H:Hp} {α:Type} {as:List α} {en:α→PyData} {vs:List V} (h:DVs K H (as.map en) vs) (d:α):∀ (is:List Nat),(∀ i∈is,i<as.length)→DVs K H ((is.map λ i=>as.getD i d).map en) (is.map λ i=>vs.getD i .non)
 | [],_=>rfl
 | i::is,hi=>by
  have h1:=hi i List.mem_cons_self
  obtain ⟨v,hv,hd⟩:=h.get (i:=i) (d:=en as[i]) (by rw [List.getElem?_map,List.getElem?_eq_getElem h1];rfl)
  have e1:as.getD i d=as[i]:=by rw [List.getD_eq_getElem?_getD,List.getElem?_eq_getElem h1];rfl
  have e2:vs.getD i .non=v:=by rw [List.getD_eq_getElem?_getD,hv];rfl
  refine ⟨v,_,?_,?_,zvl h d is λ j hj=>hi j (List.mem_cons_of_mem _ hj)⟩
  ·rw [List.map_cons,e2]
  ·show DV K H (en (as.getD i d)) v
   rw [e1]
   exact hd
theorem znj {vs:List V} {us:List Value} (r:Vals vs us):∀ (is:List Nat),(∀ i∈is,i<vs.length)→Vals (is.map λ i=>vs.getD i .non) (is.map λ i=>us.getD i .none)
 | [],_=>.nil
 | i::is,hi=>by
  have h1:=hi i List.mem_cons_self
  obtain ⟨u,hu,ru⟩:=r.get (i:=i) (x:=vs[i]) (List.getElem?_eq_getElem h1)
  have e1:vs.getD i .non=vs[i]:=by rw [List.getD_eq_getElem?_getD,List.getElem?_eq_getElem h1];rfl
  have e2:us.getD i .none=u:=by rw [List.getD_eq_getElem?_getD,hu];rfl
  rw [List.map_cons,List.map_cons,e1,e2]
  exact .cons ru (znj r is λ j hj=>hi j (List.mem_cons_of_mem _ hj))
noncomputable def zs6 (K:W.Frag) (H:Hp) {α:Type} (as:List α) (enc:α→List PyData) (lt:α→α→Bool) (Q:VK):Prop :=
 ∀ (l:Addr) (bs:List α) (ws:List V),H l=none→bs.Perm as→bs.Pairwise (λ a b=>lt a b=true)→DVs K H (bs.map λ a=>.tuple (enc a)) ws→Q (.ref l) (upd H l (.lst ws))
theorem zrq {pins:List (Addr×Obj)} {s s1:Shared} {σ:St} {H:Hp} {Q:VK} {α:Type} {as:List α} {enc:α→List PyData} {lt:α→α→Bool} {f:FirstTy} {vs:List V} {us:List Value} (hu:X.A.units+100<cLine) (S:Srt as enc lt f)
  (I:Inv X pins σ H s1) (r:Vals vs us) (hd:DVs X.K H (as.map λ a=>.tuple (enc a)) vs) (q:zs6 X.K H as enc lt Q):zbs X.prog X.w X.A us s1 (EP X pins σ Q):=by
 obtain ⟨bs,ra⟩:=DVs.reads I _ _ _ hd r
 have hl:vs.length=as.length:=by rw [hd.length,List.length_map]
 have lay:∀ (p:Array Nat) (d:α) (h':Heap) (l c:Nat),Pm as.length p→(p.toList.map λ i=>as.getD i d).Pairwise (λ a b=>lt a b=true)→(p.toList.map λ i=>as.getD i d).Perm as→s1.heap.objs.size≤l →
   h'.get? l=some (seqObj "list" (zri us p).toArray c)→(∀ b o,s1.heap.get? b=some o→h'.get? b=some o)→EP X pins σ Q (.ref l) { s1 with heap:=h' }:=λ p d h' l c hp pw pm hle hat kp=>by
  have hin:∀ i∈p.toList,i<as.length:=λ i hi=>by simpa using hp.pm.mem_iff.mp hi
  have hn:=I.hok.fresh hle
  refine ⟨.ref l,_,I.laid (t':=s1.toks) (o := .lst (p.toList.map λ i=>vs.getD i .non)) kp hle ⟨?_,_,c,znj r p.toList (λ i hi=>by rw [hl];exact hin i hi),hat⟩,rfl,q l _ _ hn pm pw (zvl hd d p.toList hin)⟩
  rw [List.length_map,Array.length_toList,hp.size,sizeLine_eq]
  have:=S.few
  omega
 cases has:as with
 | nil =>
  have hus:us.length=0:=by rw [← r.length,hl,has];rfl
  refine ⟨λ _ _=>false,by omega,⟨λ a b c ha=>by omega,λ a b ha=>by omega,λ a b ha=>by omega⟩,λ two=>by omega,λ p h' l c hp up hle hat kp=>?_⟩
  have hp0:p.toList=[]:=by
   have:=hp.pm
   rw [hus] at this
   exact List.perm_nil.mp this
  have hn:=I.hok.fresh hle
  refine ⟨.ref l,_,I.laid (t':=s1.toks) (o := .lst []) kp hle ⟨Nat.zero_le _,_,c,.nil,?_⟩,rfl,q l [] [] hn (by rw [has]) .nil rfl⟩
  rw [hat,zri,hp0]
  rfl
 | cons d rest =>
  exact S.go d (by omega) ra λ p h' l c hp pw pm hle hat kp=>lay p d h' l c hp pw pm hle hat kp
noncomputable def zxx (K:W.Frag):List V→Hp→VK→Prop:=λ xs H Q=>∃ (α:Type) (as:List α) (enc:α→List PyData) (lt:α→α→Bool) (f:FirstTy) (p:Addr) (vs:List V),xs=[.ref p]∧SqL K H p vs∧DVs K H (as.map λ a=>.tuple (enc a)) vs∧Srt as enc lt f∧zs6 K H as enc lt Q
theorem zke (hu:X.A.units+100<cLine):zqk X (.builtin "sorted") (zxx X.K):=by
 intro pins s σ H xs us Q I r h
 obtain ⟨α,as,enc,lt,f,p,vs,rfl,hq,hd,S,q⟩:=h
 obtain ⟨u,rfl,rx⟩:=zsm r
 cases rx
 obtain ⟨its,rv,pl,hz⟩:=I.list hq
 refine znc (collect_list pl.isList ?_ (by rw [← rv.length];exact hz))
 have kp:∀ b o,s.heap.get? b=some o→((s.heap.push (seqObj "list" #[] 0)).update s.heap.objs.size (Obj.mapSeq (· ++ its.toArray))).get? b=some o:=λ b o e=>by
  rw [Heap.get?_update_other _ _ (Nat.ne_of_gt (Heap.lt_size e))]
  exact Heap.get?_push_of_some _ e
 exact zrq (s:=s) hu S (I.kept (t':=s.toks) kp) rv hd q
end
end L2
namespace L2
open PySem PySem.Spec PyProof.Rows PySem.NumText
noncomputable abbrev Mark:=Int×Int
noncomputable abbrev Ent:=Mark×Addr×V
noncomputable def mkK (m:Mark):List Key:=[.inl m.1,.inl m.2]
noncomputable def mkV (m:Mark):List V:=[.int m.1,.int m.2]
theorem ztg {a b:Mark} (h:mkK a=mkK b):a=b:=by
 unfold mkK at h
 have h1:=(List.cons.inj h).1
 have h2:=(List.cons.inj (List.cons.inj h).2).1
 exact Prod.ext (Sum.inl.inj h1) (Sum.inl.inj h2)
noncomputable def EntR (e:Ent) (x:List Key×Addr×Value):Prop:=x.1=mkK e.1∧x.2.1=e.2.1∧RelV e.2.2 x.2.2
noncomputable abbrev dK (P:Program) (w:World):=tupleKind (zph P w)
noncomputable def dOk (P:Program) (w:World) (a:Addr) (es:List Ent) (o:Obj) (h:Heap):Prop:=es.length≤sizeLine∧(a == sysModules)=false∧h.get? a=some o∧∃ xs,Paired EntR es xs ∧
 ∃ ds ep,o.ExactDict∧o.data = .dict ds ep∧ds.toList=xs.map (entryOfKey (dK P w))∧(xs.map (·.1)).Nodup
noncomputable def dO (P:Program) (w:World) (a:Addr) (es:List Ent) (o:Obj):HO := .ext (dOk P w a es o)
structure DM (P:Program) (w:World) (K:W.Frag) (H:Hp) (a:Addr) (es:List Ent):Prop where
 ob:∃ o,H a=some (dO P w a es o)
 ky:∀ e∈es,SqT K H e.2.1 (mkV e.1)
theorem zjn {P:Program} {w:World} {h:Heap}:∀ {es:List Ent} {xs:List (List Key×Addr×Value)},Paired EntR es xs→(∀ e∈es,(dK P w).is h (mkK e.1) e.2.1)→∀ x∈xs,(dK P w).is h x.1 x.2.1
 | _,_,.nil,_,x,hx=>nomatch hx
 | _,_,.cons r rr,hk,x,hx=>by
  rcases List.mem_cons.mp hx with rfl | hx
  ·rw [r.1,r.2.1];exact hk _ List.mem_cons_self
  ·exact zjn rr (λ e he=>hk e (List.mem_cons_of_mem _ he)) x hx
noncomputable def zid:List Ent→Mark→Option V
 | [],_=>none
 | e::es,m=>if e.1=m then some e.2.2 else zid es m
theorem zci:∀ {es:List Ent} {xs:List (List Key×Addr×Value)},Paired EntR es xs→∀ m,RelO (zid es m) ((atKey xs (mkK m)).map (·.2))
 | _,_,.nil,m=>trivial
 | e::es,x::xs,.cons r rr,m=>by
  unfold zid atKey
  rw [List.find?_cons]
  by_cases h:e.1=m
  ·rw [if_pos h,show decide (x.1=mkK m)=true from decide_eq_true (by rw [r.1,h])]
   exact r.2.2
  ·rw [if_neg h,show decide (x.1=mkK m)=false from decide_eq_false (by rw [r.1];exact λ z=>h (ztg z))]
   exact zci rr m
theorem zro {v:V} {o:Option Value} (h:RelO (some v) o):∃ u,o=some u∧RelV v u:=by
 cases o with
 | none=>exact h.elim
 | some u=>exact ⟨u,rfl,h⟩
theorem zcy {a:Option V} {b:Option Value} (h:RelO a b):a.isSome=b.isSome:=by
 cases a <;> cases b <;> first | rfl | exact h.elim
theorem zlq {a:Option V} {b:Option Value} {d:V} {e:Value} (h:RelO a b) (hd:RelV d e):RelV (a.getD d) (b.getD e):=by
 cases a <;> cases b <;> first | exact hd | exact h | exact h.elim
noncomputable def putM (es:List Ent) (m:Mark) (q:Addr) (v:V):List Ent:=if (zid es m).isSome then es.map (λ e=>if e.1=m then (e.1,e.2.1,v) else e) else es++[(m,q,v)]
theorem zdr {es:List Ent} {xs:List (List Key×Addr×Value)} (r:Paired EntR es xs) (m:Mark) {q:Addr} {v:V} {u:Value} (rv:RelV v u):Paired EntR (putM es m q v) (storedH xs (mkK m) q u):=by
 have hi:(zid es m).isSome=(atKey xs (mkK m)).isSome:=by rw [zcy (zci r m),Option.isSome_map]
 unfold putM storedH
 rw [hi]
 by_cases h:(atKey xs (mkK m)).isSome=true
 ·rw [if_pos h,if_pos h]
  clear hi h
  induction r with
  | nil=>exact .nil
  | @cons e x es xs a b ih =>
   rw [List.map_cons,List.map_cons]
   refine .cons ?_ ih
   unfold putAt
   by_cases he:e.1=m
   ·rw [if_pos he,if_pos (by rw [a.1,he])]
    exact ⟨a.1,a.2.1,rv⟩
   ·rw [if_neg he,if_neg (by rw [a.1];exact λ z=>he (ztg z))]
    exact a
 ·rw [if_neg h,if_neg h]
  exact Paired.snoc r ⟨rfl,rfl,rv⟩
theorem ztn (es:List Ent) (m:Mark) (q:Addr) (v:V):(putM es m q v).length≤es.length+1:=by
 unfold putM
 split
 ·rw [List.length_map];omega
 ·rw [List.length_append];exact Nat.le_refl _
section
variable {X:Cx} {pins:List (Addr×Obj)} {σ:St} {H:Hp} {s:Shared} {a:Addr} {es:List Ent}
theorem zwt {P:Program} {w:World} {m:Mark} {us:List Value} (r:Vals (mkV m) us):ItemsAre (zph P w) (mkK m) us:=by
 unfold mkV at r
 cases r with
 | cons r1 r2 =>
  cases r2 with
  | cons r3 r4 =>
   cases r4
   obtain ⟨t,rfl⟩:=r1
   obtain ⟨u,rfl⟩:=r3
   exact .cons (zkf P w m.1 t) (.cons (zkf P w m.2 u) .nil)
theorem Inv.mark (I:Inv X pins σ H s) {q:Addr} {m:Mark} (h:SqT X.K H q (mkV m)):(dK X.prog X.w).is s.heap (mkK m) q:=by
 obtain ⟨its,r,⟨o,h1,h2,n,h3⟩,hz⟩:=I.tuple h
 exact ⟨o,its.toArray,n,h1,h2,h3,by simpa using zwt r⟩
theorem Inv.dict (I:Inv X pins σ H s) (D:DM X.prog X.w X.K H a es):es.length≤sizeLine∧(a == sysModules)=false∧∃ xs,Paired EntR es xs∧s.heap.DictOfH (dK X.prog X.w) a xs:=by
 obtain ⟨o,ob⟩:=D.ob
 obtain ⟨⟨z,y,h1,xs,r,ds,ep,h2,h3,h4,h5⟩,_,_⟩:=(show ObjOk X.prog X.w H s.heap a (dO X.prog X.w a es o) from I.hok a _ ob)
 exact ⟨z,y,xs,r,o,ds,ep,h1,h2,h3,h4,zjn r λ e he=>I.mark (D.ky e he),h5⟩
theorem zvy {P:Program} {w:World} {H:Hp} {h:Heap} {a:Addr} {es:List Ent} {xs:List (List Key×Addr×Value)} (z:es.length≤sizeLine) (y:(a == sysModules)=false) (r:Paired EntR es xs) (d:h.DictOfH (dK P w) a xs):∃ o,ObjOk P w (upd H a (dO P w a es o)) h a (dO P w a es o):=by
 obtain ⟨o,ds,ep,h1,h2,h3,h4,_,h5⟩:=d
 exact ⟨o,⟨z,y,h1,xs,r,ds,ep,h2,h3,h4,h5⟩,⟨o,h1⟩,λ h1' h2' ⟨z,y,g1,g2⟩ k=>⟨z,y,k o g1,g2⟩⟩
theorem Inv.bigM (I:Inv X pins σ H s):sysModules<s.heap.objs.size:=Nat.lt_trans (by decide) (I.mod.glob.keeps I.bk).lt
variable {o i e value:Expr} {pos pos':Pos} {td ty tv:TE}
noncomputable def zl6 (P:Program) (w:World) (K:W.Frag) (td ty tv:TE):TS:=λ D σ H=>tv σ H λ v H1=>td σ H1 λ x H2=>ty σ H2 λ y H3=>∃ a es q m,x = .ref a∧DM P w K H3 a es∧y = .ref q∧SqT K H3 q (mkV m)∧es.length<sizeLine∧∀ o,D.nx σ (upd H3 a (dO P w a (putM es m q v) o))
theorem zfw (hu:X.A.units+1<cLine) (ho:PE X o td) (hi:PE X i ty) (hv:PE X value tv) (hs:swapsWith value (some (.Subscript o i pos')) pos.line X.env=pure false) :
  PS X (.Assign [.Subscript o i pos'] value pos) (zl6 X.prog X.w X.K td ty tv) := .mk <| by
 intro pins s σ H D I h
 refine wpAny_Assign_Subscript (thn (hv pins s σ H _ I h) λ r s1 ⟨v,H1,I1,rv,q1⟩=>thn (ho pins s1 σ H1 _ I1 q1) λ u s2 ⟨x,H2,I2,rx,q2⟩=>thn (hi pins s2 σ H2 _ I2 q2) λ iv s3 ⟨y,H3,I3,ry,a,es,q,m,ex,DD,ey,hm,hl,k⟩=>?_) hs
 subst ex ey
 cases rx
 cases ry
 obtain ⟨z,hd,xs,rr,dd⟩:=I3.dict DD
 refine wpAny_setItem_heap (hsz:=by rw [← Paired.length rr];exact z) (tupleKind_room_in1 hu) (I3.mark hm) dd λ h' dd' sb=>?_
 have he:∃ ob,h'.get? a=some ob:=let ⟨ob,_,_,hq,_⟩:=dd'; ⟨ob,hq⟩
 obtain ⟨o1,o2⟩:=DD.ob
 obtain ⟨ob,hob⟩:=zvy (P:=X.prog) (w:=X.w) (H:=H3) (es:=putM es m q v) (by have:=ztn es m q v;omega) hd (zdr rr m rv) dd'
 exact ⟨σ,_,I3.write (t':=_) (x:=a) (e:=a) (by rw [o2];exact True.intro) (.inl rfl) (λ b ob hb z=>(sb.2 b hb).trans z) he hob,k ob⟩
noncomputable def zc8 (P:Program) (w:World) (K:W.Frag) (td ty:TE):TE:=λ σ H Q=>td σ H λ x H1=>∃ a es,x = .ref a∧DM P w K H1 a es∧ty σ H1 λ y H2=>∃ q m,y = .ref q∧DM P w K H2 a es∧SqT K H2 q (mkV m)∧Q ((zid es m).getD .non) H2
theorem zpx {apos cpos:Pos} (hu:X.A.units+1<cLine) (ho:PE X o td) (he:PE X e ty) (hbase:attributeBase o "get" X.env (eval o X.env)=eval o X.env:=by rfl)
  (hfew:((backTo cpos (starEach [e] X.env)).all (λ x => !x.1) && (backToKw cpos (keywordEach [] X.env)).all (λ x=>x.1.isSome)
   && decide (([e]:List Expr).length+([]:List Keyword).length+(if ([]:List Keyword).isEmpty then 0 else 1)<30))=true:=by rfl)
  (hline:(apos.endLine == cpos.line)=true:=by rfl) (htr:backTo cpos (starEach [e] X.env)=[(false,eval e X.env)]:=by rfl):PE X (.Call (.Attribute o "get" apos) [e] [] cpos) (zc8 X.prog X.w X.K td ty) := .mk <| by
 intro pins s σ H Q I h
 refine wpAny_Call_method hbase hfew hline PySem.F.plainAttrs_dict PySem.F.slot_dict_get PySem.F.type_dict_get (thn (ho pins s σ H _ I h) λ u s1 ⟨x,H1,I1,rx,a,es,ex,D,q1⟩=>?_)
 subst ex
 cases rx
 obtain ⟨_,_,xs,_,dd⟩:=I1.dict D
 refine ⟨dd.typeIs,λ b q=>?_,?_⟩
 ·cases q
  obtain ⟨ob,_,_,h1,h2,_⟩:=dd
  exact ⟨ob,h1,h2.2.1⟩
 rw [htr]
 refine Calls.callWith_builtin rfl (Calls.evalArgs_plain (Calls.spliced_cons (thn (he pins s1 σ H1 _ I1 q1) λ iv s2 ⟨y,H2,I2,ry,q,m,ey,D2,hm,k⟩=>Calls.spliced_nil ?_)))
 subst ey
 cases ry
 obtain ⟨_,hd,xs,r,dd⟩:=I2.dict D2
 exact call_meetsIn PySem.F.slot_dict_get dd.typeIs PySem.F.entry_dict_get (PySem.F.args_dict_get_2 _ _) (meetsH_dict_get (dK X.prog X.w) a q hd) ⟨tupleKind_room_in1 hu,mkK m,xs,I2.mark hm,dd,⟨_,H2,I2.tok _,zlq (d := .non) (zci r m) (show RelV .non Value.none from rfl),k⟩⟩
end
end L2
namespace L2
open PySem PySem.Spec PyProof.Rows PySem.NumText
noncomputable def RawD (h:Heap) (d:Addr) (ds:Array DictEntry) (ep:Nat):Prop:=∃ o,h.get? d=some o∧o.cls = .type "dict" ∧ o.data = .dict ds ep
noncomputable def zue (d:Addr) (i n ep:Nat) (first:Value) (f:Bool) (ok ov:Value):Obj:={ cls := .type "dict_itemiterator",data := .fields #[first,.bool f,.ref d,.int i 0,.int n 0,.int ep 0,ok,ov] }
section
variable {prog:Program} {w:World} {A:Around} {E:Value→Shared→Prop} {s:Shared} {d it v:Addr} {ds:Array DictEntry} {ep i:Nat} {ok ov:Value}
theorem zle:Builtin.Dict_items.ownsTuple "dict_itemiterator" = true:=by decide
theorem zzd {Q:Value→Shared→Prop} (hv:s.heap.IsItemsView v d) (hd:RawD s.heap d ds ep)
  (k:Q (.ref s.heap.objs.size) { s with heap:=s.heap.push (zue d 0 ds.size ep .none false .none .none) }) :
  wpAny (model prog w) A (pyIter (.ref v)) Q E s:=by
 obtain ⟨vo,v1,v2,v3⟩:=id hv
 obtain ⟨o,d1,d2,d3⟩:=hd
 refine wpAny_pyIter_slot hv.typeIs F.slot_dict_items_iter (wpAny_call_entry F.slot_dict_items_iter hv.typeIs F.entry_dict_items_iter ?_ (F.args_dict_items_iter_1 _))
 unfold Builtin.«dict_items.__iter__» Builtin.Dict_items.dictOf Builtin.Dict_items.newIterator
 refine wpAny_bind (wpAny_pure (wpAny_bind (wpAny_bind (wpAny_field v1 v3 (x := .ref d) rfl (wpAny_pure (wpAny_bind (wpAny_bind (wpAny_dictEntries d1 d3 (wpAny_bind (wpAny_dictEpoch d1 d3 ?_))))))))))
 simp only [zle,if_true]
 refine wpAny_newObj_type (wpAny_pure ⟨_,rfl, "dict_itemiterator",_,⟨_,Heap.get?_push_size _ rfl,rfl⟩,F.slot_dict_itemiterator_next.lookup,?_⟩) ?_
 ·simpa [rawInt,Builtin.Dict_items.ownedTupleFields,zue] using k
 ·simp only [sizeOk,Builtin.Dict_items.ownedTupleFields,List.size_toArray,List.length_append,List.length_cons,List.length_nil,sizeLine_eq]
  omega
theorem zxj {Q:Option Value→Shared→Prop} {e:DictEntry} (hi:s.heap.get? it=some (zue d i ds.size ep .none false ok ov)) (hd:RawD s.heap d ds ep) (he:ds[i]? = some e)
  (k:∀ h',h'.get? it=some (zue d (i+1) ds.size ep (rawInt s.heap.objs.size) false e.key e.val)→h'.get? s.heap.objs.size=some { cls := .type "tuple",data := .seq #[e.key,e.val] }→h'.objs.size=s.heap.objs.size+1 →
   (∀ b o,b≠it→s.heap.get? b=some o→h'.get? b=some o)→Q (some (.ref s.heap.objs.size)) { s with heap:=h' }):wpAny (model prog w) A (pyNext (.ref it)) Q E s:=by
 obtain ⟨o,d1,d2,d3⟩:=hd
 have ty:s.TypeIs (.ref it) "dict_itemiterator" := ⟨_,hi,rfl⟩
 unfold pyNext
 refine wpAny_bind (wpAny_attempt (wpAny_callSpecial?_slot ty F.slot_dict_itemiterator_next (wpAny_call_entry F.slot_dict_itemiterator_next ty F.entry_dict_itemiterator_next ?_ (F.args_dict_itemiterator_next_1 _))))
 unfold Builtin.«dict_itemiterator.__next__»
 refine wpAny_bind (wpAny_pure (wpAny_bind (wpAny_bind (wpAny_bind (wpAny_typeNameOfWhole_itemiter ty (wpAny_pure (wpAny_bind (wpAny_fieldsOf hi rfl ?_))))))))
 simp only [zle,if_true]
 have e1:(Value.ref d == Value.none)=false:=rfl
 dsimp only [List.drop,List.take]
 rw [if_neg (by rw [e1];exact Bool.false_ne_true)]
 refine wpAny_bind (wpAny_pure (wpAny_bind (wpAny_dictEntries d1 d3 ?_)))
 rw [if_neg (by simp)]
 refine wpAny_bind (wpAny_pure (wpAny_bind (wpAny_dictEpoch d1 d3 ?_)))
 rw [if_neg (by simp)]
 refine wpAny_pure ?_
 dsimp only
 rw [if_neg (by omega),Int.toNat_natCast,he]
 dsimp only
 refine wpAny_bind (wpAny_bind (wpAny_typeNameOfWhole_itemiter ty (wpAny_pure ?_)))
 refine wpAny_bind (wpAny_isOneOf_itemiter ty ?_)
 simp only [zle,if_true]
 rw [if_neg (by decide)]
 refine wpAny_bind (wpAny_setField_rec (k:=3) hi (by show 3<8;decide) λ h1 g1 sb1=>?_)
 have g1:h1.get? it=some (zue d (i+1) ds.size ep .none false ok ov):=g1
 have ty1:({ s with heap:=h1 }:Shared).TypeIs (.ref it) "dict_itemiterator" := ⟨_,g1,rfl⟩
 refine wpAny_bind (wpAny_holding (wpAny_bind (wpAny_isOneOf_itemiter ty1 ?_)))
 rw [if_neg (by decide)]
 refine wpAny_bind (wpAny_isOneOf_itemiter ty1 ?_)
 rw [if_neg (by decide)]
 unfold Builtin.Dict_items.pairFromOwner
 refine wpAny_bind (wpAny_newTuple ?_)
 have hz:h1.objs.size=s.heap.objs.size:=sb1.1
 obtain ⟨h2,hh2⟩:∃ h2,h2=h1.push { cls := .type "tuple",data := .seq [e.key,e.val].toArray }:=⟨_,rfl⟩
 dsimp only
 rw [← hh2]
 have g2:h2.get? it=some (zue d (i+1) ds.size ep .none false ok ov):=by rw [hh2];exact Heap.get?_push_of_some _ g1
 have t2:h2.get? h1.objs.size=some { cls := .type "tuple",data := .seq [e.key,e.val].toArray }:=by rw [hh2];exact Heap.get?_push_size _ rfl
 have z2:h2.objs.size=s.heap.objs.size+1:=by rw [hh2,Heap.size_push,hz]
 have nit:h1.objs.size≠it:=Nat.ne_of_gt (Heap.lt_size g1)
 unfold Builtin.Dict_items.ownedTupleIsFree
 refine wpAny_bind (wpAny_bind (wpAny_field g2 rfl (x := .none) rfl (wpAny_pure ?_)))
 rw [if_pos rfl]
 refine wpAny_bind (wpAny_field g2 rfl (x:=ok) rfl (wpAny_bind (wpAny_field g2 rfl (x:=ov) rfl ?_)))
 refine wpAny_bind (wpAny_setField_rec (k:=6) g2 (by show 6<8;decide) λ h3 g3 sb3=>?_)
 refine wpAny_bind (wpAny_setField_rec (k:=7) g3 (by show 7<8;decide) λ h4 g4 sb4=>?_)
 refine wpAny_bind (wpAny_setField_rec (k:=0) g4 (by show 0<8;decide) λ h5 g5 sb5=>?_)
 refine wpAny_bind (wpAny_setField_rec (k:=1) g5 (by show 1<8;decide) λ h6 g6 sb6=>?_)
 refine wpAny_bind (wpAny_letGo (wpAny_pure (wpAny_pure ⟨_,rfl,wpAny_pure ?_⟩)))
 have kp:∀ b o,b≠it→h2.get? b=some o→h6.get? b=some o:=λ b o hb q=>(sb6.2 b hb).trans ((sb5.2 b hb).trans ((sb4.2 b hb).trans ((sb3.2 b hb).trans q)))
 rw [hz]
 refine k h6 ?_ ?_ ?_ λ b o hb q=>kp b o hb ?_
 ·rw [← hz];exact g6
 ·rw [← hz];exact kp _ _ nit t2
 ·rw [sb6.1,sb5.1,sb4.1,sb3.1];exact z2
 ·rw [hh2];exact Heap.get?_push_of_some _ ((sb1.2 b hb).trans q)
theorem zno {Q:Option Value→Shared→Prop} {e:DictEntry} {a:Addr} {f:Bool} {oa:Obj} (hi:s.heap.get? it=some (zue d i ds.size ep (rawInt a) f ok ov)) (ha:s.heap.get? a=some oa) (hn:a≠it) (hd:RawD s.heap d ds ep) (he:ds[i]? = some e)
  (k:∀ h',h'.get? it=some (zue d (i+1) ds.size ep (rawInt a) true ok ov)→h'.get? s.heap.objs.size=some { cls := .type "tuple",data := .seq #[e.key,e.val] }→h'.objs.size=s.heap.objs.size+1 →
   (∀ b o,b≠it→s.heap.get? b=some o→h'.get? b=some o)→Q (some (.ref s.heap.objs.size)) { s with heap:=h' }):wpAny (model prog w) A (pyNext (.ref it)) Q E s:=by
 obtain ⟨o,d1,d2,d3⟩:=hd
 have ty:s.TypeIs (.ref it) "dict_itemiterator" := ⟨_,hi,rfl⟩
 unfold pyNext
 refine wpAny_bind (wpAny_attempt (wpAny_callSpecial?_slot ty F.slot_dict_itemiterator_next (wpAny_call_entry F.slot_dict_itemiterator_next ty F.entry_dict_itemiterator_next ?_ (F.args_dict_itemiterator_next_1 _))))
 unfold Builtin.«dict_itemiterator.__next__»
 refine wpAny_bind (wpAny_pure (wpAny_bind (wpAny_bind (wpAny_bind (wpAny_typeNameOfWhole_itemiter ty (wpAny_pure (wpAny_bind (wpAny_fieldsOf hi rfl ?_))))))))
 simp only [zle,if_true]
 have e1:(Value.ref d == Value.none)=false:=rfl
 dsimp only [List.drop,List.take]
 rw [if_neg (by rw [e1];exact Bool.false_ne_true)]
 refine wpAny_bind (wpAny_pure (wpAny_bind (wpAny_dictEntries d1 d3 ?_)))
 rw [if_neg (by simp)]
 refine wpAny_bind (wpAny_pure (wpAny_bind (wpAny_dictEpoch d1 d3 ?_)))
 rw [if_neg (by simp)]
 refine wpAny_pure ?_
 dsimp only
 rw [if_neg (by omega),Int.toNat_natCast,he]
 dsimp only
 refine wpAny_bind (wpAny_bind (wpAny_typeNameOfWhole_itemiter ty (wpAny_pure ?_)))
 refine wpAny_bind (wpAny_isOneOf_itemiter ty ?_)
 simp only [zle,if_true]
 rw [if_neg (by decide)]
 refine wpAny_bind (wpAny_setField_rec (k:=3) hi (by show 3<8;decide) λ h1 g1 sb1=>?_)
 have g1:h1.get? it=some (zue d (i+1) ds.size ep (rawInt a) f ok ov):=g1
 have ty1:({ s with heap:=h1 }:Shared).TypeIs (.ref it) "dict_itemiterator" := ⟨_,g1,rfl⟩
 refine wpAny_bind (wpAny_holding (wpAny_bind (wpAny_isOneOf_itemiter ty1 ?_)))
 rw [if_neg (by decide)]
 refine wpAny_bind (wpAny_isOneOf_itemiter ty1 ?_)
 rw [if_neg (by decide)]
 unfold Builtin.Dict_items.pairFromOwner
 refine wpAny_bind (wpAny_newTuple ?_)
 have hz:h1.objs.size=s.heap.objs.size:=sb1.1
 obtain ⟨h2,hh2⟩:∃ h2,h2=h1.push { cls := .type "tuple",data := .seq [e.key,e.val].toArray }:=⟨_,rfl⟩
 dsimp only
 rw [← hh2]
 have g2:h2.get? it=some (zue d (i+1) ds.size ep (rawInt a) f ok ov):=by rw [hh2];exact Heap.get?_push_of_some _ g1
 have t2:h2.get? h1.objs.size=some { cls := .type "tuple",data := .seq [e.key,e.val].toArray }:=by rw [hh2];exact Heap.get?_push_size _ rfl
 have a2:h2.get? a=some oa:=by rw [hh2];exact Heap.get?_push_of_some _ ((sb1.2 a hn).trans ha)
 have z2:h2.objs.size=s.heap.objs.size+1:=by rw [hh2,Heap.size_push,hz]
 have nit:h1.objs.size≠it:=Nat.ne_of_gt (Heap.lt_size g1)
 have old:∀ b o,b≠it→s.heap.get? b=some o→h2.get? b=some o:=λ b o hb q=>by rw [hh2];exact Heap.get?_push_of_some _ ((sb1.2 b hb).trans q)
 unfold Builtin.Dict_items.ownedTupleIsFree
 refine wpAny_bind (wpAny_bind (wpAny_field g2 rfl (x:=rawInt a) rfl ?_))
 show wpAny _ _ (do let x ← loadIfAlive (a:Int).toNat;_) _ _ _
 refine wpAny_bind (W.kdx_alive a2 ?_)
 rw [if_neg (by simp)]
 refine wpAny_bind (wpAny_field g2 rfl (x := .bool f) rfl ?_)
 cases f with
 | true =>
  rw [if_neg (by decide)]
  refine wpAny_pure ?_
  rw [if_neg (by decide)]
  refine wpAny_pure (wpAny_pure ⟨_,rfl,wpAny_pure ?_⟩)
  rw [hz]
  refine k h2 g2 ?_ z2 old
  rw [← hz];exact t2
 | false =>
  rw [if_pos (by decide)]
  refine wpAny_bind (wpAny_setField_rec (k:=1) g2 (by show 1<8;decide) λ h3 g3 sb3=>?_)
  refine wpAny_pure ?_
  rw [if_neg (by decide)]
  refine wpAny_pure (wpAny_pure ⟨_,rfl,wpAny_pure ?_⟩)
  rw [hz]
  refine k h3 g3 ?_ (by rw [sb3.1];exact z2) λ b o hb q=>(sb3.2 b hb).trans (old b o hb q)
  rw [← hz];exact (sb3.2 _ nit).trans t2
theorem zyj {Q:Option Value→Shared→Prop} {first:Value} {f:Bool} (hh:A.handled=none) (hi:s.heap.get? it=some (zue d i ds.size ep first f ok ov)) (hd:RawD s.heap d ds ep) (he:ds[i]? = none)
  (k:∀ h',(∀ b o,b≠it→s.heap.get? b=some o→h'.get? b=some o)→Q none { s with heap:=h' }):wpAny (model prog w) A (pyNext (.ref it)) Q E s:=by
 obtain ⟨o,d1,d2,d3⟩:=hd
 have ty:s.TypeIs (.ref it) "dict_itemiterator" := ⟨_,hi,rfl⟩
 unfold pyNext
 refine wpAny_bind (wpAny_attempt (wpAny_callSpecial?_slot ty F.slot_dict_itemiterator_next (wpAny_call_entry F.slot_dict_itemiterator_next ty F.entry_dict_itemiterator_next ?_ (F.args_dict_itemiterator_next_1 _))))
 unfold Builtin.«dict_itemiterator.__next__»
 refine wpAny_bind (wpAny_pure (wpAny_bind (wpAny_bind (wpAny_bind (wpAny_typeNameOfWhole_itemiter ty (wpAny_pure (wpAny_bind (wpAny_fieldsOf hi rfl ?_))))))))
 simp only [zle,if_true]
 have e1:(Value.ref d == Value.none)=false:=rfl
 dsimp only [List.drop,List.take]
 rw [if_neg (by rw [e1];exact Bool.false_ne_true)]
 refine wpAny_bind (wpAny_pure (wpAny_bind (wpAny_dictEntries d1 d3 ?_)))
 rw [if_neg (by simp)]
 refine wpAny_bind (wpAny_pure (wpAny_bind (wpAny_dictEpoch d1 d3 ?_)))
 rw [if_neg (by simp)]
 refine wpAny_pure ?_
 dsimp only
 rw [if_neg (by omega),Int.toNat_natCast,he]
 dsimp only
 refine wpAny_bind (wpAny_bind (wpAny_typeNameOfWhole_itemiter ty (wpAny_pure ?_)))
 simp only [zle,if_true]
 refine wpAny_bind (wpAny_setField_rec (k:=2) hi (by show 2<8;decide) λ h1 g1 sb=>?_)
 unfold newExc raiseNew
 refine wpAny_bind (wpAny_bind (wpAny_newObj_type ?_))
 have fa:firstArgMember (.type "StopIteration") []=pure Value.none:=by
  rw [firstArgMember.eq_1]
  generalize (Manifest.find? "StopIteration").elim false (λ t=>t.mro.contains "StopIteration" || t.mro.contains "SystemExit")=b
  cases b <;> rfl
 refine wpAny_bind (wpAny_of_eq fa (wpAny_newObj_type ?_ (sizeOk_excFields _ _ _ _ _ _ _ _)))
 refine wpAny_bind (wpAny_handled ?_)
 rw [show A.in1.handled=none from hh]
 refine wpAny_throw ?_
 refine wpAny_bind (wpAny_isInstance ⟨_,Heap.get?_push_size _ rfl,rfl⟩ isSubtype_stop ?_)
 rw [if_pos rfl]
 refine wpAny_pure (k _ λ b o hb e=>?_)
 exact Heap.get?_push_of_some _ (Heap.get?_push_of_some _ ((sb.2 b hb).trans e))
end
end L2
namespace L2
open PySem PySem.Spec PyProof.Rows PySem.NumText
noncomputable def ziy (a b:Value):Obj:={ cls := .type "tuple",data := .seq #[a,b] }
structure Got (ds:Array DictEntry) (lo:Addr) (h:Heap) (as:List Addr):Prop where
 at_:∀ (j:Nat) (a:Addr),as[j]? = some a→lo≤a∧∃ e,ds[j]? = some e∧h.get? a=some (ziy e.key e.val)
 nd:as.Nodup
section
variable {prog:Program} {w:World} {A:Around} {E:Value→Shared→Prop} {s:Shared} {d it S r:Addr} {ds:Array DictEntry} {ep:Nat}
theorem zeg {R:Result→Shared→Prop} (hh:A.handled=none) (hn:ds.size≤sizeLine) (nSI:S≠it) (ndS:d≠S) (ndI:d≠it) (res:Value) {h1:Heap} {lo:Addr}
  (k:∀ h' tk acc c as,(∀ b o,b≠S→b≠it→h1.get? b=some o→h'.get? b=some o)→h'.get? S=some { cls := .type "list",data := .seq acc c }→as.length=ds.size→Got ds lo h' as→acc.toList=as.map Value.ref→R (.ok (.ret res)) { s with heap:=h',toks:=tk }) :
  ∀ (n i:Nat) (h:Heap) (tk c:Nat) (acc:Array Value) (as:List Addr) (first:Value) (f:Bool) (ok ov:Value),ds.size - i=n→i≤ds.size→h.get? it=some (zue d i ds.size ep first f ok ov)→((first = .none∧f=false) ∨ ∃ (a:Addr) (oa:Obj),first=rawInt a∧h.get? a=some oa∧a≠it∧a≠S)→RawD h d ds ep →
   (∀ b o,b≠S→b≠it→h1.get? b=some o→h.get? b=some o)→h.get? S=some { cls := .type "list",data := .seq acc c }→acc.toList=as.map Value.ref→as.length=i→Got ds lo h as→(∀ a∈as,a≠S∧a≠it)→lo≤h.objs.size →
   codeAny (model prog w) A (.builtin "list.extend.loop" ⟨[.ref S,.ref it,res],[]⟩) R { s with heap:=h,toks:=tk }:=by
 intro n
 induction n with
 | zero =>
  intro i h tk c acc as first f ok ov hni hi hit hfirst hd kp hS hacc hal hG hne hlo
  refine codeAny_builtin F.entry_extend_loop ?_
  rw [Around.under_plainId F.plain_extend_loop]
  refine wpAny_bind (zyj (s:={ s with heap:=h,toks:=tk }) hh hit hd (by rw [Array.getElem?_eq_none];omega) λ h' kp'=>?_)
  refine wpAny_pure (k h' tk acc c as (λ b o h1' h2' e=>kp' b o h2' (kp b o h1' h2' e)) (kp' _ _ nSI hS) (by omega) ⟨λ j a e=>?_,hG.nd⟩ hacc)
  obtain ⟨q1,e1,q2,q3⟩:=hG.at_ j a e
  exact ⟨q1,e1,q2,kp' _ _ (hne a (List.mem_of_getElem? e)).2 q3⟩
 | succ n ih =>
  intro i h tk c acc as first f ok ov hni hi hit hfirst hd kp hS hacc hal hG hne hlo
  obtain ⟨e,he⟩:∃ e,ds[i]? = some e:=⟨_,Array.getElem?_eq_getElem (by omega)⟩
  refine codeAny_builtin F.entry_extend_loop ?_
  rw [Around.under_plainId F.plain_extend_loop]
  have hItL:=Heap.lt_size hit
  have hSL:=Heap.lt_size hS
  have go:∀ h' first' f' ok' ov',h'.get? it=some (zue d (i+1) ds.size ep first' f' ok' ov')→((first' = .none∧f'=false) ∨ ∃ (a:Addr) (oa:Obj),first'=rawInt a∧h'.get? a=some oa∧a≠it∧a≠S)→h'.get? h.objs.size=some (ziy e.key e.val)→h'.objs.size=h.objs.size+1 →
    (∀ b o,b≠it→h.get? b=some o→h'.get? b=some o)→wpAny (model prog w) A.in1 (do Builtin.List.listUpdate (.ref S) λ x=>x.push (.ref h.objs.size);again (.builtin "list.extend.loop" ⟨[.ref S,.ref it,res],[]⟩))
     (λ fin s'=>match fin with | .done f=>R (.ok f) s' | .again c'=>c'.quiet=true∧codeAny (model prog w) A c' R s') (λ e s'=>R (.error e) s') { s with heap:=h',toks:=tk }:=by
   intro h' first' f' ok' ov' hit' hfirst' ht hz kp'
   have hS':=kp' _ _ nSI hS
   have haz:acc.size=as.length:=by rw [← Array.length_toList,hacc,List.length_map]
   refine wpAny_bind (wpAny_updateSeq (a:=S) (s:={ s with heap:=h',toks:=tk }) hS' rfl ?_ (by omega) (by rw [Array.size_push];omega))
   refine wpAny_pure ⟨plainId_quiet F.plain_extend_loop _,?_⟩
   have nt:h.objs.size≠S:=Nat.ne_of_gt hSL
   have nti:h.objs.size≠it:=Nat.ne_of_gt hItL
   have oth:∀ b,b≠S→(h'.update S (Obj.mapSeq λ x=>x.push (.ref h.objs.size))).get? b=h'.get? b:=λ b hb=>Heap.get?_update_other _ _ (Ne.symm hb)
   have self:(h'.update S (Obj.mapSeq λ x=>x.push (.ref h.objs.size))).get? S=some { cls := .type "list",data := .seq (acc.push (.ref h.objs.size)) (if (acc.push (.ref h.objs.size)).size == acc.size then c else c+1) }:=by
    exact Heap.get?_update_self _ hS' rfl
   refine ih (i+1) _ tk _ _ (as++[h.objs.size]) first' f' ok' ov' (by omega) (by omega) (by rw [oth _ nSI.symm];exact hit') ?_ ?_ ?_ self ?_ ?_ ?_ ?_ ?_
   ·rcases hfirst' with z | ⟨a,oa,z1,z2,z3,z4⟩
    ·exact .inl z
    ·exact .inr ⟨a,oa,z1,by rw [oth _ z4];exact z2,z3,z4⟩
   ·obtain ⟨o,o1,o2⟩:=hd
    exact ⟨o,by rw [oth _ ndS];exact kp' _ _ ndI o1,o2⟩
   ·intro b o hb1 hb2 q
    rw [oth _ hb1]
    exact kp' _ _ hb2 (kp b o hb1 hb2 q)
   ·rw [Array.toList_push,hacc,List.map_append]
    rfl
   ·rw [List.length_append,List.length_cons,List.length_nil];omega
   ·refine ⟨λ j a q=>?_,List.nodup_append.mpr ⟨hG.nd,List.nodup_cons.mpr ⟨by simp,List.nodup_nil⟩,λ x hx y hy=>?_⟩⟩
    rotate_left
    ·rw [List.mem_singleton.mp hy]
     obtain ⟨j,hj⟩:=List.getElem?_of_mem hx
     obtain ⟨_,_,_,q3⟩:=hG.at_ j x hj
     exact Nat.ne_of_lt (Heap.lt_size q3)
    rcases Nat.lt_or_ge j as.length with hj | hj
    ·rw [List.getElem?_append_left hj] at q
     obtain ⟨q1,e1,q2,q3⟩:=hG.at_ j a q
     obtain ⟨n1,n2⟩:=hne a (List.mem_of_getElem? q)
     exact ⟨q1,e1,q2,by rw [oth _ n1];exact kp' _ _ n2 q3⟩
    ·have hj':j=as.length:=by
      have:=(List.getElem?_eq_some_iff.mp q).1
      rw [List.length_append,List.length_cons,List.length_nil] at this
      omega
     rw [hj',List.getElem?_concat_length] at q
     cases q
     refine ⟨hlo,e,by rw [hj',hal];exact he,?_⟩
     rw [oth _ nt]
     exact ht
   ·intro a ha
    rcases List.mem_append.mp ha with z | z
    ·exact hne a z
    ·rw [List.mem_singleton.mp z];exact ⟨nt,nti⟩
   ·rw [Heap.size_update,hz];exact Nat.le_succ_of_le hlo
  rcases hfirst with ⟨rfl,rfl⟩ | ⟨a,oa,rfl,ha,hai,haS⟩
  ·refine wpAny_bind (zxj (s:={ s with heap:=h,toks:=tk }) hit hd he λ h' g1 g2 g3 g4=>?_)
   exact go h' _ _ _ _ g1 (.inr ⟨_,_,rfl,g2,Nat.ne_of_gt hItL,Nat.ne_of_gt hSL⟩) g2 g3 g4
  ·refine wpAny_bind (zno (s:={ s with heap:=h,toks:=tk }) hit ha hai hd he λ h' g1 g2 g3 g4=>?_)
   exact go h' _ _ _ _ g1 (.inr ⟨a,oa,rfl,g4 _ _ hai ha,hai,haS⟩) g2 g3 g4
theorem znh {R:List Value→Shared→Prop} (hh:A.handled=none) (hv:s.heap.IsItemsView r d) (hd:RawD s.heap d ds ep) (hn:ds.size≤sizeLine)
  (k:∀ h' tk as,(∀ b o,s.heap.get? b=some o→h'.get? b=some o)→as.length=ds.size→Got ds s.heap.objs.size h' as→R (as.map Value.ref) { s with heap:=h',toks:=tk }):wpAny (model prog w) A (collect (.ref r)) R E s:=by
 unfold collect
 refine wpAny_bind (wpAny_runValue (codeAny_builtin entry_proto_collect' ?_))
 rw [Around.under_plainId F.plain_proto_collect]
 refine wpAny_bind (wpAny_newObj_type (wpAny_pure ⟨plainId_quiet F.plain_list_iadd _,codeAny_builtin entry_list_iadd' ?_⟩))
 rw [Around.under_plainId F.plain_list_iadd]
 obtain ⟨o,d1,d2,d3⟩:=id hd
 obtain ⟨vo,v1,v2⟩:=id hv
 obtain ⟨h1,hh1⟩:∃ h1,h1=s.heap.push { cls := .type "list",data := .seq (#[]:Array Value) }:=⟨_,rfl⟩
 have hS1:h1.get? s.heap.objs.size=some { cls := .type "list",data := .seq #[] }:=by rw [hh1];exact Heap.get?_push_size _ rfl
 have kp1:∀ b ob,s.heap.get? b=some ob→h1.get? b=some ob:=λ b ob e=>by rw [hh1];exact Heap.get?_push_of_some _ e
 have z1:h1.objs.size=s.heap.objs.size+1:=by rw [hh1,Heap.size_push]
 have hv1:h1.IsItemsView r d:=⟨vo,kp1 _ _ v1,v2⟩
 have hd1:RawD h1 d ds ep:=⟨o,kp1 _ _ d1,d2,d3⟩
 show wpAny _ _ (Builtin.«list.__iadd__» _) _ _ { s with heap:=s.heap.push { cls := .type "list",data := .seq (#[]:Array Value) } }
 rw [← hh1]
 unfold Builtin.«list.__iadd__»
 refine wpAny_bind (wpAny_pure ?_)
 show wpAny _ _ (Builtin.List.listExtendWith (.ref s.heap.objs.size) (.ref r) (.ref s.heap.objs.size)) _ _ _
 unfold Builtin.List.listExtendWith
 have hv1':({ s with heap:=h1 }:Shared).heap.IsItemsView r d:=hv1
 refine wpAny_bind (wpAny_typeOf hv1'.typeIs ?_)
 have nr:s.heap.objs.size≠r:=Nat.ne_of_gt (Heap.lt_size v1)
 rw [if_neg (by simp [Builtin.List.listSameRef,nr])]
 refine wpAny_bind (zzd (s:={ s with heap:=h1 }) hv1 hd1 ?_)
 obtain ⟨h2,hh2⟩:∃ h2,h2=h1.push (zue d 0 ds.size ep .none false .none .none):=⟨_,rfl⟩
 have z2:h2.objs.size=h1.objs.size+1:=by rw [hh2,Heap.size_push]
 have kp2:∀ b ob,h1.get? b=some ob→h2.get? b=some ob:=λ b ob e=>by rw [hh2];exact Heap.get?_push_of_some _ e
 have i2:h2.get? h1.objs.size=some (zue d 0 ds.size ep .none false .none .none):=by rw [hh2];exact Heap.get?_push_size _ rfl
 show wpAny _ _ _ _ _ { s with heap:=h1.push (zue d 0 ds.size ep .none false .none .none) }
 rw [← hh2]
 have hv2:({ s with heap:=h2 }:Shared).heap.IsItemsView r d:=⟨vo,kp2 _ _ (kp1 _ _ v1),v2⟩
 refine wpAny_bind (wpAny_holding (W.kdx_hint hv2.typeIs ?_))
 have nSI:s.heap.objs.size≠h1.objs.size:=by rw [z1];exact Nat.ne_of_lt (Nat.lt_succ_self _)
 have ndS:d≠s.heap.objs.size:=Nat.ne_of_lt (Heap.lt_size d1)
 have ndI:d≠h1.objs.size:=Nat.ne_of_lt (Heap.lt_size (kp1 _ _ d1))
 have fin:∀ h3 c,h3.objs.size=h2.objs.size→(∀ b,b≠s.heap.objs.size→h3.get? b=h2.get? b)→h3.get? s.heap.objs.size=some { cls := .type "list",data := .seq #[] c } →
   codeAny (model prog w) A (.builtin "list.extend.loop" ⟨[.ref s.heap.objs.size,.ref h1.objs.size,.ref s.heap.objs.size],[]⟩) (λ r s'=>∃ h' tk acc c' as,r = .ok (.ret (.ref s.heap.objs.size))∧s'={ s with heap:=h',toks:=tk }∧(∀ b ob,s.heap.get? b=some ob→h'.get? b=some ob)∧h'.get? s.heap.objs.size=some { cls := .type "list",data := .seq acc c' }∧as.length=ds.size∧Got ds s.heap.objs.size h' as∧acc.toList=as.map Value.ref) { s with heap:=h3,toks:=s.toks }:=by
  intro h3 c z3 oth3 hS3
  refine zeg (ep:=ep) (d:=d) (h1:=h2) (lo:=s.heap.objs.size) hh hn nSI ndS ndI (.ref s.heap.objs.size) ?_ (ds.size - 0) 0 h3 s.toks c #[] [] .none false .none .none rfl (Nat.zero_le _) (by rw [oth3 _ nSI.symm];exact i2) (.inl ⟨rfl,rfl⟩) ⟨o,by rw [oth3 _ ndS];exact kp2 _ _ (kp1 _ _ d1),d2,d3⟩ (λ b ob hb1 hb2 e=>by rw [oth3 _ hb1];exact e) hS3 rfl rfl ⟨(λ j a e=>by simp at e),List.nodup_nil⟩ (λ a ha=>by simp at ha) (by rw [z3,z2,z1];exact Nat.le_succ_of_le (Nat.le_succ _))
  intro h' tk acc c' as kp' hS' hal hG hacc
  exact ⟨h',tk,acc,c',as,rfl,rfl,λ b ob e=>kp' b ob (Nat.ne_of_lt (Heap.lt_size e)) (Nat.ne_of_lt (Heap.lt_size (kp1 _ _ e))) (kp2 _ _ (kp1 _ _ e)),hS',hal,hG,hacc⟩
 refine wpAny_ite_split (λ _=>?_) (λ _=>?_)
 ·refine wpAny_bind (wpAny_rule (wpAny_bind (wpAny_bind (wpAny_updateSeq (a:=s.heap.objs.size) (s:={ s with heap:=h2 }) (kp2 _ _ hS1) rfl ?_ (Nat.zero_le _) (by show 1≤_;rw [sizeLine_eq];omega)))))
  have self:(h2.update s.heap.objs.size (Obj.mapSeq λ x=>x.push .none)).get? s.heap.objs.size=some { cls := .type "list",data := .seq #[.none] 1 }:=Heap.get?_update_self _ (kp2 _ _ hS1) rfl
  refine wpAny_updateSeq (a:=s.heap.objs.size) self rfl ?_ (by show 1≤_;rw [sizeLine_eq];omega) (Nat.zero_le _)
  refine wpAny_pure ⟨plainId_quiet F.plain_extend_loop _,codeAny_mono (fin _ 2 ?_ ?_ ?_) λ r s' ⟨h',tk,acc,c',as,e1,e2,kp',hS',hal,hG,hacc⟩=>?_⟩
  ·rw [Heap.size_update,Heap.size_update]
  ·intro b hb
   rw [Heap.get?_update_other _ _ (Ne.symm hb),Heap.get?_update_other _ _ (Ne.symm hb)]
  ·exact Heap.get?_update_self _ self rfl
  ·subst e1 e2
   refine wpAny_bind (wpAny_load hS' ?_)
   dsimp only
   rw [hacc]
   exact wpAny_pure (k h' tk as kp' hal hG)
 ·refine wpAny_pure ⟨plainId_quiet F.plain_extend_loop _,codeAny_mono (fin h2 0 rfl (λ _ _=>rfl) (kp2 _ _ hS1)) λ r s' ⟨h',tk,acc,c',as,e1,e2,kp',hS',hal,hG,hacc⟩=>?_⟩
  subst e1 e2
  refine wpAny_bind (wpAny_load hS' ?_)
  dsimp only
  rw [hacc]
  exact wpAny_pure (k h' tk as kp' hal hG)
end
noncomputable def layT (H:Hp):List (Addr×List V)→Hp
 | []=>H
 | t::ts=>upd (layT H ts) t.1 (.tup t.2)
theorem zjc {H:Hp} {b:Addr}:∀ {ts:List (Addr×List V)},(∀ t∈ts,b≠t.1)→layT H ts b=H b
 | [],_=>rfl
 | t::ts,h=>by
  show upd (layT H ts) t.1 (.tup t.2) b=H b
  rw [zha (h t List.mem_cons_self)]
  exact zjc λ u hu=>h u (List.mem_cons_of_mem _ hu)
theorem zgr {H:Hp} {b:Addr} {o:HO}:∀ {ts:List (Addr×List V)},layT H ts b=some o→(∃ t∈ts,t.1=b∧o = .tup t.2) ∨ ((∀ t∈ts,b≠t.1)∧H b=some o)
 | [],h=>.inr ⟨(λ _ z=>by cases z),h⟩
 | t::ts,h=>by
  have h:upd (layT H ts) t.1 (.tup t.2) b=some o:=h
  by_cases hb:b=t.1
  ·subst hb
   rw [upd_same] at h
   exact .inl ⟨t,List.mem_cons_self,rfl,(Option.some.inj h).symm⟩
  ·rw [zha hb] at h
   rcases zgr h with ⟨u,hu,e1,e2⟩ | ⟨h1,h2⟩
   ·exact .inl ⟨u,List.mem_cons_of_mem _ hu,e1,e2⟩
   ·refine .inr ⟨λ u hu=>?_,h2⟩
    rcases List.mem_cons.mp hu with rfl | hu
    ·exact hb
    ·exact h1 u hu
theorem zel {H:Hp}:∀ {ts:List (Addr×List V)} {t:Addr×List V},(ts.map (·.1)).Nodup→t∈ts→layT H ts t.1=some (.tup t.2)
 | u::ts,t,hd,ht=>by
  show upd (layT H ts) u.1 (.tup u.2) t.1=some (.tup t.2)
  rcases List.mem_cons.mp ht with rfl | ht'
  ·exact upd_same
  ·have hn:=(List.nodup_cons.mp hd)
   rw [zha (λ z=>hn.1 (by show u.1∈_;rw [← z];exact List.mem_map_of_mem (f:=(·.1)) ht'))]
   exact zel hn.2 ht'
section
variable {X:Cx} {pins:List (Addr×Obj)} {σ:St} {H:Hp} {s:Shared} {h':Heap}
theorem Inv.laidAll {t':Nat} (I:Inv X pins σ H s) (k:∀ b u,s.heap.get? b=some u→h'.get? b=some u) {ts:List (Addr×List V)} (hts:∀ t∈ts,s.heap.objs.size≤t.1∧ObjOk X.prog X.w H h' t.1 (.tup t.2)) :
  Inv X pins σ (layT H ts) { s with heap:=h',toks:=t' }:=by
 have old:∀ b u,H b=some u→∀ t∈ts,b≠t.1:=λ b u q t ht=>Nat.ne_of_lt (Nat.lt_of_lt_of_le (I.hok.lt q) (hts t ht).1)
 refine I.un ⟨λ b u q _ _ _=>k b u q,λ b u q _ _ _=>⟨u.slots,k b u q⟩,λ b u q n _=>?_,λ b u q _=>⟨u,k b u q⟩,λ b xs q=>?_,λ b u xs q=>?_,λ b ps q=>⟨#[],?_⟩⟩ ?_
 ·rw [zjc λ t ht=>Nat.ne_of_lt (Nat.lt_of_lt_of_le (Heap.lt_size q) (hts t ht).1)];exact n
 ·rw [zjc (old b _ q)];exact q
 ·rw [zjc (old b _ q)];exact q
 ·rw [zjc (old b _ q),q];simp
 ·intro b o q
  rcases zgr q with ⟨t,ht,rfl,rfl⟩ | ⟨hb,q⟩
  ·exact (hts t ht).2
  ·exact (I.hok b o q).stay (λ c v _ e=>k c v e) (λ c e=>by rw [zjc (old c _ e)];exact e) λ c xs e=>by rw [zjc (old c _ e)];exact e
end
end L2
namespace L2
open PySem PySem.Spec PyProof.Rows PySem.NumText
section
variable {prog:Program} {w:World} {A:Around} {E:Value→Shared→Prop} {s:Shared} {l:Addr} {xs:Array Value} {c:Nat} {sl:Array (Option Value)}
theorem zek {Q:Option Value→Shared→Prop} (hh:A.handled=none) (ho:s.heap.get? l=some { cls := .type "list",data := .seq xs c,slots:=sl })
  (k:∀ h' tk,(∀ b o,s.heap.get? b=some o→h'.get? b=some o)→Q none { s with heap:=h',toks:=tk }):wpAny (model prog w) A (getAttr? (.ref l) (Str.ofString "keys")) Q E s:=by
 unfold getAttr? mkText
 refine wpAny_bind (wpAny_bind (wpAny_fresh' (wpAny_pure ?_)))
 unfold getAttrBy?
 have ty:∀ tk,({ s with toks:=tk }:Shared).TypeIs (.ref l) "list" := λ tk=>⟨_,ho,rfl⟩
 refine wpAny_bind (wpAny_attempt ?_)
 unfold getAttrBy
 refine wpAny_holding (wpAny_bind (wpAny_typeOf (ty _) (wpAny_bind (wpAny_of_eq F.slot_list_getattribute.lookup ?_))))
 dsimp only
 rw [if_neg (by decide)]
 unfold getAttrByItsOwn hookBefore
 refine wpAny_bind (wpAny_of_eq (a:=none) (if_neg (by decide)) (wpAny_bind (wpAny_attempt (wpAny_holding ?_))))
 unfold callGetattribute
 rw [if_neg (by decide)]
 unfold boundAndCalled
 refine wpAny_bind (wpAny_of_eq (F.slot_list_getattribute.bind (.ref l)) ?_)
 have hmiss:typeLookup (.type "list") (Str.ofString "keys")=pure none:=am_miss_of_fast (by decide +kernel)
 refine call_meets F.slot_list_getattribute (ty _) am_entry_list_getattribute (F.args_list_getattribute_2 _ _) (meets_getattribute_miss_list l xs c sl _ _ hmiss (by decide +kernel) (by rw [sizeLine_eq];decide +kernel)) ⟨ho,hh,λ h' tk e ne=>?_⟩
 show wpAny _ _ (getattributeRaised _ _ _ _ _ _ _) _ _ _
 obtain ⟨t,u,he⟩:=ne.there
 unfold getattributeRaised
 refine wpAny_bind (wpAny_isInstance ⟨_,he,rfl⟩ sub_AttributeError ?_)
 rw [if_pos rfl]
 unfold hookBehind
 rw [if_neg (by decide)]
 refine wpAny_bind (wpAny_of_eq am_list_getattr_none ?_)
 unfold hookOrError attributeErrorLeaves
 dsimp only
 rw [if_pos (by decide)]
 refine wpAny_bind (wpAny_throw ?_)
 refine wpAny_bind (wpAny_isInstance ⟨_,he,rfl⟩ sub_AttributeError ?_)
 rw [if_pos rfl]
 exact wpAny_pure (k h' tk ne.keeps)
end
theorem zqc:entryFor table "dict.update.loop" = some Builtin.«dict.update.loop» := entryFor_of_tree (by rfl)
theorem zib:plainId "dict.update.loop" = true:=by decide +kernel
noncomputable abbrev Row:=List Key×Addr×Value
noncomputable def zdb (xs:List Row) (ps:List Row):List Row:=ps.foldl (λ xs p=>storedH xs p.1 p.2.1 p.2.2) xs
section
variable {prog:Program} {w:World} {A:Around} {E:Value→Shared→Prop} {s:Shared} {l d it:Addr}
theorem zzk (xs:List Row) (k:List Key) (a:Addr) (v:Value):(storedH xs k a v).length≤xs.length+1:=by
 unfold storedH
 split
 ·rw [List.length_map];omega
 ·rw [List.length_append];exact Nat.le_refl _
theorem ztm {xs:List Row} {k:List Key} {a:Addr} {v:Value} {x:Row} (h:x∈storedH xs k a v):x.2.1=a ∨ ∃ y∈xs,y.2.1=x.2.1:=by
 unfold storedH at h
 split at h
 ·obtain ⟨y,hy,rfl⟩:=List.mem_map.mp h
  refine .inr ⟨y,hy,?_⟩
  unfold putAt
  split <;> rfl
 ·rcases List.mem_append.mp h with z | z
  ·exact .inr ⟨x,z,rfl⟩
  ·rw [List.mem_singleton.mp z];exact .inl rfl
theorem zyi {h h':Heap} {k:List Key} {a:Addr} (hi:(dK prog w).is h k a) (q:∀ o,h.get? a=some o→h'.get? a=some o):(dK prog w).is h' k a:=by
 obtain ⟨o,its,n,h1,r⟩:=hi
 exact ⟨o,its,n,q o h1,r⟩
theorem zhh {h h':Heap} {xs:List Row} (hd:h.DictOfH (dK prog w) d xs) (q:∀ b o,b≠it→h.get? b=some o→h'.get? b=some o) (ndi:d≠it) (hn:∀ x∈xs,x.2.1≠it):h'.DictOfH (dK prog w) d xs:=by
 obtain ⟨o,ds,ep,a1,a2,a3,a4,a5,a6⟩:=hd
 exact ⟨o,ds,ep,q _ _ ndi a1,a2,a3,a4,λ x hx=>zyi (a5 x hx) λ o e=>q _ _ (hn x hx) e,a6⟩
theorem zed (ps:List Row) (p:Row):zdb [] (ps++[p])=storedH (zdb [] ps) p.1 p.2.1 p.2.2:=by
 unfold zdb
 rw [List.foldl_append]
 rfl
theorem zud:∀ (ps:List Row) (xs:List Row),(zdb xs ps).length≤xs.length+ps.length
 | [],xs=>Nat.le_refl _
 | p::ps,xs=>by
  have h1:=zud ps (storedH xs p.1 p.2.1 p.2.2)
  have h2:=zzk xs p.1 p.2.1 p.2.2
  show (zdb (storedH xs p.1 p.2.1 p.2.2) ps).length≤xs.length+(ps.length+1)
  omega
theorem zjk {R:Result→Shared→Prop} {items:Array Value} {ps:List Row} (hh:A.handled=none) (room:(dK prog w).room A.in1) (ndl:d≠l) (ndi:d≠it) (nli:l≠it) {h1:Heap} (res:Value) (hlen:items.size=ps.length) (hsz:ps.length≤1000)
  (hps:∀ (i:Nat) p,ps[i]? = some p→∃ t,items[i]? = some (.ref t)∧t≠d∧t≠it∧p.2.1≠d∧p.2.1≠it∧IsTup h1 t #[.ref p.2.1,p.2.2]∧(dK prog w).is h1 p.1 p.2.1)
  (k:∀ h' tk,(∀ b o,b≠d→b≠it→h1.get? b=some o→h'.get? b=some o)→h'.DictOfH (dK prog w) d (zdb [] ps)→R (.ok (.ret res)) { s with heap:=h',toks:=tk }) :
  ∀ (n i:Nat) (h:Heap) (tk:Nat) (cnt:Int) (ct:Tok),ps.length - i=n→i≤ps.length→h.IsListIter it l i→h.IsList l items→(∀ b o,b≠d→b≠it→h1.get? b=some o→h.get? b=some o)→h.DictOfH (dK prog w) d (zdb [] (ps.take i))→(∀ x∈zdb [] (ps.take i),x.2.1≠it∧x.2.1≠d) →
   codeAny (model prog w) A (.builtin "dict.update.loop" ⟨[.ref d,.ref it,.int cnt ct,res],[]⟩) R { s with heap:=h,toks:=tk }:=by
 intro n
 induction n with
 | zero =>
  intro i h tk cnt ct hni hi hit hl kp hd hx
  refine codeAny_builtin zqc ?_
  rw [Around.under_plainId zib]
  refine wpAny_bind (wpAny_pyNext_list_end (s:={ s with heap:=h,toks:=tk }) hh hit hl (by rw [Array.getElem?_eq_none];omega) λ h' ex=>?_)
  refine wpAny_bind (wpAny_bind (wpAny_pure (wpAny_pure (wpAny_pure ?_))))
  refine k h' tk (λ b o h1' h2' e=>ex b o h2' (kp b o h1' h2' e)) ?_
  have e:ps.take i=ps:=List.take_of_length_le (by omega)
  rw [e] at hd hx
  exact zhh hd ex ndi λ x q=>(hx x q).1
 | succ n ih =>
  intro i h tk cnt ct hni hi hit hl kp hd hx
  obtain ⟨p,hp⟩:∃ p,ps[i]? = some p:=⟨_,List.getElem?_eq_getElem (by omega)⟩
  obtain ⟨t,ht,n1,n2,n3,n4,ht1,his⟩:=hps i p hp
  refine codeAny_builtin zqc ?_
  rw [Around.under_plainId zib]
  refine wpAny_bind (wpAny_pyNext_list_item (s:={ s with heap:=h,toks:=tk }) hit hl ht λ h2 hit2 sb=>?_)
  obtain ⟨to,tc1,tc2,tn,tc3⟩:=ht1
  have ht2:h2.get? t=some to:=(sb.2 t n2).trans (kp t _ n1 n2 tc1)
  have hd2:h2.DictOfH (dK prog w) d (zdb [] (ps.take i)):=zhh hd (λ b o hb e=>(sb.2 b hb).trans e) ndi λ x q=>(hx x q).1
  have his2:(dK prog w).is h2 p.1 p.2.1:=zyi his λ o e=>(sb.2 _ n4).trans (kp _ _ n3 n4 e)
  have hlt:(zdb [] (ps.take i)).length≤sizeLine:=by
   have:=zud (ps.take i) []
   rw [List.length_take,List.length_nil] at this
   rw [sizeLine_eq]
   omega
  refine wpAny_bind (wpAny_holding (wpAny_bind ?_))
  rw [← Sem.tryCatch_eq]
  refine wpAny_tryCatch ?_
  unfold Builtin.Dict.pairItems
  refine wpAny_bind (wpAny_typeOf (T := "tuple") ⟨_,ht2,tc2⟩ ?_)
  rw [if_pos (by decide)]
  refine wpAny_bind (wpAny_seqItems ht2 tc3 (wpAny_pure ?_))
  show wpAny _ _ (holding [.ref p.2.1,p.2.2] (dictSet d (.ref p.2.1) p.2.2)) _ _ _
  refine wpAny_holding (wpAny_dictSet_heap (hsz:=hlt) room his2 hd2 λ h3 hd3 sb3=>?_)
  refine wpAny_pure ⟨plainId_quiet zib _,?_⟩
  have e1:ps.take (i+1)=ps.take i++[p]:=by
   obtain ⟨hlt',rfl⟩:=List.getElem?_eq_some_iff.mp hp
   exact List.take_succ_eq_append_getElem hlt'
  have keep3:∀ b o,b≠d→b≠it→h.get? b=some o→h3.get? b=some o:=λ b o hb1 hb2 e=>(sb3.2 b hb1).trans ((sb.2 b hb2).trans e)
  refine ih (i+1) h3 _ (cnt+1) 0 (by omega) (by omega) ?_ ?_ (λ b o hb1 hb2 e=>keep3 b o hb1 hb2 (kp b o hb1 hb2 e)) ?_ ?_
  ·obtain ⟨o,a1,a2⟩:=hit2
   exact ⟨o,(sb3.2 it ndi.symm).trans a1,a2⟩
  ·obtain ⟨o,a1,a2⟩:=hl
   exact ⟨o,keep3 _ _ ndl.symm nli a1,a2⟩
  ·rw [e1,zed];exact hd3
  ·rw [e1,zed]
   intro x hxm
   rcases ztm hxm with z | ⟨y,hy,z⟩
   ·rw [z];exact ⟨n4,n3⟩
   ·rw [← z];exact hx y hy
theorem zuf {Q:Value→Shared→Prop} {items:Array Value} {ps:List Row} {sl:Array (Option Value)} {c:Nat} (hh:A.handled=none) (room:(dK prog w).room A.in1.in1) (ho:s.heap.get? l=some { cls := .type "list",data := .seq items c,slots:=sl }) (hlen:items.size=ps.length) (hsz:ps.length≤1000)
  (hps:∀ (i:Nat) p,ps[i]? = some p→∃ t,items[i]? = some (.ref t)∧IsTup s.heap t #[.ref p.2.1,p.2.2]∧(dK prog w).is s.heap p.1 p.2.1)
  (k:∀ h' tk,(∀ b o,s.heap.get? b=some o→h'.get? b=some o)→h'.DictOfH (dK prog w) s.heap.objs.size (zdb [] ps)→Q (.ref s.heap.objs.size) { s with heap:=h',toks:=tk }):wpAny (model prog w) A (call (.type "dict") [.ref l]) Q E s:=by
 obtain ⟨h1,hh1⟩:∃ h1,h1=s.heap.push { cls := .type "dict",data := .dict (#[]:Array DictEntry) }:=⟨_,rfl⟩
 have kp1:∀ b o,s.heap.get? b=some o→h1.get? b=some o:=λ b o e=>by rw [hh1];exact Heap.get?_push_of_some _ e
 have hd1:h1.get? s.heap.objs.size=some { cls := .type "dict",data := .dict #[] }:=by rw [hh1];exact Heap.get?_push_size _ rfl
 refine callType_codes (Q₁:=λ obj s1=>obj = .ref s.heap.objs.size∧s1={ s with heap:=h1 }) F.kt_called_dict (F.kt_typeCall_dict_1 _) F.entry_dict_init (kt_code_dict_new _ ⟨rfl,by rw [hh1]⟩) λ obj s1 ⟨e1,e2⟩=>?_
 subst e1 e2
 have td:({ s with heap:=h1 }:Shared).TypeIs (.ref s.heap.objs.size) "dict" := ⟨_,hd1,rfl⟩
 refine ⟨td,F.args_dict_init_2 _ _,?_⟩
 unfold Builtin.«dict.__init__» Builtin.Dict.selfAndRest
 refine wpAny_bind (wpAny_bind (wpAny_notOrdered_dict td ?_))
 refine wpAny_bind (wpAny_pure (wpAny_pure ?_))
 show wpAny _ _ (Builtin.Dict.updateFrom "dict.__init__" s.heap.objs.size (.ref l) [] .none) _ _ _
 unfold Builtin.Dict.updateFrom
 have ho1:=kp1 _ _ ho
 refine wpAny_bind (wpAny_typeOf (T := "list") ⟨_,ho1,rfl⟩ ?_)
 rw [if_pos (by decide)]
 refine wpAny_bind (zek (s:={ s with heap:=h1 }) hh ho1 λ h2 tk kp2=>?_)
 rw [if_pos (by decide)]
 refine wpAny_bind (wpAny_rule ?_)
 have hl2:h2.IsList l items:=⟨_,kp2 _ _ ho1,rfl,c,rfl⟩
 refine wpAny_bind (wpAny_pyIter_list (s:={ s with heap:=h2,toks:=tk }) hl2 ?_)
 refine wpAny_pure ⟨plainId_quiet zib _,?_⟩
 obtain ⟨h3,hh3⟩:∃ h3,h3=h2.push { cls := .type "list_iterator",data := .fields #[.ref l,.int 0 0] }:=⟨_,rfl⟩
 have kp3:∀ b o,h2.get? b=some o→h3.get? b=some o:=λ b o e=>by rw [hh3];exact Heap.get?_push_of_some _ e
 have it3:h3.IsListIter h2.objs.size l 0:=by rw [hh3];exact ⟨_,Heap.get?_push_size _ rfl,rfl,rfl⟩
 show codeAny _ _ (.builtin "dict.update.loop" ⟨[.ref s.heap.objs.size,.ref h2.objs.size,.int 0 0,.none],[]⟩) _ { s with heap:=h2.push { cls := .type "list_iterator",data := .fields #[.ref l,.int 0 0] },toks:=tk }
 rw [← hh3]
 have old:∀ b o,s.heap.get? b=some o→h3.get? b=some o∧b≠s.heap.objs.size∧b≠h2.objs.size:=λ b o e=>⟨kp3 _ _ (kp2 _ _ (kp1 _ _ e)),Nat.ne_of_lt (Heap.lt_size e),Nat.ne_of_lt (Heap.lt_size (kp2 _ _ (kp1 _ _ e)))⟩
 have ndi:s.heap.objs.size≠h2.objs.size:=Nat.ne_of_lt (Heap.lt_size (kp2 _ _ hd1))
 refine zjk (A:=A.in1) (h1:=h3) (items:=items) (ps:=ps) (l:=l) (show A.in1.handled=none from hh) room (old _ _ ho).2.1.symm ndi (old _ _ ho).2.2 .none hlen hsz ?_ ?_ (ps.length - 0) 0 h3 tk 0 0 rfl (Nat.zero_le _) it3 ⟨_,(old _ _ ho).1,rfl,c,rfl⟩ (λ _ _ _ _ e=>e) ?_ (λ x hx=>by cases hx)
 ·intro i p hp
  obtain ⟨t,q1,⟨to,q2,q3⟩,q4⟩:=hps i p hp
  have ht:=old _ _ q2
  have q4':=q4
  obtain ⟨po,_,_,r1,_⟩:=q4'
  have hq:=old _ _ r1
  exact ⟨t,q1,ht.2.1,ht.2.2,hq.2.1,hq.2.2,⟨to,ht.1,q3⟩,zyi q4 λ o e=>(old _ _ e).1⟩
 ·intro h' tk' kp' hd'
  refine ⟨rfl,k h' tk' (λ b o e=>?_) hd'⟩
  obtain ⟨q1,q2,q3⟩:=old b o e
  exact kp' b o q2 q3 q1
 ·exact ⟨_, #[],0,kp3 _ _ (kp2 _ _ hd1),⟨rfl,rfl,rfl⟩,rfl,rfl,(λ x hx=>by cases hx),List.nodup_nil⟩
end
noncomputable def zrb (es:List Ent) (ps:List Ent):List Ent:=ps.foldl (λ es p=>putM es p.1 p.2.1 p.2.2) es
theorem zhg:∀ {ps:List Ent} {rs:List Row},Paired EntR ps rs→∀ {es:List Ent} {xs:List Row},Paired EntR es xs→Paired EntR (zrb es ps) (zdb xs rs)
 | _,_,.nil,_,_,h=>h
 | p::ps,r::rs,.cons a b,es,xs,h=>by
  show Paired EntR (zrb (putM es p.1 p.2.1 p.2.2) ps) (zdb (storedH xs r.1 r.2.1 r.2.2) rs)
  refine zhg b ?_
  rw [a.1,a.2.1]
  exact zdr h p.1 a.2.2
theorem ztd:∀ (ps:List Ent) (es:List Ent),(zrb es ps).length≤es.length+ps.length
 | [],es=>Nat.le_refl _
 | p::ps,es=>by
  have h1:=ztd ps (putM es p.1 p.2.1 p.2.2)
  have h2:=ztn es p.1 p.2.1 p.2.2
  show (zrb (putM es p.1 p.2.1 p.2.2) ps).length≤es.length+(ps.length+1)
  omega
section
variable {X:Cx}
noncomputable def zlt (K:W.Frag) (H:Hp) (ps:List Ent) (vs:List V):Prop:=Paired (λ (p:Ent) (v:V)=>∃ t,v = .ref t∧SqT K H t [.ref p.2.1,p.2.2]∧SqT K H p.2.1 (mkV p.1)) ps vs
noncomputable def zez (P:Program) (w:World) (K:W.Frag):List V→Hp→VK→Prop:=λ xs H Q=>∃ (p:Addr) (vs:List V) (ps:List Ent),xs=[.ref p]∧SqL K H p vs∧zlt K H ps vs∧ps.length≤1000∧∀ q o,H q=none→Q (.ref q) (upd H q (dO P w q (zrb [] ps) o))
theorem zlg {pins:List (Addr×Obj)} {σ:St} {H:Hp} {s:Shared} (I:Inv X pins σ H s):∀ {ps:List Ent} {vs:List V} {us:List Value},zlt X.K H ps vs→Vals vs us→∃ rs:List Row,Paired EntR ps rs∧us.length=rs.length∧∀ (i:Nat) r,rs[i]? = some r→∃ t,us[i]? = some (.ref t)∧IsTup s.heap t #[.ref r.2.1,r.2.2]∧(dK X.prog X.w).is s.heap r.1 r.2.1
 | _,_,_,.nil,.nil=>⟨[],.nil,rfl,λ i r e=>by simp at e⟩
 | p::ps,v::vs,u::us,.cons a b,.cons ra rb=>by
  obtain ⟨rs,h1,h2,h3⟩:=zlg I b rb
  obtain ⟨t,rfl,ht,hm⟩:=a
  cases ra
  obtain ⟨its,rv,tp,_⟩:=I.tuple ht
  cases rv with
  | cons r1 r2 =>
   cases r2 with
   | cons r3 r4 =>
    cases r4
    cases r1
    rename_i uv
    refine ⟨(mkK p.1,p.2.1,uv)::rs,.cons ⟨rfl,rfl,r3⟩ h1,by rw [List.length_cons,List.length_cons,h2],λ i r e=>?_⟩
    cases i with
    | zero =>
     cases (Option.some.inj e)
     exact ⟨t,rfl,tp,I.mark hm⟩
    | succ i=>exact h3 i r (by simpa using e)
theorem zqm (hc:X.calm=true) (hu:X.A.units+100<cLine):zqk X (.type "dict") (zez X.prog X.w X.K):=by
 intro pins s σ H xs us Q I r h
 obtain ⟨p,vs,ps,rfl,hq,hp,hz,q⟩:=h
 obtain ⟨u,rfl,ru⟩:=zsm r
 cases ru
 obtain ⟨its,rv,pl,hsz⟩:=I.list hq
 obtain ⟨rs,h1,h2,h3⟩:=zlg I hp rv
 have hpl:ps.length=rs.length:=Paired.length h1
 obtain ⟨o,n,ho,oc,od,odt⟩:=id pl
 obtain ⟨cls,dct,dat,sl⟩:=o
 cases oc
 cases od
 cases odt
 refine zuf (ps:=rs) (I.ok.hd hc) (tupleKind_room_in1 (A:=X.A.in1) (by show X.A.units+1+1<cLine;omega)) ho (by rw [List.size_toArray];exact h2) (by omega) (λ i r' e=>by rw [List.getElem?_toArray];exact h3 i r' e) λ h' tk kp dd=>?_
 have hb:(s.heap.objs.size == sysModules)=false:=beq_eq_false_iff_ne.mpr (Ne.symm (Nat.ne_of_lt I.bigM))
 have hl:=ztd ps []
 obtain ⟨ob,hob⟩:=zvy (P:=X.prog) (w:=X.w) (H:=H) (es:=zrb [] ps) (Nat.le_of_lt (zrc (by rw [List.length_nil] at hl;omega))) hb (zhg h1 .nil) dd
 exact ⟨.ref s.heap.objs.size,_,I.laid (t':=tk) kp (Nat.le_refl _) hob,rfl,q _ ob (I.hok.fresh (Nat.le_refl _))⟩
end
end L2
namespace L2
open PySem PySem.Spec PyProof.Rows PySem.NumText
theorem zwg:entryFor table "dict_itemiterator.__iter__" = some Builtin.«dict_keyiterator.__iter__» := entryFor_alias (id' := "dict_keyiterator.__iter__") (by rfl) (by rfl) (by decide +kernel) (by rfl)
noncomputable def zsh (v d:Addr):HO := .ext λ h=>h.IsItemsView v d
structure Raw (P:Program) (w:World) (es:List Ent) (o:Obj) (ds:Array DictEntry) (ep:Nat) (rs:List Row):Prop where
 rel:Paired EntR es rs
 cl:o.cls = .type "dict"
 dat:o.data = .dict ds ep
 lst:ds.toList=rs.map (entryOfKey (dK P w))
theorem Raw.size {P:Program} {w:World} {es:List Ent} {o:Obj} {ds:Array DictEntry} {ep:Nat} {rs:List Row} (R:Raw P w es o ds ep rs):ds.size=es.length:=by
 rw [← Array.length_toList,R.lst,List.length_map,← Paired.length R.rel]
theorem zwu:∀ {es:List Ent} {rs:List Row},Paired EntR es rs→∀ {i:Nat} {e:Ent},es[i]? = some e→∃ r,rs[i]? = some r∧EntR e r
 | _,_,.nil,i,e,h=>by simp at h
 | _,_,.cons a b,0,e,h=>by cases (Option.some.inj h);exact ⟨_,rfl,a⟩
 | _,_,.cons a b,i+1,e,h=>by
  obtain ⟨r,h1,h2⟩:=zwu b (i:=i) (by simpa using h)
  exact ⟨r,by simpa using h1,h2⟩
theorem Raw.at_ {P:Program} {w:World} {es:List Ent} {o:Obj} {ds:Array DictEntry} {ep:Nat} {rs:List Row} (R:Raw P w es o ds ep rs) {i:Nat} {e:Ent} (h:es[i]? = some e):∃ u q,ds[i]? = some u∧u.key = .ref e.2.1∧u.val=q∧RelV e.2.2 q:=by
 obtain ⟨r,h1,h2⟩:=zwu R.rel h
 refine ⟨entryOfKey (dK P w) r,r.2.2,?_,?_,rfl,h2.2.2⟩
 ·rw [← Array.getElem?_toList,R.lst,List.getElem?_map,h1];rfl
 ·show Value.ref r.2.1=_
  rw [h2.2.1]
section
variable {X:Cx} {pins:List (Addr×Obj)} {σ:St} {H:Hp} {s:Shared} {a:Addr} {es:List Ent} {o:Obj}
theorem Inv.raw (I:Inv X pins σ H s) (ob:H a=some (dO X.prog X.w a es o)):s.heap.get? a=some o∧(a == sysModules)=false∧es.length≤sizeLine∧∃ ds ep rs,Raw X.prog X.w es o ds ep rs:=by
 obtain ⟨⟨z,y,h1,xs,r,ds,ep,h2,h3,h4,h5⟩,_,_⟩:=(show ObjOk X.prog X.w H s.heap a (dO X.prog X.w a es o) from I.hok a _ ob)
 exact ⟨h1,y,z,ds,ep,xs,r,h2.1,h3,h4⟩
end
noncomputable def Itm (P:Program) (w:World) (a:Addr) (es:List Ent) (o:Obj):It :=
 ⟨λ i H=>H a=some (dO P w a es o)∧i<es.length,λ i H v H'=>∃ T e,v = .ref T∧H T=none∧H'=upd H T (.tup [.ref e.2.1,e.2.2])∧es[i]? = some e,λ i H=>H a=some (dO P w a es o)∧es.length≤i⟩
theorem zsl {P:Program} {w:World} {K:W.Frag} {elts:List Expr} {kk:Nat} {tp:Pos} (a it:Addr) (es:List Ent) (o:Obj) (ds:Array DictEntry) (ep:Nat) (hod:o.data = .dict ds ep) :
  Turn P w K (.Tuple elts kk tp) (Itm P w a es o) [it] it (λ i h=>∃ ok ov,h.get? it=some (zue a i es.length ep .none false ok ov)) where
 mem:=by simp
 obj:=λ i h st b hb=>by
  obtain ⟨ok,ov,he⟩:=st
  have:b=it:=by simpa using hb
  subst this
  exact ⟨_,he,λ v z=>nomatch z⟩
 keep:=λ i h h' st k=>let ⟨ok,ov,he⟩:=st; ⟨ok,ov,k it (by simp) _ he⟩
 item:=by
  intro X hP hw hK hc i pins s σ H E I hf st hg
  subst hP hw hK
  obtain ⟨ok,ov,he⟩:=st
  obtain ⟨hob,hi⟩:=hg
  obtain ⟨h1,_,_,ds',ep',rs,R⟩:=I.raw hob
  have e0:=R.dat
  rw [hod] at e0
  cases e0
  obtain ⟨e,hei⟩:∃ e,es[i]? = some e:=⟨_,List.getElem?_eq_getElem hi⟩
  obtain ⟨u,q,hu,hk,hv,rq⟩:=R.at_ hei
  have helt:it<s.heap.objs.size:=Heap.lt_size he
  rw [← R.size] at he
  refine zxj he ⟨o,h1,R.cl,R.dat⟩ hu λ h' g1 g2 g3 g4=>?_
  refine ⟨_,rfl,wpAny_letOwnedTupleGo_items g1 λ h2 he2 hs2=>?_⟩
  rw [hk,hv] at g2
  have hT2:h2.get? s.heap.objs.size=some { cls := .type "tuple",data := .seq #[.ref e.2.1,q] }:=(hs2.2 _ (Nat.ne_of_gt helt)).trans g2
  have I2:Inv X pins σ (upd H s.heap.objs.size (.tup [.ref e.2.1,e.2.2])) { s with heap:=h2,toks:=s.toks }:=by
   refine I.turnLay (ch:=[it]) hf (λ b ob hb z=>?_) (Nat.le_refl _) ?_
   ·have n1:b≠it:=λ z=>hb (by simp [z])
    exact (hs2.2 b n1).trans (g4 b ob n1 z)
   ·exact ⟨by show 2≤sizeLine;decide,[.ref e.2.1,q],.cons rfl (.cons rq .nil),⟨_,hT2,rfl,_,rfl⟩⟩
  have hn:H s.heap.objs.size=none:=I.hok.fresh (Nat.le_refl _)
  refine ⟨.ref s.heap.objs.size,_,I2,rfl,⟨_,e,rfl,hn,rfl,hei⟩,⟨_,_,by rw [← R.size];exact he2⟩,λ b hb=>?_⟩
  have hb':b=it:=by simpa using hb
  subst hb'
  rw [zha (Nat.ne_of_lt helt)]
  exact (hf b hb).1
 done:=by
  intro X hP hw hK hc i pins s σ H E I hf st hg
  subst hP hw hK
  obtain ⟨ok,ov,he⟩:=st
  obtain ⟨hob,hi⟩:=hg
  obtain ⟨h1,_,_,ds',ep',rs,R⟩:=I.raw hob
  have e0:=R.dat
  rw [hod] at e0
  cases e0
  rw [← R.size] at he
  exact zyj (I.ok.hd hc) he ⟨o,h1,R.cl,R.dat⟩ (by rw [Array.getElem?_eq_none];rw [R.size];exact hi) λ h' kp=>⟨rfl,I.turnedL (t':=s.toks) hf λ b ob hb q=>kp b ob (λ z=>hb (by simp [z])) q⟩
 self:=λ A i s Q E st h=>by
  obtain ⟨ok,ov,he⟩:=st
  have hT:s.TypeIs (.ref it) "dict_itemiterator" := ⟨_,he,rfl⟩
  exact wpAny_pyIter_slot hT F.slot_dict_itemiterator_iter (wpAny_call_entry F.slot_dict_itemiterator_iter hT zwg (wpAny_pure ⟨_,rfl, "dict_itemiterator",_,hT,F.slot_dict_itemiterator_next.lookup,h⟩) (F.args_dict_itemiterator_iter_1 _))
section
variable {X:Cx} {o:Expr} {td:TE} {apos cpos:Pos}
theorem zsg {prog:Program} {w:World} {A:Around} {E:Value→Shared→Prop} {s:Shared} {d:Addr} {Q:Value→Shared→Prop} (hT:s.TypeIs (.ref d) "dict") (hd:(d == sysModules)=false) (h:Q (.ref s.heap.objs.size) { s with heap:=s.heap.push { cls := .type "dict_items",data := .fields #[.ref d] } }) :
  wpAny (model prog w) A (call (.builtin "dict.items") [.ref d]) Q E s:=by
 refine wpAny_call_entry F.slot_dict_items hT F.entry_dict_items ?_ (F.args_dict_items_1 _)
 unfold Builtin.«dict.items» Builtin.Dict.noArgs Builtin.Dict.showsAll Builtin.Dict.nameIsSure
 refine wpAny_bind (wpAny_bind (wpAny_notOrdered_dict hT (wpAny_bind (wpAny_of_eq (a:=()) (if_neg (by show ¬ (false || false)=true;decide)) (wpAny_bind (wpAny_pure (wpAny_pure ?_)))))))
 rw [hd]
 refine wpAny_bind (wpAny_of_eq (a:=()) (if_neg Bool.false_ne_true) (wpAny_bind (wpAny_newObj_type (wpAny_pure ⟨_,rfl,h⟩) ?_)))
 simp only [sizeOk,List.size_toArray,List.length_cons,List.length_nil,sizeLine_eq]
 omega
noncomputable def zl5 (P:Program) (w:World) (td:TE):TE:=λ σ H Q=>td σ H λ x H1=>∃ a es o,x = .ref a∧H1 a=some (dO P w a es o)∧∀ v,H1 v=none→Q (.ref v) (upd H1 v (zsh v a))
theorem Inv.isDict {pins:List (Addr×Obj)} {σ:St} {H:Hp} {s:Shared} {a:Addr} {es:List Ent} {ob:Obj} (I:Inv X pins σ H s) (h:H a=some (dO X.prog X.w a es ob)):s.TypeIs (.ref a) "dict" ∧ ob.dict=none:=by
 obtain ⟨⟨z,y,h1,xs,r,ds,ep,h2,h3,h4,h5⟩,_,_⟩:=(show ObjOk X.prog X.w H s.heap a (dO X.prog X.w a es ob) from I.hok a _ h)
 exact ⟨⟨_,h1,h2.1⟩,h2.2.1⟩
theorem zql (ho:PE X o td) (hbase:attributeBase o "items" X.env (eval o X.env)=eval o X.env:=by rfl) (hline:(apos.endLine == cpos.line)=true:=by rfl):PE X (.Call (.Attribute o "items" apos) [] [] cpos) (zl5 X.prog X.w td) := .mk <| by
 intro pins s σ H Q I h
 refine wpAny_Call_method0_late hbase hline (thn (ho pins s σ H _ I h) λ v s1 ⟨x,H1,I1,r1,a,es,ob,ex,hob,q1⟩=>?_)
 subst ex
 cases r1
 obtain ⟨hT,hdn⟩:=I1.isDict hob
 obtain ⟨h1,hb,_⟩:=I1.raw hob
 refine ⟨"dict", "dict.items",PySem.F.plainAttrs_dict,PySem.F.slot_dict_items,PySem.F.type_dict_items,hT,λ b e=>?_,Calls.callWith_builtin rfl (PySem.evalArgs_none (zsg hT hb ?_))⟩
 ·cases e
  exact ⟨ob,h1,hdn⟩
 ·have hat:=Heap.get?_push_size s1.heap (o:={ cls := .type "dict_items",data := .fields #[.ref a] }) rfl
  refine ⟨.ref s1.heap.objs.size,_,I1.laid (t':=s1.toks) (λ b u e=>Heap.get?_push_of_some _ e) (Nat.le_refl _) (o:=zsh s1.heap.objs.size a) ⟨⟨_,hat,rfl,rfl⟩,⟨_,hat⟩,?_⟩,rfl,q1 _ (I1.hok.fresh (Nat.le_refl _))⟩
  rintro g1 g2 ⟨vo,v1,v2⟩ k
  exact ⟨vo,k _ v1,v2⟩
noncomputable def ze0 (P:Program) (w:World) (td:TE):TI:=λ σ H R=>td σ H λ x H1=>∃ a es o,x = .ref a∧H1 a=some (dO P w a es o)∧∀ v,H1 v=none→R (Itm P w a es o) (upd H1 v (zsh v a))
theorem zkm {elts:List Expr} {kk:Nat} {tp:Pos} (ho:PE X o td) (hbase:attributeBase o "items" X.env (eval o X.env)=eval o X.env:=by rfl) (hline:(apos.endLine == cpos.line)=true:=by rfl) :
  PI X (.Tuple elts kk tp) (.Call (.Attribute o "items" apos) [] [] cpos) (ze0 X.prog X.w td) := .mk <| by
 intro pins s σ H R I h
 refine wpAny_Call_method0_late hbase hline (thn (ho pins s σ H _ I h) λ v s1 ⟨x,H1,I1,r1,a,es,ob,ex,hob,q1⟩=>?_)
 subst ex
 cases r1
 obtain ⟨hT,hdn⟩:=I1.isDict hob
 obtain ⟨h1,hb,_⟩:=I1.raw hob
 refine ⟨"dict", "dict.items",PySem.F.plainAttrs_dict,PySem.F.slot_dict_items,PySem.F.type_dict_items,hT,λ b e=>?_,Calls.callWith_builtin rfl (PySem.evalArgs_none (zsg hT hb ?_))⟩
 ·cases e
  exact ⟨ob,h1,hdn⟩
 ·obtain ⟨h2,hh2⟩:∃ h2,h2=s1.heap.push { cls := .type "dict_items",data := .fields #[.ref a] }:=⟨_,rfl⟩
  have kp2:∀ b u,s1.heap.get? b=some u→h2.get? b=some u:=λ b u e=>by rw [hh2];exact Heap.get?_push_of_some _ e
  have hat:h2.get? s1.heap.objs.size=some { cls := .type "dict_items",data := .fields #[.ref a] }:=by rw [hh2];exact Heap.get?_push_size _ rfl
  have I2:Inv X pins σ (upd H1 s1.heap.objs.size (zsh s1.heap.objs.size a)) { s1 with heap:=h2,toks:=s1.toks }:=by
   refine I1.laid kp2 (Nat.le_refl _) (o:=zsh s1.heap.objs.size a) ⟨⟨_,hat,rfl,rfl⟩,⟨_,hat⟩,?_⟩
   rintro g1 g2 ⟨vo,v1,v2⟩ k
   exact ⟨vo,k _ v1,v2⟩
  have hn:=I1.hok.fresh (Nat.le_refl s1.heap.objs.size)
  have hob2:(upd H1 s1.heap.objs.size (zsh s1.heap.objs.size a)) a=some (dO X.prog X.w a es ob):=zga hn _ _ hob
  obtain ⟨d1,_,_,ds,ep,rs,RR⟩:=I2.raw hob2
  show wpAny _ _ (pyIter _) _ _ { s1 with heap:=s1.heap.push { cls := .type "dict_items",data := .fields #[.ref a] } }
  rw [← hh2]
  refine zzd (s:={ s1 with heap:=h2 }) (d:=a) ⟨_,hat,rfl,rfl⟩ ⟨ob,d1,RR.cl,RR.dat⟩ ?_
  have hit:=Heap.get?_push_size h2 (o:=zue a 0 ds.size ep .none false .none .none) rfl
  have I3:Inv X pins σ (upd H1 s1.heap.objs.size (zsh s1.heap.objs.size a)) { s1 with heap:=h2.push (zue a 0 ds.size ep .none false .none .none),toks:=s1.toks }:=I2.kept (t':=s1.toks) λ b u e=>Heap.get?_push_of_some _ e
  refine ⟨h2.objs.size,[h2.objs.size],_,_,_,rfl,I3,zsl a h2.objs.size es ob ds ep RR.dat,⟨_,_,by rw [← RR.size];exact hit⟩,λ c hc=>?_,q1 _ hn⟩
  have hc':c=h2.objs.size:=by simpa using hc
  subst hc'
  exact I2.fpOk (Nat.le_refl _) (I2.hok.fresh (Nat.le_refl _))
end
end L2
namespace L2
open PySem PySem.Spec PyProof.Rows PySem.NumText
noncomputable def mLt (a b:Mark):Bool:=decide (a.1<b.1 ∨ (a.1=b.1∧a.2<b.2))
theorem mLt_sto:STO mLt where
 irr:=λ a=>decide_eq_false (by omega)
 tr:=λ a b c h1 h2=>by
  have h1:=of_decide_eq_true h1
  have h2:=of_decide_eq_true h2
  exact decide_eq_true (by omega)
 tri:=λ a b hn h=>by
  have h:=of_decide_eq_false h
  refine decide_eq_true ?_
  by_cases e1:a.1=b.1
  ·have e2:a.2≠b.2:=λ e2=>hn (Prod.ext e1 e2)
   omega
  ·omega
noncomputable def markD (m:Mark):PyData := .tuple [.int m.1,.int m.2]
theorem zzf (a b:Mark):PyData.eqv (markD a) (markD b)=decide (a=b):=by
 have e:PyData.eqv (markD a) (markD b)=(a.1 == b.1 && (a.2 == b.2 && true)):=rfl
 rw [e,Bool.eq_iff_iff]
 obtain ⟨a1,a2⟩:=a
 obtain ⟨b1,b2⟩:=b
 simp
theorem zwl (a b:Mark):ltD (markD a) (markD b)=some (mLt a b):=by
 show ltDs [.int a.1,.int a.2] [.int b.1,.int b.2]=_
 have i1:∀ x y:Int,PyData.eqv (.int x) (.int y)=(x == y):=λ _ _=>rfl
 have i2:∀ x y:Int,ltD (.int x) (.int y)=some (decide (x<y)):=λ _ _=>rfl
 unfold ltDs
 rw [i1]
 by_cases e1:a.1=b.1
 ·rw [if_pos (by simp [e1])]
  unfold ltDs
  rw [i1]
  by_cases e2:a.2=b.2
  ·rw [if_pos (by simp [e2])]
   unfold ltDs mLt
   simp [e1,e2]
  ·rw [if_neg (by simp [e2]),i2]
   unfold mLt
   simp [e1]
 ·rw [if_neg (by simp [e1]),i2]
  unfold mLt
  simp [e1]
theorem zjd {K:W.Frag} {H:Hp} {q:Addr} {m:Mark} (h:SqT K H q (mkV m)):DV K H (markD m) (.ref q):=⟨q,_,rfl,h,_,_,rfl,rfl,_,_,rfl,rfl,rfl⟩
theorem zte {K:W.Frag} {H:Hp} {m:Mark} {v:V} (h:DV K H (markD m) v):∃ q,v = .ref q∧SqT K H q (mkV m):=by
 obtain ⟨q,vs,rfl,h1,v1,r1,rfl,e1,v2,r2,rfl,e2,e3⟩:=h
 cases (show v1 = .int m.1 from e1)
 cases (show v2 = .int m.2 from e2)
 cases (show r2=[] from e3)
 exact ⟨q,rfl,h1⟩
noncomputable def zml (val:Mark→PyData) (m:Mark):PyData := .tuple [markD m,val m]
theorem zqt {es:List Ent} {val:Mark→PyData} (hsh:∀ e∈es,SeqAt.shaped (zml val e.1)=true) (nd:(es.map (·.1)).Nodup) (few:es.length<64):Srt (es.map (·.1)) (λ m=>[markD m,val m]) mLt .tup where
 sto:=mLt_sto
 few:=by rw [List.length_map];exact few
 nd:=nd
 lts:=by
  intro a ha b hb
  show (if PyData.eqv (markD a) (markD b)=true then ltDs [val a] [val b] else ltD (markD a) (markD b))=_
  rw [zzf]
  by_cases e:a=b
  ·subst e
   rw [if_pos (decide_eq_true rfl),mLt_sto.irr]
   obtain ⟨e0,he0,rfl⟩:=List.mem_map.mp ha
   have h1:=hsh e0 he0
   unfold SeqAt.shaped at h1
   have h2:PyData.canLay0 (zml val e0.1)=true:=by
    rw [Bool.and_eq_true] at h1
    exact h1.1
   have h3:PyData.eqvAll [markD e0.1,val e0.1] [markD e0.1,val e0.1]=true:=SeqAt.eqvAll_refl _ h2
   have h4:PyData.eqv (val e0.1) (val e0.1)=true:=by
    have h3:(PyData.eqv (markD e0.1) (markD e0.1) && (PyData.eqv (val e0.1) (val e0.1) && true))=true:=h3
    rw [Bool.and_eq_true,Bool.and_eq_true] at h3
    exact h3.2.1
   show (if PyData.eqv (val e0.1) (val e0.1)=true then ltDs [] [] else _)=_
   rw [if_pos h4]
   unfold ltDs
   rfl
  ·rw [if_neg (by rw [decide_eq_false e];exact Bool.false_ne_true)]
   exact zwl a b
 fst:=λ a _=>⟨_,_,rfl,⟨_,rfl⟩⟩
 shp:=by
  intro a ha
  obtain ⟨e0,he0,rfl⟩:=List.mem_map.mp ha
  exact hsh e0 he0
noncomputable def zp3 (K:W.Frag) (H:Hp) (es:List Ent) (val:Mark→PyData) (Q:VK):Prop:=∀ (H':Hp) (l:Addr) (bs:List Mark) (ws:List V),Same H H'→(Plain H→Plain H')→H' l=none→bs.Perm (es.map (·.1))→bs.Pairwise (λ a b=>mLt a b=true)→DVs K H' (bs.map (zml val)) ws→Q (.ref l) (upd H' l (.lst ws))
theorem Plain.layT {H:Hp} (p:Plain H):∀ (ts:List (Addr×List V)),Plain (layT H ts)
 | []=>p
 | t::ts=>(Plain.layT p ts).tup
section
variable {X:Cx}
noncomputable def zy3 (P:Program) (w:World) (K:W.Frag):List V→Hp→VK→Prop:=λ xs H Q=>∃ (v a:Addr) (es:List Ent) (o:Obj) (val:Mark→PyData),xs=[.ref v]∧H v=some (zsh v a)∧H a=some (dO P w a es o)∧(∀ e∈es,SqT K H e.2.1 (mkV e.1))∧(∀ e∈es,DV K H (val e.1) e.2.2) ∧
 (∀ e∈es,SeqAt.shaped (zml val e.1)=true)∧(es.map (·.1)).Nodup∧es.length<64∧zp3 K H es val Q
theorem zyh (hc:X.calm=true) (hu:X.A.units+100<cLine):zqk X (.builtin "sorted") (zy3 X.prog X.w X.K):=by
 intro pins s σ H xs us Q I r h
 obtain ⟨v,a,es,o,val,rfl,hv,ha,hk,hd,hsh,nd,few,q⟩:=h
 obtain ⟨u,rfl,ru⟩:=zsm r
 cases ru
 obtain ⟨hview,_,_⟩:=I.hok v _ hv
 obtain ⟨h1,_,_,ds,ep,rs,RR⟩:=I.raw ha
 refine znc (znh (I.ok.hd hc) hview ⟨o,h1,RR.cl,RR.dat⟩ (by rw [RR.size,sizeLine_eq];omega) λ h' tk as kp hal hG=>?_)
 rw [RR.size] at hal
 have hts:∀ t∈List.zipWith (λ a (e:Ent)=>(a,[V.ref e.2.1,e.2.2])) as es,s.heap.objs.size≤t.1∧ObjOk X.prog X.w H h' t.1 (.tup t.2):=by
  intro t ht
  obtain ⟨j,hj⟩:=List.getElem?_of_mem ht
  rw [List.getElem?_zipWith] at hj
  cases ea:as[j]? with
  | none=>rw [ea] at hj;cases hj
  | some aj =>
   cases ee:es[j]? with
   | none=>rw [ea,ee] at hj;cases hj
   | some e =>
    rw [ea,ee] at hj
    cases hj
    obtain ⟨q1,u,q2,q3⟩:=hG.at_ j aj ea
    obtain ⟨u',x,q4,q5,q6,q7⟩:=RR.at_ ee
    rw [q4] at q2
    cases q2
    refine ⟨q1,by show 2≤sizeLine;decide,[.ref e.2.1,x],.cons rfl (.cons q7 .nil),⟨_,q3,rfl,0,?_⟩⟩
    rw [q5,q6]
    rfl
 have I1:=I.laidAll (t':=tk) kp hts
 have sm:Same H (layT H (List.zipWith (λ a (e:Ent)=>(a,[V.ref e.2.1,e.2.2])) as es)):=λ b z e=>by
  rw [zjc λ t ht=>Nat.ne_of_lt (Nat.lt_of_lt_of_le (I.hok.lt e) (hts t ht).1)];exact e
 have hnd:((List.zipWith (λ a (e:Ent)=>(a,[V.ref e.2.1,e.2.2])) as es).map (·.1)).Nodup:=by
  have:(List.zipWith (λ a (e:Ent)=>(a,[V.ref e.2.1,e.2.2])) as es).map (·.1)=as:=by
   rw [List.map_zipWith]
   exact List.ext_getElem? λ j=>by
    rw [List.getElem?_zipWith]
    cases ea:as[j]? with
    | none=>rfl
    | some aj =>
     cases ee:es[j]? with
     | none =>
      have h1:=(List.getElem?_eq_some_iff.mp ea).1
      have h2:=List.getElem?_eq_none_iff.mp ee
      omega
     | some e=>rfl
  rw [this]
  exact hG.nd
 have dvs:DVs X.K (layT H (List.zipWith (λ a (e:Ent)=>(a,[V.ref e.2.1,e.2.2])) as es)) ((es.map (·.1)).map (zml val)) (as.map V.ref):=by
  have gen:∀ (as':List Addr) (es':List Ent),as'.length=es'.length→(∀ (j:Nat) aj e,as'[j]? = some aj→es'[j]? = some e→(aj,[V.ref e.2.1,e.2.2])∈List.zipWith (λ a (e:Ent)=>(a,[V.ref e.2.1,e.2.2])) as es∧e∈es)→DVs X.K (layT H (List.zipWith (λ a (e:Ent)=>(a,[V.ref e.2.1,e.2.2])) as es)) ((es'.map (·.1)).map (zml val)) (as'.map V.ref):=by
   intro as'
   induction as' with
   | nil =>
    intro es' hl hm
    cases es' with
    | nil=>rfl
    | cons e es'=>cases hl
   | cons a1 as' ih =>
    intro es' hl hm
    cases es' with
    | nil=>cases hl
    | cons e es' =>
     obtain ⟨m1,m2⟩:=hm 0 a1 e rfl rfl
     refine ⟨_,_,rfl,⟨a1,_,rfl,SqT.of (zel hnd m1),_,_,rfl,zjd (sm.seqT (hk e m2)),_,_,rfl,DV.same sm _ _ (hd e m2),rfl⟩,ih es' (by simpa using hl) λ j aj e h1 h2=>hm (j+1) aj e (by simpa using h1) (by simpa using h2)⟩
  refine gen as es hal λ j aj e h1 h2=>⟨List.mem_of_getElem? (i:=j) ?_,List.mem_of_getElem? h2⟩
  rw [List.getElem?_zipWith,h1,h2]
 have vals:Vals (as.map V.ref) (as.map Value.ref):=by
  clear hts I1 sm hnd dvs hal hG
  induction as with
  | nil=>exact .nil
  | cons a as ih=>exact .cons rfl ih
 exact zrq (s:=s) (α:=Mark) (enc:=λ m=>[markD m,val m]) (lt:=mLt) hu (zqt hsh nd few) I1 vals dvs λ l bs ws hl pm pw hw=>q _ l bs ws sm (λ p=>Plain.layT p _) hl pm pw hw
theorem ztp:zqk X (.builtin "len") (λ xs H Q=>∃ a es o,xs=[.ref a]∧H a=some (dO X.prog X.w a es o)∧Q (.int es.length) H):=by
 intro pins s σ H xs us Q I r h
 obtain ⟨a,es,o,rfl,ha,q⟩:=h
 obtain ⟨u,rfl,ru⟩:=zsm r
 cases ru
 obtain ⟨hT,_⟩:=I.isDict ha
 obtain ⟨h1,hb,hz,ds,ep,rs,RR⟩:=I.raw ha
 have hz':es.length≤16777216:=by rw [← sizeLine_eq];exact hz
 refine PyProof.Rows.call_len_slot (n:=(es.length:Int)) hT F.slot_dict_len (λ Q' q'=>?_) (by omega) (by omega) ⟨.int es.length,H,I.tok _,⟨_,rfl⟩,q⟩
 refine wpAny_call_entry F.slot_dict_len hT F.entry_dict_len ?_ (F.args_dict_len_1 _)
 unfold Builtin.«dict.__len__» Builtin.Dict.dictSlotNone
 unfold Builtin.Dict.pendingCount dictSize retInt
 refine wpAny_bind (wpAny_bind (wpAny_notOrdered_dict hT (wpAny_bind (wpAny_pure (wpAny_pure (wpAny_bind (wpAny_pure (wpAny_bind (wpAny_bind (wpAny_dictEntries h1 RR.dat (wpAny_pure ?_)))))))))))
 refine wpAny_bind (wpAny_of_eq (a:=0) (if_neg (by rw [hb];exact Bool.false_ne_true)) (wpAny_bind (wpAny_mkInt (wpAny_pure ⟨_,rfl,?_⟩))))
 rw [RR.size,show ((es.length:Nat):Int)+((0:Nat):Int)=(es.length:Int) by omega]
 exact q'
end
end L2
namespace L2
open PySem PySem.Spec PyProof.Rows PySem.NumText
noncomputable abbrev Sh:=List (Mark×Ver)
noncomputable def prD (m:Mark×Ver):PyData := .tuple [markD m.1,ver m.2]
noncomputable def look:Sh→Mark→Option Ver
 | [],_=>none
 | m::ms,k=>if m.1=k then some m.2 else look ms k
noncomputable def EnS (K:W.Frag) (H:Hp):List Ent→Sh→Prop:=Paired λ (e:Ent) (m:Mark×Ver)=>e.1=m.1∧SqT K H e.2.1 (mkV m.1)∧DV K H (ver m.2) e.2.2
structure ShAt (P:Program) (w:World) (K:W.Frag) (C:Addr) (H:Hp) (p:Addr) (ms:Sh):Prop where
 ex:∃ dx d es o,H p=some (.ins C dx [("versions",.ref d)])∧H d=some (dO P w d es o)∧EnS K H es ms
 nd:(ms.map (·.1)).Nodup
 ok:∀ m∈ms,okV m.2
 few:ms.length<64
theorem EnS.imp {K:W.Frag} {H H':Hp} {es:List Ent} {ms:Sh} (h:EnS K H es ms) (f:∀ (q:Addr) m,SqT K H q (mkV m)→SqT K H' q (mkV m)) (g:∀ v x,DV K H (ver v) x→DV K H' (ver v) x):EnS K H' es ms :=
 Paired.mapP h λ e m ⟨h1,h2,h3⟩=>⟨h1,f _ _ h2,g _ _ h3⟩
theorem ShAt.same {P:Program} {w:World} {K:W.Frag} {C:Addr} {H H':Hp} {p:Addr} {ms:Sh} (h:ShAt P w K C H p ms) (s:Same H H'):ShAt P w K C H' p ms:=by
 obtain ⟨dx,d,es,o,h1,h2,h3⟩:=h.ex
 exact ⟨⟨dx,d,es,o,s _ _ h1,s _ _ h2,h3.imp (λ _ _ q=>s.seqT q) λ _ _ q=>DV.same s _ _ q⟩,h.nd,h.ok,h.few⟩
theorem zoh (v:Ver):noL (ver v)=true:=zxf (some v)
theorem zzi {K:W.Frag} {H:Hp}:∀ {es:List Ent} {ms:Sh},EnS K H es ms→∀ m,DV K H (vdat (look ms m)) ((zid es m).getD .non)
 | _,_,.nil,m=>rfl
 | e::es,n::ms,.cons a b,m=>by
  unfold zid look
  by_cases h:e.1=m
  ·rw [if_pos h,if_pos (a.1 ▸ h)]
   exact a.2.2
  ·rw [if_neg h,if_neg (a.1 ▸ h)]
   exact zzi b m
theorem zhb {ms:Sh} (nd:(ms.map (·.1)).Nodup):∀ {m:Mark×Ver},m∈ms→look ms m.1=some m.2:=by
 induction ms with
 | nil=>intro m h;cases h
 | cons a ms ih =>
  intro m h
  have hn:=List.nodup_cons.mp nd
  unfold look
  rcases List.mem_cons.mp h with rfl | h
  ·rw [if_pos rfl]
  ·rw [if_neg (λ z=>hn.1 (by show a.1∈_;rw [z];exact List.mem_map_of_mem (f:=(·.1)) h))]
   exact ih hn.2 h
theorem znd:∀ {es:List Ent} {m:Mark},m∉es.map (·.1)→zid es m=none
 | [],_,_=>rfl
 | e::es,m,h=>by
  unfold zid
  rw [if_neg (λ z=>h (by rw [← z];exact List.mem_cons_self))]
  exact znd λ z=>h (List.mem_cons_of_mem _ z)
theorem zod:∀ {es:List Ent} {m:Mark},m∈es.map (·.1)→(zid es m).isSome=true
 | e::es,m,h=>by
  unfold zid
  by_cases z:e.1=m
  ·rw [if_pos z];rfl
  ·rw [if_neg z]
   rcases List.mem_cons.mp h with q | q
   ·exact absurd q.symm z
   ·exact zod q
theorem zqh:∀ (ps:List Ent) (es:List Ent),((es++ps).map (·.1)).Nodup→zrb es ps=es++ps
 | [],es,_=>by rw [List.append_nil];rfl
 | p::ps,es,h=>by
  have hm:p.1∉es.map (·.1):=by
   rw [List.map_append,List.map_cons] at h
   intro z
   exact (List.nodup_append.mp h).2.2 _ z _ List.mem_cons_self rfl
  show zrb (putM es p.1 p.2.1 p.2.2) ps=es++p::ps
  have e:putM es p.1 p.2.1 p.2.2=es++[p]:=by
   unfold putM
   rw [znd hm]
   rfl
  rw [e,zqh ps (es++[p]) (by rw [List.append_assoc];exact h),List.append_assoc]
  rfl
theorem zof:∀ (ps:List Ent) (es:List Ent),(es.map (·.1)).Nodup→¬ ((es++ps).map (·.1)).Nodup→(zrb es ps).length<es.length+ps.length
 | [],es,h1,h2=>absurd (by rw [List.append_nil];exact h1) h2
 | p::ps,es,h1,h2=>by
  show (zrb (putM es p.1 p.2.1 p.2.2) ps).length<es.length+(ps.length+1)
  by_cases hm:p.1∈es.map (·.1)
  ·have hl:(putM es p.1 p.2.1 p.2.2).length=es.length:=by
    unfold putM
    rw [if_pos (zod hm),List.length_map]
   have:=ztd ps (putM es p.1 p.2.1 p.2.2)
   omega
  ·have e:putM es p.1 p.2.1 p.2.2=es++[p]:=by
    unfold putM
    rw [znd hm]
    rfl
   rw [e]
   have:=zof ps (es++[p]) (by
    rw [List.map_append]
    exact List.nodup_append.mpr ⟨h1,List.nodup_cons.mpr ⟨by simp,List.nodup_nil⟩,λ x hx y hy z=>hm ((show x=p.1 from z.trans (List.mem_singleton.mp hy)) ▸ hx)⟩) (by rw [List.append_assoc];exact h2)
   rw [List.length_append,List.length_cons,List.length_nil] at this
   omega
theorem znl {K:W.Frag} {H:Hp}:∀ {ms:Sh} {vs:List V},DVs K H (ms.map prD) vs→∃ ps:List Ent,zlt K H ps vs∧EnS K H ps ms
 | [],vs,h=>by cases (show vs=[] from h);exact ⟨[],.nil,.nil⟩
 | m::ms,vs,h=>by
  obtain ⟨v,r,rfl,hv,hr⟩:=h
  obtain ⟨ps,h1,h2⟩:=znl hr
  obtain ⟨t,xs,rfl,ht,x1,r1,rfl,e1,x2,r2,rfl,e2,e3⟩:=hv
  cases (show r2=[] from e3)
  obtain ⟨q,rfl,hq⟩:=zte e1
  exact ⟨(m.1,q,x2)::ps,.cons ⟨t,rfl,ht,hq⟩ h1,.cons ⟨rfl,hq,e2⟩ h2⟩
theorem zjb {K:W.Frag} {H:Hp}:∀ {es:List Ent} {ms:Sh},EnS K H es ms→es.map (·.1)=ms.map (·.1)
 | _,_,.nil=>rfl
 | _,_,.cons a b=>by rw [List.map_cons,List.map_cons,a.1,zjb b]
theorem zec {K:W.Frag} {H:Hp}:∀ {es:List Ent} {ms:Sh},EnS K H es ms→∀ e∈es,SqT K H e.2.1 (mkV e.1)∧∃ v,(e.1,v)∈ms∧DV K H (ver v) e.2.2
 | _,_,.nil,e,h=>nomatch h
 | _,m::_,.cons a b,e,h=>by
  rcases List.mem_cons.mp h with rfl | h
  ·exact ⟨by rw [a.1];exact a.2.1,m.2,by rw [a.1];exact List.mem_cons_self,a.2.2⟩
  ·obtain ⟨h1,v,h2,h3⟩:=zec b e h
   exact ⟨h1,v,List.mem_cons_of_mem _ h2,h3⟩
theorem zvd {m:Mark×Ver} (h:okV m.2):SeqAt.shaped (prD m)=true:=by
 unfold SeqAt.shaped
 have h1:PyData.canLay0 (prD m)=true:=by
  show ((true && (true && true)) && ((true && (PyData.canLay0 (plc m.2.2.1) && (PyData.strOk m.2.2.2 && true))) && true))=true
  rw [zff,show PyData.strOk m.2.2.2=true from h]
  rfl
 rw [h1,Bool.true_and]
 refine decide_eq_true ?_
 have h2:PyData.depth (prD m)=max 1 (max (max 0 (max (PyData.depthAll (m.2.2.1.map stp)+1) (max 0 0))+1) 0)+1:=rfl
 have:=zsb m.2.2.1
 rw [h2]
 omega
noncomputable def toSh (ms:Sh) (bs:List Mark):Sh:=bs.map λ m=>(m,(look ms m).getD (0,[], ""))
theorem zxi {ms:Sh} (nd:(ms.map (·.1)).Nodup):toSh ms (ms.map (·.1))=ms:=by
 unfold toSh
 rw [List.map_map]
 have:∀ m∈ms,((λ m=>(m,(look ms m).getD (0,[], ""))) ∘ (·.1)) m=m:=λ m hm=>by
  show (m.1,(look ms m.1).getD (0,[], ""))=m
  rw [zhb nd hm]
  rfl
 conv=>rhs;rw [← List.map_id ms]
 exact List.map_congr_left this
theorem zhq {ms:Sh} (nd:(ms.map (·.1)).Nodup) {bs:List Mark} (h:bs.Perm (ms.map (·.1))):(toSh ms bs).Perm ms:=by
 have:=h.map (λ m=>(m,(look ms m).getD (0,[], "")))
 rw [show (ms.map (·.1)).map (λ m=>(m,(look ms m).getD (0,[], "")))=ms from zxi nd] at this
 exact this
theorem zmm {ms:Sh} (nd:(ms.map (·.1)).Nodup) {bs:List Mark} (h:bs.Perm (ms.map (·.1))):bs.map (zml λ m=>vdat (look ms m))=(toSh ms bs).map prD:=by
 unfold toSh
 rw [List.map_map]
 refine List.map_congr_left λ m hm=>?_
 obtain ⟨x,hx,rfl⟩:=List.mem_map.mp (h.mem_iff.mp hm)
 show zml (λ m=>vdat (look ms m)) x.1=prD (x.1,(look ms x.1).getD (0,[], ""))
 show PyData.tuple [markD x.1,vdat (look ms x.1)]=_
 rw [zhb nd hx]
 rfl
theorem zyu {ms:Sh} {bs:List Mark} (h:bs.Pairwise λ a b=>mLt a b=true):(toSh ms bs).Pairwise λ a b=>mLt a.1 b.1=true:=List.pairwise_map.mpr h
end L2
namespace L2
open PySem PySem.Spec PyProof.Rows PySem.NumText
theorem zlh {P:Program} {w:World} {a:Addr} {es:List Ent} {o:Obj} {nt:Nat} {cap:List Nat} {g:TG} {ti:TT} {te:TE} {σ:St} {H1:Hp} {Q:VK} {D:Addr} (kb:Ent→Bool) (R:Ent→V→Hp→Prop) (hD:H1 D=none) (hP:Plain H1) (ha:H1 a=some (dO P w a es o)) (hx:es.length≤sizeLine)
  (mono:∀ e y H H',R e y H→(∀ b o,b≠D→H b=some o→H' b=some o)→(∃ zs,H D=some (.lst zs))→R e y H')
  (step:∀ (i:Nat) e H2 T' (Tt:VK) (Tf:Hp→Prop),es[i]? = some e→Plain H2→Same H1 H2→H2 T'=none→(kb e=true→∀ y H6,R e y H6→Same H2 H6→Plain H6→Tt y H6)→(kb e=false→∀ H6,Same H2 H6→Plain H6→Tf H6) →
   g (.ref T') (List.replicate nt none++caps cap σ) (upd H2 T' (.tup [.ref e.2.1,e.2.2])) λ σ4 H4=>ti σ4 H4 λ b H5=>if b=true then te σ4 H5 Tt else Tf H5)
  (fin:∀ ys H2,Paired (λ e y=>R e y H2) (es.filter kb) ys→H2 D=some (.lst ys)→Same H1 H2→Plain H2→Q (.ref D) H2) :
  zc3 (Itm P w a es o) D nt cap g ti te σ H1 Q:=by
 refine ⟨λ i m ys H2=>m=es.length - i∧i≤es.length∧ys.length≤i∧H2 D=some (.lst ys)∧Same H1 H2∧Plain H2∧Paired (λ e y=>R e y H2) ((es.take i).filter kb) ys,⟨_,rfl,Nat.zero_le _,Nat.le_refl _,upd_same,zga hD,hP.lst,.nil⟩,?_⟩
 rintro i m ys H2 ⟨rfl,hi,hl,hd,hs,hp,hr⟩
 refine ⟨hd,?_⟩
 by_cases hlt:i<es.length
 ·refine .inr ⟨⟨hs _ _ ha,hlt⟩,by omega,λ v H3 hy=>?_⟩
  obtain ⟨T',e,rfl,hT,rfl,he⟩:=hy
  have e1:es.take (i+1)=es.take i++[e]:=by
   obtain ⟨h',rfl⟩:=List.getElem?_eq_some_iff.mp he
   exact List.take_succ_eq_append_getElem h'
  refine step i e _ T' _ _ he hp hs hT (λ hk y H6 hR hs6 hp6=>⟨hs6 _ _ hd,_,by omega,rfl,hlt,by simp;omega,upd_same,(hs.trans hs6).upd hD,hp6.lst,?_⟩) (λ hk H6 hs6 hp6=>⟨_,by omega,rfl,hlt,by omega,hs6 _ _ hd,hs.trans hs6,hp6,?_⟩)
  ·have up:∀ b o,b≠D→H6 b=some o→(upd H6 D (.lst (ys++[y]))) b=some o:=λ b o hb e=>by rw [zha hb];exact e
   rw [e1,List.filter_append,show [e].filter kb=[e] by simp [hk]]
   refine Paired.snoc (Paired.mapP hr λ e' y' hr'=>mono e' y' H6 _ (mono e' y' _ H6 hr' (λ b o _ q=>hs6 b o q) ⟨_,hd⟩) up ⟨_,hs6 _ _ hd⟩) (mono e y H6 _ hR up ⟨_,hs6 _ _ hd⟩)
  ·rw [e1,List.filter_append,show [e].filter kb=[] by simp [hk],List.append_nil]
   exact Paired.mapP hr λ e' y' hr'=>mono e' y' _ H6 hr' (λ b o _ q=>hs6 b o q) ⟨_,hd⟩
 ·have e:i=es.length:=by omega
  subst e
  rw [List.take_length] at hr
  exact .inl ⟨⟨hs _ _ ha,Nat.le_refl _⟩,fin ys H2 hr hd hs hp⟩
noncomputable def vOf (ms:Sh) (m:Mark):Ver:=(look ms m).getD (0,[], "")
noncomputable def lnLt (ms:Sh) (a b:Mark):Bool:=zkh pLt mLt ((vOf ms a).2.1,a) ((vOf ms b).2.1,b)
theorem zsf (ms:Sh):STO (lnLt ms) where
 irr:=λ a=>(zli pLt_sto mLt_sto).irr _
 tr:=λ a b c h1 h2=>(zli pLt_sto mLt_sto).tr _ _ _ h1 h2
 tri:=λ a b hn h=>(zli pLt_sto mLt_sto).tri _ _ (λ z=>hn (congrArg Prod.snd z)) h
noncomputable def enL (ms:Sh) (m:Mark):List PyData:=[plc (vOf ms m).2.1,markD m,.str (vOf ms m).2.2]
noncomputable def lnD (ms:Sh) (m:Mark):PyData := .tuple [markD m,.str (vOf ms m).2.2]
noncomputable def zjg (v:Ver):Bool := !decide (v.2.1=[])
noncomputable def zhd (ms:Sh):List Mark:=(ms.filter λ m=>zjg m.2).map (·.1)
theorem zrg {ms:Sh} {m:Mark} (h:okV (vOf ms m)):SeqAt.shaped (.tuple (enL ms m))=true:=by
 unfold SeqAt.shaped
 have h1:PyData.canLay0 (.tuple (enL ms m))=true:=by
  show (PyData.canLay0 (plc (vOf ms m).2.1) && ((true && (true && true)) && (PyData.strOk (vOf ms m).2.2 && true)))=true
  rw [zff,show PyData.strOk (vOf ms m).2.2=true from h]
  rfl
 rw [h1,Bool.true_and]
 refine decide_eq_true ?_
 have h2:PyData.depth (.tuple (enL ms m))=max (PyData.depthAll ((vOf ms m).2.1.map stp)+1) (max 1 (max 0 0))+1:=rfl
 have:=zsb (vOf ms m).2.1
 rw [h2]
 omega
theorem zde {ms:Sh} (nd:(ms.map (·.1)).Nodup):(zhd ms).Nodup:=by
 unfold zhd
 exact List.Nodup.sublist (List.Sublist.map _ (List.filter_sublist)) nd
theorem zld {ms:Sh} (nd:(ms.map (·.1)).Nodup) (ok:∀ m∈ms,okV m.2) (few:ms.length<64):Srt (zhd ms) (enL ms) (lnLt ms) .tup where
 sto:=zsf ms
 few:=by
  unfold zhd
  rw [List.length_map]
  exact Nat.lt_of_le_of_lt (List.length_filter_le _ _) few
 nd:=zde nd
 lts:=by
  intro a ha b hb
  show (if PyData.eqv (plc (vOf ms a).2.1) (plc (vOf ms b).2.1)=true then ltDs [markD a,.str (vOf ms a).2.2] [markD b,.str (vOf ms b).2.2] else ltD (plc (vOf ms a).2.1) (plc (vOf ms b).2.1))=some (lnLt ms a b)
  rw [zwi]
  unfold lnLt zkh
  dsimp only
  by_cases e:(vOf ms a).2.1=(vOf ms b).2.1
  ·rw [if_pos (decide_eq_true e),if_pos e]
   show (if PyData.eqv (markD a) (markD b)=true then ltDs [.str (vOf ms a).2.2] [.str (vOf ms b).2.2] else ltD (markD a) (markD b))=some (mLt a b)
   rw [zzf]
   by_cases e2:a=b
   ·subst e2
    rw [if_pos (decide_eq_true rfl),mLt_sto.irr]
    show (if PyData.eqv (.str (vOf ms a).2.2) (.str (vOf ms a).2.2)=true then ltDs [] [] else _)=_
    rw [if_pos (show PyData.eqv (.str (vOf ms a).2.2) (.str (vOf ms a).2.2)=true from beq_self_eq_true (vOf ms a).2.2)]
    unfold ltDs
    rfl
   ·rw [if_neg (by rw [decide_eq_false e2];exact Bool.false_ne_true)]
    exact zwl a b
  ·rw [if_neg (by rw [decide_eq_false e];exact Bool.false_ne_true),if_neg e]
   exact zzn _ _
 fst:=λ a _=>⟨_,_,rfl,⟨_,rfl⟩⟩
 shp:=by
  intro a ha
  obtain ⟨m,hm,rfl⟩:=List.mem_map.mp ha
  have hm':=(List.mem_filter.mp hm).1
  refine zrg ?_
  unfold vOf
  rw [zhb nd hm']
  exact ok m hm'
theorem zfe {K:W.Frag} {H:Hp} {α:Type} {f:α→PyData}:∀ {xs:List α} {ys:List V},Paired (λ x y=>DV K H (f x) y) xs ys→DVs K H (xs.map f) ys
 | _,_,.nil=>rfl
 | _,_,.cons a b=>⟨_,_,rfl,a,zfe b⟩
theorem zkn {ms:Sh} (nd:(ms.map (·.1)).Nodup) {m:Mark×Ver} (h:m∈ms):vOf ms m.1=m.2:=by
 unfold vOf
 rw [zhb nd h]
 rfl
theorem zxp {K:W.Frag} {H:Hp} {es:List Ent} {ms:Sh} (he:EnS K H es ms) (nd:(ms.map (·.1)).Nodup):(es.filter λ e=>zjg (vOf ms e.1)).map (·.1)=zhd ms:=by
 have h1:(es.filter λ e=>zjg (vOf ms e.1)).map (·.1)=(es.map (·.1)).filter λ m=>zjg (vOf ms m):=by
  rw [List.filter_map]
  rfl
 have h2:(ms.map (·.1)).filter (λ m=>zjg (vOf ms m))=(ms.filter λ m=>zjg (vOf ms m.1)).map (·.1):=by
  rw [List.filter_map]
  rfl
 rw [h1,zjb he,h2]
 unfold zhd
 congr 1
 refine List.filter_congr λ m hm=>?_
 rw [zkn nd hm]
theorem zsx (ms:Sh) (m:Mark):noL (.tuple (enL ms m))=true:=by
 show (noL (plc (vOf ms m).2.1) && (noL (markD m) && (noL (.str (vOf ms m).2.2) && true)))=true
 rw [zgm]
 rfl
theorem zo3 {K:W.Frag} {H:Hp} {ms:Sh} {m:Mark} {x:V} (h:DV K H (.tuple (enL ms m)) x):∃ t pv q,x = .ref t∧SqT K H t [pv,.ref q,.str (vOf ms m).2.2]∧SqT K H q (mkV m):=by
 obtain ⟨t,vs,rfl,hq,a,r,rfl,ha,b,r2,rfl,hb,c,r3,rfl,hc,h4⟩:=h
 cases (show c=V.str (vOf ms m).2.2 from hc)
 cases (show r3=[] from h4)
 obtain ⟨q,rfl,hm⟩:=zte hb
 exact ⟨t,a,q,rfl,hq,hm⟩
end L2
namespace L2
open PySem PySem.Spec PyProof.Rows PySem.NumText
section
variable {X:Cx}
end
noncomputable def zau (o:HO):Prop:=(∀ xs,o ≠ .tup xs)∧∀ ob u,o ≠ .frz ob u
theorem zag {K:W.Frag} {H:Hp} {p:Addr} {o o':HO} {a:Addr} {xs:List V} (hp:H p=some o) (n:zau o) (h:SqT K H a xs):SqT K (upd H p o') a xs:=by
 rcases h with (h | ⟨ob,h⟩) | h
 ·exact .inl (.inl (by rw [zha (zxd h hp λ z=>n.1 _ z.symm)];exact h))
 ·exact .inl (.inr ⟨ob,by rw [zha (zxd h hp λ z=>n.2 _ _ z.symm)];exact h⟩)
 ·exact .inr h
mutual
theorem zwk {K:W.Frag} {H:Hp} {p:Addr} {o o':HO} (hp:H p=some o) (n:zau o):∀ (d:PyData) (v:V),noL d=true→DV K H d v→DV K (upd H p o') d v
 | .none,v,_,h=>h
 | .bool b,v,_,h=>h
 | .int i,v,_,h=>h
 | .str x,v,_,h=>h
 | .list xs,v,n',_=>by cases n'
 | .tuple xs,v,n',⟨a,vs,h1,h2,h3⟩=>⟨a,vs,h1,zag hp n h2,zij hp n xs vs n' h3⟩
 | .dict _,v,_,h=>h.elim
theorem zij {K:W.Frag} {H:Hp} {p:Addr} {o o':HO} (hp:H p=some o) (n:zau o):∀ (ds:List PyData) (vs:List V),noLs ds=true→DVs K H ds vs→DVs K (upd H p o') ds vs
 | [],vs,_,h=>h
 | d::ds,vs,n',⟨v,r,h1,h2,h3⟩=>by
  have n':noL d=true∧noLs ds=true:=by rw [noLs,Bool.and_eq_true] at n';exact n'
  exact ⟨v,r,h1,zwk hp n d v n'.1 h2,zij hp n ds r n'.2 h3⟩
end
theorem zwm (xs:List V):zau (.lst xs):=⟨λ _ z=>(by cases z),λ _ _ z=>(by cases z)⟩
theorem zpg (φ:Heap→Prop):zau (.ext φ):=⟨λ _ z=>(by cases z),λ _ _ z=>(by cases z)⟩
theorem zpj:∀ ms:Sh,noLs (ms.map prD)=true
 | []=>rfl
 | m::ms=>by
  show (noL (prD m) && noLs (ms.map prD))=true
  rw [zpj ms,show noL (prD m)=true by show (noL (markD m.1) && (noL (ver m.2) && true))=true;rw [zoh];rfl]
  rfl
end L2
namespace L2
open PySem PySem.Spec PyProof.Rows PySem.NumText
section
variable {prog:Program} {w:World} {A:Around} {E:Value→Shared→Prop} {s:Shared}
end
end L2
namespace L2
open PySem PySem.Spec PyProof.Rows PySem.NumText
section
variable {prog:Program} {w:World} {A:Around} {E:Value→Shared→Prop} {s:Shared}
end
end L2
namespace L2
open PySem PySem.Spec PyProof.Rows PySem.NumText
section
variable {prog:Program} {w:World} {A:Around} {E:Value→Shared→Prop} {s:Shared}
end
end L2
namespace L2
open PySem PySem.Spec PyProof.Rows PySem.NumText
section
variable {prog:Program} {w:World} {A:Around} {E:Value→Shared→Prop} {s:Shared}
theorem zih (a:Value) {Q₁:Value→Shared→Prop}
  (h:Q₁ (.ref s.heap.objs.size) { s with heap:=s.heap.push { cls := .type "set",dict:=none,data := .set #[] 0 (.fresh 0 0 (!w.params.followText "set-order")) } }) :
  codeAny (model prog w) A (.call (.builtin "set.__new__") ⟨[.type "set",a],[]⟩) (wants Q₁ E) s:=by
 refine codeAny_of_tree ?_
 show wpAny _ A.in1 (do checkBuiltinCall "set.__new__" ⟨[.type "set",a],[]⟩;again (.builtin "set.__new__" ⟨[.type "set",a],[]⟩)) _ _ s
 refine wpAny_bind (wpAny_of_eq (F.newCall_set_1 a) (wpAny_pure ⟨plainId_quiet F.plain_set_new _,codeAny_builtin F.entry_set_new ?_⟩))
 rw [Around.under_plainId F.plain_set_new _]
 unfold Builtin.«set.__new__» Builtin.Frozenset.newClass
 have hsub:=sub_set_self
 obtain ⟨hp,g,d,tk,os⟩:=s
 dsimp only
 wp_walk
 refine wpAny_askSetting (wpAny_pure ?_)
 dsimp only
 simp only [newObj]
 refine wpAny_bind (wpAny_alloc (wpAny_pure ?_))
 exact wpAny_pure h
end
section
variable {prog:Program} {w:World} {A:Around} {R:Result→Shared→Prop} {I:Addr} {fp wr:List Addr} {G:Array GenState→Array GenState→Prop} {n:Nat} {P:Nat→Value→Prop} {St:Nat→Shared→Prop}
end
section
variable {prog:Program} {w:World} {A:Around} {E:Value→Shared→Prop} {s:Shared}
end
end L2
namespace L2
open PySem PySem.Spec PyProof.Rows PySem.NumText
section
variable {X:Cx} {pins:List (Addr×Obj)} {σ:St} {H:Hp} {s:Shared}
end
section
variable {X:Cx}
end
end L2
namespace L2
open PySem PySem.Spec PyProof.Rows PySem.NumText
theorem zpo (a:Value):argsOk "min" ⟨[a],[("default",.none)]⟩:=by
 first | rfl | with_unfolding_all rfl | decide
theorem zxn {α:Type} {lt:α→α→Bool} (st:STO lt) (f:Nat→α):∀ (k i:Nat),i≤k→f (argBest (λ i j=>lt (f i) (f j)) k)=f i ∨ lt (f (argBest (λ i j=>lt (f i) (f j)) k)) (f i)=true
 | 0,i,h=>by
  have:i=0:=by omega
  subst this
  exact .inl rfl
 | k+1,i,h=>by
  have ih:=zxn st f k
  show f (if lt (f (k+1)) (f (argBest (λ i j=>lt (f i) (f j)) k))=true then k+1 else argBest (λ i j=>lt (f i) (f j)) k)=f i ∨ lt (f (if lt (f (k+1)) (f (argBest (λ i j=>lt (f i) (f j)) k))=true then k+1 else argBest (λ i j=>lt (f i) (f j)) k)) (f i)=true
  generalize argBest (λ i j=>lt (f i) (f j)) k=b at ih
  cases hb:lt (f (k+1)) (f b) with
  | true =>
   rw [if_pos rfl]
   rcases Nat.lt_or_ge i (k+1) with hl | hg
   ·rcases ih i (by omega) with e | e
    ·rw [← e];exact .inr hb
    ·exact .inr (st.tr _ _ _ hb e)
   ·have:i=k+1:=by omega
    subst this
    exact .inl rfl
  | false =>
   rw [if_neg (by decide)]
   rcases Nat.lt_or_ge i (k+1) with hl | hg
   ·exact ih i (by omega)
   ·have:i=k+1:=by omega
    subst this
    rcases Classical.em (f b=f (k+1)) with e | e
    ·exact .inl e
    ·exact .inr (st.tri _ _ (λ z=>e z.symm) hb)
section
variable {prog:Program} {w:World} {A:Around} {E:Value→Shared→Prop} {s:Shared}
theorem zen {x:Value} {M:Model} {R:Unit→Shared→Prop} (h:R () s):wpAny M A (checkBuiltinCall "min" ⟨[x],[("default",Value.none)]⟩) R E s:=by
 unfold checkBuiltinCall
 dsimp only
 rw [F.kind_min]
 dsimp only
 exact wpAny_of_eq (zpo x) h
theorem zyt {R:Result→Shared→Prop} {I S:Addr} {fp wr:List Addr} {P:Nat→Value→Prop} {St:Nat→Heap→Prop} (W:Walks prog w A.in1 I fp wr 0 P St) (S1:S∉fp) {h0:Heap} (N1:∀ b∈wr,h0.get? b=none) (N2:h0.get? S=none)
  {c:Nat} (st:St 0 s.heap) (ex:Ext h0 s.heap) (hS:s.heap.get? S=some { cls := .type "list",dict:=none,data := .seq #[] c,slots := #[] })
  (fin:∀ h' tk,Ext h0 h'→R (.ok (.ret .none)) { s with heap:=h',toks:=tk }) :
  codeAny (model prog w) A (.builtin "min.loop" ⟨[.ref I,.none,.ref S],[("default",Value.none)]⟩) R s:=by
 have S2:S∉wr:=λ z=>S1 (W.sub _ z)
 refine codeAny_builtin F.entry_min_loop ?_
 rw [Around.under_plainId F.plain_min_loop _]
 show wpAny _ A.in1 (seqItems? (.ref S) >>= _) _ _ s
 refine wpAny_bind (wpAny_seqItems hS rfl ?_)
 show wpAny _ A.in1 (tryCatch (pyNext (.ref I)) _ >>= _) _ _ s
 refine wpAny_bind (wpAny_tryCatch (W.done s _ _ st λ h' tk kp=>?_))
 have hS':=kp S _ S2 hS
 have ex':Ext h0 h':=λ b o e=>kp b o (λ z=>by rw [N1 b z] at e;cases e) (ex b o e)
 show wpAny _ _ (do rule (toString "min" ++ toString ".default");ret Value.none) _ _ _
 exact wpAny_bind (wpAny_rule (wpAny_pure (fin _ _ ex')))
end
section
variable {X:Cx} {e:Expr} {ta:TA} {x:Str} {id:String} {r:List V→Hp→VK→Prop} {p pos kp kp1:Pos} {j:Nat}
noncomputable def zz6 (X:Cx) (id:String) (r:List V→Hp→VK→Prop):Prop:=∀ (pins:List (Addr×Obj)) (s:Shared) (σ:St) (H:Hp) (xs:List V) (us:List Value) (Q:VK),Inv X pins σ H s→Vals xs us→r xs H Q→wpAny (model X.prog X.w) X.A (call (.builtin id) us [("default",.none)]) (EP X pins σ Q) X.xe s
theorem zps (hc:zz6 X id r) (hg:Gl X x) (hm:X.mg x=none) (hv:bootBuiltins x=some (.builtin id)) (ha:PA X [e] ta) (hn:x ≠ "__name__" := by decide) (hdb:(x == ("__debug__" : Str))=false:=by decide)
  (h1:backTo pos (starEach [e] X.env)=(false,eval e X.env)::backTo pos (starEach [] X.env):=by rfl) (h2:((backTo pos (starEach [e] X.env)).any λ x=>x.fst)=false:=by rfl)
  (h3:((backToKw pos (keywordEach [⟨some "default",.Constant .none j kp1,kp⟩] X.env)).all λ x=>x.fst.isSome)=true:=by rfl) (h4:((backToKw pos (keywordEach [⟨some "default",.Constant .none j kp1,kp⟩] X.env)).any λ x=>x.fst.isNone)=false:=by rfl)
  (h5:(backToKw pos (keywordEach [⟨some "default",.Constant .none j kp1,kp⟩] X.env)).filterMap (·.1)=([Str.ofString "default"]:List Str):=by rfl) :
  PE X (.Call (.Name x p) [e] [⟨some "default",.Constant .none j kp1,kp⟩] pos) (tCB r ta) := .mk <| by
 intro pins s σ H Q I h
 refine wpAny_Call_Name_kw (zdn I hg hm hv ?_ hn hdb)
 refine PyProof.Rows.callWith_kw ?_ h1 h2 h3 h4
 refine thn (ha pos pins s σ H _ I h) λ us s1 ⟨vs,H1,I1,r1,q1⟩=>?_
 refine PyProof.Rows.kws_cons (Constant_none (PyProof.Rows.kws_nil ?_))
 rw [h5]
 exact hc pins s1 σ H1 vs us Q I1 r1 q1
noncomputable def zl8 (K:W.Frag):List V→Hp→VK→Prop:=λ xs H Q=>∃ (a:Addr) (ps:List (List Stp)) (ys:List V),xs=[.ref a]∧SqL K H a ys∧DVs K H (ps.map plc) ys∧(ps=[]→Q .non H)∧(∀ (i:Nat) r v,ps[i]? = some r→ys[i]? = some v→(∀ q∈ps,r=q ∨ pLt r q=true)→Q v H)
theorem znp (hc:X.calm=true) (hu:X.A.units+100<cLine):zz6 X "min" (zl8 X.K):=by
 intro pins s σ H xs us Q I r h
 obtain ⟨a,ps,ys,rfl,hq,hds,q0,q1⟩:=h
 obtain ⟨u,rfl,ru⟩:=zsm r
 cases ru
 obtain ⟨its,rv,pl,hz⟩:=I.list hq
 have hyl:ys.length=ps.length:=by rw [hds.length,List.length_map]
 have hil:its.length=ps.length:=by rw [← rv.length];exact hyl
 have nm:(toString "min" ++ toString ".loop" : String) = "min.loop" := by decide
 have hl:s.heap.IsList a its.toArray:=pl.isList
 refine wpAny_call (codeAny_call_builtin F.plain_min F.entry_min (zen ?_))
 show wpAny _ X.A.in1 (Builtin.Builtins.bindParams "min" ["key", "default"] 0 ⟨[],[("default",Value.none)]⟩ >>= _) _ _ s
 refine wpAny_bind (wpAny_of_eq (show Builtin.Builtins.bindParams "min" ["key", "default"] 0 ⟨[],[("default",Value.none)]⟩=pure [none,some .none] from rfl) ?_)
 show wpAny _ X.A.in1 (pyIter (.ref a) >>= _) _ _ s
 refine wpAny_bind (wpAny_pyIter_list hl (wpAny_bind (wpAny_newObj_type ?_)))
 rw [nm]
 have n0:∀ b,s.heap.objs.size≤b→s.heap.get? b=none:=λ b hb=>Heap.get?_none_of_le hb
 have sz:(s.heap.push { cls := .type "list_iterator",data := .fields #[.ref a,.int 0 0] }).objs.size=s.heap.objs.size+1:=Heap.size_push ..
 have hal:a<s.heap.objs.size:=by
  obtain ⟨o,ho,_⟩:=hl
  exact Heap.lt_size ho
 have W:=Walks.list (prog:=X.prog) (w:=X.w) (A:=X.A.in1) (I.ok.hd hc) s.heap.objs.size a (Nat.ne_of_lt hal) its.toArray
 have kp:∀ (h:Heap) (o1 o2:Obj),Ext h ((h.push o1).push o2):=λ h o1 o2 b o q=>Heap.get?_push_of_some _ (Heap.get?_push_of_some _ q)
 have hat:∀ (i:Nat) z,its.toArray[i]? = some z→∃ x r,ys[i]? = some x∧ps[i]? = some r∧RelV x z∧DV X.K H (plc r) x:=λ i z hz=>by
  have hi:i<ps.length:=by
   have:=(Array.getElem?_eq_some_iff.mp hz).1
   rw [List.size_toArray,hil] at this
   exact this
  obtain ⟨x,hx,hd⟩:=hds.get (i:=i) (d:=plc ps[i]) (by rw [List.getElem?_map,List.getElem?_eq_getElem hi];rfl)
  obtain ⟨u,hu',ru⟩:=rv.get hx
  have:z=u:=by
   rw [List.getElem?_toArray,hu'] at hz
   exact (Option.some.inj hz).symm
  subst this
  exact ⟨x,ps[i],hx,List.getElem?_eq_getElem hi,ru,hd⟩
 have gS:((s.heap.push { cls := .type "list_iterator",data := .fields #[.ref a,.int 0 0] }).push { cls := .type "list",data := .seq #[] }).get? (s.heap.objs.size+1)=some { cls := .type "list",dict:=none,data := .seq #[] 0,slots := #[] }:=by
  have:=Heap.get?_push_size (s.heap.push { cls := .type "list_iterator",data := .fields #[.ref a,.int 0 0] }) (o:={ cls := .type "list",data := .seq #[] }) rfl
  rw [sz] at this
  exact this
 have gI:((s.heap.push { cls := .type "list_iterator",data := .fields #[.ref a,.int 0 0] }).push { cls := .type "list",data := .seq #[] }).IsListIter s.heap.objs.size a 0:=⟨_,Heap.get?_push_of_some _ (Heap.get?_push_size _ rfl),rfl,rfl⟩
 have S1:s.heap.objs.size+1∉[s.heap.objs.size,a]:=by
  simp only [List.mem_cons,List.not_mem_nil,or_false,not_or]
  exact ⟨Nat.ne_of_gt (Nat.lt_succ_self _),Nat.ne_of_gt (Nat.lt_succ_of_lt hal)⟩
 have N1:∀ b∈[s.heap.objs.size],s.heap.get? b=none:=λ b hb=>by rw [List.mem_singleton.mp hb];exact n0 _ (Nat.le_refl _)
 dsimp only
 rw [sz]
 rcases Nat.eq_zero_or_pos ps.length with e0 | hpos
 ·have ep:ps=[]:=List.length_eq_zero_iff.mp e0
  have ei:its=[]:=List.length_eq_zero_iff.mp (by omega)
  subst ei
  refine wpAny_pure ⟨plainId_quiet F.plain_min_loop _,zyt (h0:=s.heap) W S1 N1 (n0 _ (Nat.le_succ _)) ⟨gI,(hl.push _).push _⟩ (kp _ _ _) gS λ h' tk ex=>?_⟩
  exact ⟨.non,H,I.kept (t':=tk) ex,rfl,q0 ep⟩
 ·have key:zcz X.prog X.w X.A.in1 .Lt s.heap (λ i z=>its.toArray[i]? = some z) (λ i j=>pLt (ps.getD i []) (ps.getD j [])):=by
   intro i j x' y' s' Q' E' hij ex e1 e2 hq
   obtain ⟨xi,ri,_,hri,rxi,di⟩:=hat i x' e1
   obtain ⟨xj,rj,_,hrj,rxj,dj⟩:=hat j y' e2
   have hq:Q' (Value.bool (pLt (ps.getD i []) (ps.getD j []))) s':=hq
   rw [List.getD_eq_getElem?_getD,hri,List.getD_eq_getElem?_getD,hrj] at hq
   obtain ⟨as,ra⟩:=DV.reads I _ _ _ di rxi
   obtain ⟨bs,rb⟩:=DV.reads I _ _ _ dj rxj
   exact (zfh 64 (plc ri) (plc rj) (pLt ri rj) X.A.in1 s' x' y' as bs (SeqAt.depth_of_shaped (znb ri)) (zcg ex ra) (zcg ex rb) (zff _) (zff _) (zzn ri rj) (by show X.A.units+1+64+2<cLine;omega)).1 _ _ _ _ hq
  refine wpAny_pure ⟨plainId_quiet F.plain_min_loop _,znt (h0:=s.heap) W _ key _ S1 N1 (n0 _ (Nat.le_succ _)) (by rw [List.size_toArray,hil];exact hpos) ⟨gI,(hl.push _).push _⟩ (kp _ _ _) gS λ z h' tk hz' ex=>?_⟩
  rw [List.size_toArray,hil] at hz'
  obtain ⟨x,r',hx,hr,rx,_⟩:=hat _ z hz'
  refine ⟨x,H,I.kept (t':=tk) ex,rx,q1 _ r' x hr hx λ q hq'=>?_⟩
  obtain ⟨i,hi⟩:=List.getElem?_of_mem hq'
  have hil2:=(List.getElem?_eq_some_iff.mp hi).1
  have:=zxn pLt_sto (λ i=>ps.getD i []) (ps.length - 1) i (by omega)
  rw [show ps.getD (argBest (λ i j=>pLt (ps.getD i []) (ps.getD j [])) (ps.length - 1)) []=r' by rw [List.getD_eq_getElem?_getD,hr];rfl,show ps.getD i []=q by rw [List.getD_eq_getElem?_getD,hi];rfl] at this
  exact this
end
end L2
namespace L2
open PySem PySem.Spec PyProof.Rows PySem.NumText
section
variable {X:Cx}
theorem zfx {K:W.Frag} (h:X.K=K) (hu:X.A.units+100<cLine):OpR X (compareOp .Gt) (rGtG K):=h ▸ zy5 hu
end
end L2
namespace L2
open PySem PySem.Spec PyProof.Rows PySem.NumText
section
variable {prog:Program} {w:World} {A:Around} {E:Value→Shared→Prop} {s:Shared} {d it:Addr} {ds:Array DictEntry} {ep i:Nat}
end
end L2
namespace L2
open PySem PySem.Spec PyProof.Rows PySem.NumText
section
variable {X:Cx} {o:Expr} {td:TE}
end
section
variable {prog:Program} {w:World} {A:Around} {E:Value→Shared→Prop} {s:Shared} {d it S:Addr} {ds:Array DictEntry} {ep:Nat}
end
section
variable {X:Cx}
end
end L2
namespace L2
open PySem PySem.Spec PyProof.Rows PySem.NumText
section
variable {X:Cx}
end
noncomputable def zqq (es:List Ent) (m:Mark):List Ent:=es.filter λ e => !decide (e.1=m)
theorem zwj {α β:Type} (f:α→β):∀ (l:List α) (j:Nat),(l.map f).eraseIdx j=(l.eraseIdx j).map f
 | [],j=>by simp
 | x::l,0=>rfl
 | x::l,j+1=>by rw [List.map_cons,List.eraseIdx_cons_succ,List.eraseIdx_cons_succ,List.map_cons,zwj f l j]
theorem zuj:∀ {xs:List Row} {k:List Key} {p:Addr×Value} {j:Nat},(xs.map (·.1)).Nodup→xs[j]? = some (k,p)→xs.eraseIdx j=xs.filter λ y => !decide (y.1=k)
 | [],k,p,j,_,h=>by simp at h
 | x::xs,k,p,0,nd,h=>by
  cases (Option.some.inj h)
  have hn:=(List.nodup_cons.mp nd).1
  rw [List.eraseIdx_cons_zero,List.filter_cons_of_neg (by simp)]
  refine (List.filter_eq_self.mpr λ y hy=>?_).symm
  have:y.1≠k:=λ e=>hn (by rw [← e];exact List.mem_map_of_mem (f:=(·.1)) hy)
  simp [this]
 | x::xs,k,p,j+1,nd,h=>by
  have hx:x.1≠k:=λ e=>by
   have hm:(k,p)∈xs:=List.mem_of_getElem? (show xs[j]? = some (k,p) by simpa using h)
   exact (List.nodup_cons.mp nd).1 (by show x.1∈_;rw [e];exact List.mem_map_of_mem (f:=(·.1)) hm)
  rw [List.eraseIdx_cons_succ,List.filter_cons_of_pos (by simp [hx]),zuj (List.nodup_cons.mp nd).2 (by simpa using h)]
section
variable {prog:Program} {w:World} {A:Around} {E:Value→Shared→Prop} {s:Shared} {d q:Addr}
theorem zzr {Q:Option DictEntry→Shared→Prop} {xs:List Row} {m:Mark} {k:List Key} (room:(dK prog w).room A) (hk:(dK prog w).is s.heap k q) (hd:s.heap.DictOfH (dK prog w) d xs) (hn:xs.length≤1000)
  (h0:(∀ x∈xs,x.1≠k)→∀ tk,Q none { s with toks:=tk })
  (h1:∀ x∈xs,x.1=k→∀ h' tk,h'.DictOfH (dK prog w) d (xs.filter λ y => !decide (y.1=k))→Heap.SameBut d s.heap h'→Q (some (entryOfKey (dK prog w) x)) { s with heap:=h',toks:=tk }) :
  wpAny (model prog w) A (Builtin.Dict.takeOut d (.ref q)) Q E s:=by
 obtain ⟨o,es,ep,o1,oE,o2,o3,o4,o5⟩:=hd
 unfold Builtin.Dict.takeOut
 refine wpAny_holding (wpAny_bind ((dK prog w).pyHash room hk ?_))
 refine wpAny_bind (wpAny_dictFind_heap (s:={ s with toks:=s.toks+(dK prog w).draws k }) room hk o1 o2 o3 o4 o5 (λ hno=>?_) (λ j p hj=>?_))
 ·exact wpAny_pure (h0 (λ x hx e=>by
   obtain ⟨i,hi⟩:=List.getElem?_of_mem hx
   obtain ⟨x1,x2⟩:=x
   have e:x1=k:=e
   subst e
   exact hno i x2 hi) _)
 ·dsimp only
  refine wpAny_bind (wpAny_dictEntries o1 o2 ?_)
  have hej:es[j]? = some (entryOfKey (dK prog w) (k,p)):=by
   rw [← Array.getElem?_toList,o3,List.getElem?_map,hj]
   rfl
  rw [hej]
  dsimp only
  have hsz:es.size=xs.length:=by rw [← Array.length_toList,o3,List.length_map]
  have hjl:j<es.size:=(Array.getElem?_eq_some_iff.mp hej).1
  have er:(es.eraseIdxIfInBounds j).toList=es.toList.eraseIdx j:=by simp [Array.eraseIdxIfInBounds,hjl]
  refine wpAny_bind (wpAny_updateDictKeys o1 o2 (wpAny_pure ?_) (by rw [hsz,sizeLine_eq];omega) (by rw [← Array.length_toList,er,List.length_eraseIdx,Array.length_toList];split <;> omega))
  have hxm:(k,p)∈xs:=List.mem_of_getElem? hj
  have hfl:xs.eraseIdx j=xs.filter λ y => !decide (y.1=k):=zuj o5 hj
  have hget:(s.heap.update d (Obj.mapDictKeys λ x=>x.eraseIdxIfInBounds j)).get? d=some (Obj.mapDictKeys (λ x=>x.eraseIdxIfInBounds j) o):=Heap.get?_update_self _ o1 (by obtain ⟨c1,c2,c3,c4⟩:=o;cases o2;rfl)
  have sb:=Heap.SameBut.update s.heap d (Obj.mapDictKeys λ x=>x.eraseIdxIfInBounds j)
  refine h1 (k,p) hxm rfl _ _ ⟨_,es.eraseIdxIfInBounds j,ep+1,hget,?_,?_,?_,λ x hx=>?_,?_⟩ sb
  ·obtain ⟨c1,c2,c3,c4⟩:=o
   cases o2
   exact oE
  ·obtain ⟨c1,c2,c3,c4⟩:=o
   cases o2
   rfl
  ·rw [er,← hfl,o3]
   exact zwj _ _ _
  ·exact (dK prog w).keeps (o4 x (List.mem_filter.mp hx).1) o1 o2 sb
  ·exact List.Nodup.sublist (List.Sublist.map _ List.filter_sublist) o5
end
end L2
namespace L2
open PySem PySem.Spec PyProof.Rows PySem.NumText
theorem zgi:∀ {es:List Ent} {xs:List Row},Paired EntR es xs→∀ m,Paired EntR (zqq es m) (xs.filter λ y => !decide (y.1=mkK m))
 | _,_,.nil,m=>.nil
 | e::es,x::xs,.cons a b,m=>by
  unfold zqq
  by_cases h:e.1=m
  ·rw [List.filter_cons_of_neg (by simp [h]),List.filter_cons_of_neg (by rw [a.1,h];simp)]
   exact zgi b m
  ·rw [List.filter_cons_of_pos (by simp [h]),List.filter_cons_of_pos (by rw [a.1];simp;exact λ z=>h (ztg z))]
   exact .cons a (zgi b m)
theorem zvn:∀ {es:List Ent} {xs:List Row},Paired EntR es xs→∀ m,(zid es m=none→∀ x∈xs,x.1≠mkK m)∧∀ v,zid es m=some v→∃ x∈xs,x.1=mkK m
 | _,_,.nil,m=>⟨(λ _ x hx=>by cases hx),(λ v h=>by cases h)⟩
 | e::es,x::xs,.cons a b,m=>by
  obtain ⟨h1,h2⟩:=zvn b m
  unfold zid
  by_cases h:e.1=m
  ·rw [if_pos h]
   exact ⟨(λ z=>by cases z),λ v _=>⟨x,List.mem_cons_self,by rw [a.1,h]⟩⟩
  ·rw [if_neg h]
   refine ⟨λ z y hy=>?_,λ v hv=>?_⟩
   ·rcases List.mem_cons.mp hy with rfl | hy
    ·rw [a.1];exact λ z=>h (ztg z)
    ·exact h1 z y hy
   ·obtain ⟨y,hy,e⟩:=h2 v hv
    exact ⟨y,List.mem_cons_of_mem _ hy,e⟩
theorem zzj:∀ {es:List Ent} {xs:List Row},Paired EntR es xs→(xs.map (·.1)).Nodup→∀ {m:Mark} {x:Row},x∈xs→x.1=mkK m→∃ v,zid es m=some v∧RelV v x.2.2
 | _,_,.nil,_,m,x,hx,_=>by cases hx
 | e::es,y::xs,.cons a b,nd,m,x,hx,ek=>by
  unfold zid
  obtain ⟨n1,n2⟩:=List.nodup_cons.mp nd
  by_cases h:e.1=m
  ·rw [if_pos h]
   rcases List.mem_cons.mp hx with rfl | hx
   ·exact ⟨_,rfl,a.2.2⟩
   ·exact absurd (show y.1∈xs.map (·.1) by rw [a.1,h,← ek];exact List.mem_map_of_mem (f:=(·.1)) hx) n1
  ·rw [if_neg h]
   rcases List.mem_cons.mp hx with rfl | hx
   ·rw [a.1] at ek;exact absurd (ztg ek) h
   ·exact zzj b n2 hx ek
section
variable {prog:Program} {w:World} {A:Around} {E:Value→Shared→Prop} {s:Shared} {d q:Addr}
theorem zqs {R:Result→Shared→Prop} {xs:List Row} {k:List Key} (dflt:Option Value) (room:(dK prog w).room A.in1) (hs:(d == sysModules)=false) (hk:(dK prog w).is s.heap k q) (hd:s.heap.DictOfH (dK prog w) d xs) (hn:xs.length≤1000)
  (h0:(∀ x∈xs,x.1≠k)→∃ v,dflt=some v∧∀ tk,R (.ok (.ret v)) { s with toks:=tk })
  (h1:∀ x∈xs,x.1=k→∀ h' tk,h'.DictOfH (dK prog w) d (xs.filter λ y => !decide (y.1=k))→Heap.SameBut d s.heap h'→R (.ok (.ret x.2.2)) { s with heap:=h',toks:=tk }) :
  wpAny (model prog w) A.in1 (Builtin.«dict.pop» ⟨.ref d :: .ref q::dflt.toList,[]⟩) (λ fin s'=>match fin with | .done f=>R (.ok f) s' | .again c'=>c'.quiet=true∧codeAny (model prog w) A c' R s') (λ e s'=>R (.error e) s') s:=by
 obtain ⟨o,es,ep,o1,oE,o2,o3,o4,o5⟩:=id hd
 have tD:s.TypeIs (.ref d) "dict" := ⟨o,o1,oE.1⟩
 unfold Builtin.«dict.pop» Builtin.Dict.keyAndDefault
 refine wpAny_bind (wpAny_bind (wpAny_notOrdered_dict tD ?_))
 have hsz:es.size=xs.length:=by rw [← Array.length_toList,o3,List.length_map]
 have go:wpAny (model prog w) A.in1 (do
   let old ← if es.isEmpty=true then do rule "dict.pop.empty";pure none else Builtin.Dict.takeOut d (.ref q)
   if old.isNone=true then Builtin.Dict.missedRemoval d (.ref q)
   match old,dflt with
   | some e,_=>do letGo [e.key] [e.val];ret e.val
   | none,some x=>do rule "dict.pop.default";ret x
   | none,none=>do rule "dict.pop.keyerror";let x ← newExc (.type "KeyError") [.ref q];raiseNew x) (λ fin s'=>match fin with | .done f=>R (.ok f) s' | .again c'=>c'.quiet=true∧codeAny (model prog w) A c' R s') (λ e s'=>R (.error e) s') s:=by
  have miss:Builtin.Dict.missedRemoval d (.ref q)=pure ():=by
   unfold Builtin.Dict.missedRemoval
   rw [hs]
   rfl
  have gone:∀ tk,(∀ x∈xs,x.1≠k)→wpAny (model prog w) A.in1 (do
    if (none:Option DictEntry).isNone=true then Builtin.Dict.missedRemoval d (.ref q)
    match (none:Option DictEntry),dflt with
    | some e,_=>do letGo [e.key] [e.val];ret e.val
    | none,some x=>do rule "dict.pop.default";ret x
    | none,none=>do rule "dict.pop.keyerror";let x ← newExc (.type "KeyError") [.ref q];raiseNew x) (λ fin s'=>match fin with | .done f=>R (.ok f) s' | .again c'=>c'.quiet=true∧codeAny (model prog w) A c' R s') (λ e s'=>R (.error e) s') { s with toks:=tk }:=by
   intro tk hno
   obtain ⟨v,rfl,hv⟩:=h0 hno
   simp only [Option.isNone_none,if_true]
   rw [miss]
   refine wpAny_bind (wpAny_pure ?_)
   exact wpAny_bind (wpAny_rule (wpAny_pure (hv tk)))
  by_cases he:es.isEmpty=true
  ·rw [if_pos he]
   refine wpAny_bind (wpAny_bind (wpAny_rule (wpAny_pure ?_)))
   refine gone s.toks λ x hx=>?_
   have:xs.length=0:=by rw [← hsz];simpa using he
   rw [List.length_eq_zero_iff.mp this] at hx
   cases hx
  ·rw [if_neg he]
   refine wpAny_bind (zzr (m:=(0,0)) room hk hd hn (λ hno tk=>gone tk hno) (λ x hx e h' tk hd' sb=>?_))
   simp only [Option.isNone_some,Bool.false_eq_true,if_false]
   exact wpAny_bind (wpAny_letGo (wpAny_pure (h1 x hx e h' tk hd' sb)))
 refine wpAny_bind (wpAny_of_eq (a:=()) rfl ?_)
 cases dflt with
 | none =>
  refine wpAny_bind (wpAny_of_eq (a:=(Value.ref d,[Value.ref q])) rfl (wpAny_bind (wpAny_pure (wpAny_pure ?_))))
  dsimp only
  rw [if_neg (show ¬ (keyPart (Value.ref q)).isSome=true from Bool.false_ne_true)]
  refine wpAny_bind (wpAny_dictEntries o1 o2 (wpAny_bind (wpAny_pure ?_)))
  exact go
 | some v =>
  refine wpAny_bind (wpAny_of_eq (a:=(Value.ref d,[Value.ref q,v])) rfl (wpAny_bind (wpAny_pure (wpAny_pure ?_))))
  dsimp only
  rw [if_neg (show ¬ (keyPart (Value.ref q)).isSome=true from Bool.false_ne_true)]
  refine wpAny_bind (wpAny_dictEntries o1 o2 (wpAny_bind (wpAny_pure ?_)))
  exact go
end
section
variable {X:Cx} {o e:Expr} {td ty:TE} {apos cpos:Pos}
noncomputable def zg6 (P:Program) (w:World) (K:W.Frag) (td ty:TE) (dflt:Bool):TE:=λ σ H Q=>td σ H λ x H1=>∃ a es,x = .ref a∧DM P w K H1 a es∧ty σ H1 λ y H2=>∃ q m,y = .ref q∧DM P w K H2 a es∧SqT K H2 q (mkV m)∧es.length≤1000∧(∀ v,zid es m=some v→∀ o,Q v (upd H2 a (dO P w a (zqq es m) o)))∧(zid es m=none→dflt=true∧Q .non H2)
theorem zc0 {pins:List (Addr×Obj)} {s:Shared} {σ:St} {H:Hp} {Q:VK} (hu:X.A.units+1<cLine) (I:Inv X pins σ H s) {a q:Addr} {es:List Ent} {m:Mark} (D:DM X.prog X.w X.K H a es) (hm:SqT X.K H q (mkV m)) (hl:es.length≤1000) (dflt:Bool)
  (q1:∀ v,zid es m=some v→∀ o,Q v (upd H a (dO X.prog X.w a (zqq es m) o))) (q0:zid es m=none→dflt=true∧Q .non H) :
  wpAny (model X.prog X.w) X.A (call (.builtin "dict.pop") (.ref a :: .ref q::(if dflt=true then some Value.none else none).toList)) (EP X pins σ Q) X.xe s:=by
 obtain ⟨z,hd,xs,r,dd⟩:=I.dict D
 have hxl:xs.length≤1000:=by rw [← Paired.length r];exact hl
 obtain ⟨o1,o2⟩:=D.ob
 have nd:(xs.map (·.1)).Nodup:=by obtain ⟨_,_,_,_,_,_,_,_,h⟩:=dd;exact h
 obtain ⟨f1,f2⟩:=zvn r m
 have hT:s.TypeIs (.ref a) "dict" := dd.typeIs
 have args:argsOk "dict.pop" ⟨.ref a :: .ref q::(if dflt=true then some Value.none else none).toList,[]⟩:=by
  cases dflt with
  | true=>exact F.args_dict_pop_3 _ _ _
  | false=>exact F.args_dict_pop_2 _ _
 refine call_meetsIn (S:=λ A R s'=>(dK X.prog X.w).room A.in1∧s'=s∧((∀ x∈xs,x.1≠mkK m)→∃ v,(if dflt=true then some Value.none else none)=some v∧∀ tk,R (.ok (.ret v)) { s with toks:=tk })∧(∀ x∈xs,x.1=mkK m→∀ h' tk,h'.DictOfH (dK X.prog X.w) a (xs.filter λ y => !decide (y.1=mkK m))→Heap.SameBut a s.heap h'→R (.ok (.ret x.2.2)) { s with heap:=h',toks:=tk })) PySem.F.slot_dict_pop hT PySem.F.entry_dict_pop args ?_ ⟨tupleKind_room_in1 hu,rfl,λ hno=>?_,λ x hx e h' tk hd' sb=>?_⟩
 ·rintro A R s' ⟨room,rfl,h0,h1⟩
  exact zqs _ room hd (I.mark hm) dd hxl h0 h1
 ·have hn:zid es m=none:=by
   cases h:zid es m with
   | none=>rfl
   | some v =>
    obtain ⟨x,hx,e⟩:=f2 v h
    exact absurd e (hno x hx)
  obtain ⟨rfl,q0'⟩:=q0 hn
  exact ⟨.none,rfl,λ tk=>⟨.non,H,I.kept (t':=tk) (λ _ _ e=>e),rfl,q0'⟩⟩
 ·obtain ⟨v,hv,rv⟩:=zzj r nd hx e
  have he:∃ ob,h'.get? a=some ob:=let ⟨ob,_,_,hq,_⟩:=hd'; ⟨ob,hq⟩
  obtain ⟨ob,hob⟩:=zvy (P:=X.prog) (w:=X.w) (H:=H) (es:=zqq es m) (Nat.le_trans (List.length_filter_le _ _) z) hd (zgi r m) hd'
  exact ⟨v,_,I.write (t':=tk) (x:=a) (e:=a) (by rw [o2];exact True.intro) (.inl rfl) (λ b ob hb z=>(sb.2 b hb).trans z) he hob,rv,q1 v hv ob⟩
theorem zhs {j:Nat} {np:Pos} (hu:X.A.units+1<cLine) (ho:PE X o td) (he:PE X e ty) (hbase:attributeBase o "pop" X.env (eval o X.env)=eval o X.env:=by rfl)
  (hfew:((backTo cpos (starEach [e,.Constant .none j np] X.env)).all (λ x => !x.1) && (backToKw cpos (keywordEach [] X.env)).all (λ x=>x.1.isSome)
   && decide (([e,.Constant .none j np]:List Expr).length+([]:List Keyword).length+(if ([]:List Keyword).isEmpty then 0 else 1)<30))=true:=by rfl)
  (hline:(apos.endLine == cpos.line)=true:=by rfl) (htr:backTo cpos (starEach [e,.Constant .none j np] X.env)=[(false,eval e X.env),(false,eval (.Constant .none j np) X.env)]:=by rfl):PE X (.Call (.Attribute o "pop" apos) [e,.Constant .none j np] [] cpos) (zg6 X.prog X.w X.K td ty true) := .mk <| by
 intro pins s σ H Q I h
 refine wpAny_Call_method hbase hfew hline PySem.F.plainAttrs_dict PySem.F.slot_dict_pop PySem.F.type_dict_pop (thn (ho pins s σ H _ I h) λ u s1 ⟨x,H1,I1,rx,a,es,ex,D,q1⟩=>?_)
 subst ex
 cases rx
 obtain ⟨_,_,xs,_,dd⟩:=I1.dict D
 refine ⟨dd.typeIs,λ b q=>?_,?_⟩
 ·cases q
  obtain ⟨ob,_,_,h1,h2,_⟩:=dd
  exact ⟨ob,h1,h2.2.1⟩
 rw [htr]
 refine Calls.callWith_builtin rfl (Calls.evalArgs_plain (Calls.spliced_cons (thn (he pins s1 σ H1 _ I1 q1) λ iv s2 ⟨y,H2,I2,ry,q,m,ey,D2,hm,hl,k1,k0⟩=>Calls.spliced_cons (Constant_none (Calls.spliced_nil ?_)))))
 subst ey
 cases ry
 exact zc0 hu I2 D2 hm hl true k1 k0
end
end L2
namespace L2
open PySem PySem.Spec PyProof.Rows PySem.NumText
theorem slot_si_next:Slot "set_iterator" (Str.ofString "__next__") "set_iterator.__next__" := by
 refine Slot.of (owner := "set_iterator") (n := "__next__") ?_ ?_ ?_ ?_ ?_ ?_ ?_
 ·rw [typeLookup_type,builtinLookup_eq_fast];rfl
 ·decide +kernel
 ·decide +kernel
 ·decide +kernel
 ·exact Or.inl (by decide +kernel)
 ·rw [isSubtype_type];rfl
 ·decide +kernel
theorem zje:Slot "set_iterator" (Str.ofString "__iter__") "set_iterator.__iter__" := by
 refine Slot.of (owner := "set_iterator") (n := "__iter__") ?_ ?_ ?_ ?_ ?_ ?_ ?_
 ·rw [typeLookup_type,builtinLookup_eq_fast];rfl
 ·decide +kernel
 ·decide +kernel
 ·decide +kernel
 ·exact Or.inl (by decide +kernel)
 ·rw [isSubtype_type];rfl
 ·decide +kernel
theorem zeh:entryFor table "set_iterator.__next__" = some Builtin.«set_iterator.__next__» := entryFor_of_tree (by rfl)
theorem zaf:entryFor table "set.__iter__" = some Builtin.«frozenset.__iter__» := entryFor_alias (id' := "frozenset.__iter__") (by rfl) (by rfl) (by decide +kernel) (by rfl)
theorem zoy (a:Value):argsOk "set_iterator.__next__" ⟨[a],[]⟩:=by rfl
noncomputable def zbu (h:Heap) (a:Addr):Prop:=∃ led,h.get? a=some { cls := .type "set",data := .set #[] 0 (SetTable.fresh 0 0 led) }
noncomputable def SiAt (h:Heap) (it a:Addr):Prop:=h.get? it=some { cls := .type "set_iterator",data := .fields #[rawInt 0,rawInt 0,.ref a,rawInt 0,rawInt 0] }
section
variable {prog:Program} {w:World} {A:Around} {E:Value→Shared→Prop} {s:Shared} {a it:Addr}
theorem zyl {Q:Value→Shared→Prop} (hs:zbu s.heap a)
  (k:Q (.ref s.heap.objs.size) { s with heap:=s.heap.push { cls := .type "set_iterator",data := .fields #[rawInt 0,rawInt 0,.ref a,rawInt 0,rawInt 0] } }) :
  wpAny (model prog w) A (pyIter (.ref a)) Q E s:=by
 obtain ⟨led,ho⟩:=hs
 have ty:s.TypeIs (.ref a) "set" := ⟨_,ho,rfl⟩
 refine wpAny_pyIter_slot ty F.slot_set_iter (wpAny_call_entry F.slot_set_iter ty zaf ?_ (F.args_set_iter_1 _))
 unfold Builtin.«frozenset.__iter__» Builtin.Frozenset.slot0 Builtin.Frozenset.sizeOf
 refine wpAny_bind (wpAny_bind (wpAny_pure (wpAny_pure ?_)))
 have fit:(SetTable.fresh 0 0 led).fits (#[]:Array (Int×Value)).size=true:=by cases led <;> rfl
 refine wpAny_bind (wpAny_bind (wpAny_setEntries_of ho rfl fit (wpAny_pure ?_)))
 unfold setDrawn setsByText
 refine wpAny_bind (wpAny_bind (wpAny_setState_of ho rfl fit ?_))
 refine wpAny_bind (wpAny_bind (wpAny_askSetting (wpAny_pure (wpAny_pure ?_))))
 have e:∀ b c:Bool,(!b && (c && decide ((#[]:Array (Int×Value)).size > 1)))=false:=by intro b c;cases b <;> cases c <;> rfl
 rw [if_neg (λ z=>by have:=(e _ _).symm.trans z;cases this)]
 refine wpAny_bind (wpAny_pure (wpAny_bind (wpAny_setEpoch_of ho rfl fit (wpAny_bind (wpAny_newObj_type ?_ ?_)))))
 ·exact wpAny_pure ⟨_,rfl, "set_iterator",_,⟨_,Heap.get?_push_size _ rfl,rfl⟩,slot_si_next.lookup,k⟩
 ·simp only [sizeOk,List.size_toArray,List.length_cons,List.length_nil,sizeLine_eq]
  omega
theorem ztk {Q:Option Value→Shared→Prop} (hh:A.handled=none) (hi:SiAt s.heap it a) (hs:zbu s.heap a)
  (k:∀ h',(∀ b o,b≠it→s.heap.get? b=some o→h'.get? b=some o)→Q none { s with heap:=h' }):wpAny (model prog w) A (pyNext (.ref it)) Q E s:=by
 obtain ⟨led,ho⟩:=hs
 have ty:s.TypeIs (.ref it) "set_iterator" := ⟨_,hi,rfl⟩
 have fit:(SetTable.fresh 0 0 led).fits (#[]:Array (Int×Value)).size=true:=by cases led <;> rfl
 unfold pyNext
 refine wpAny_bind (wpAny_attempt (wpAny_callSpecial?_slot ty slot_si_next (wpAny_call_entry slot_si_next ty zeh ?_ (zoy _))))
 unfold Builtin.«set_iterator.__next__»
 refine wpAny_bind (wpAny_pure (wpAny_bind (wpAny_fieldsOf hi rfl ?_)))
 show wpAny _ _ (do let x ← setEntries a;_) _ _ _
 refine wpAny_bind (wpAny_setEntries_of ho rfl fit ?_)
 rw [if_neg (by decide)]
 show wpAny _ _ (do let x ← setNext a (0:Int).toNat (0:Int).toNat (0:Int).toNat;_) _ _ _
 refine wpAny_bind ?_
 have nx:∀ {R:Option (Value×Nat)→Shared→Prop} {E':Value→Shared→Prop} {B:Around},R none s→wpAny (model prog w) B (setNext a (0:Int).toNat (0:Int).toNat (0:Int).toNat) R E' s:=by
  intro R E' B r
  unfold setNext
  refine wpAny_bind (wpAny_setState_of ho rfl fit ?_)
  unfold setsByText
  refine wpAny_bind (wpAny_bind (wpAny_askSetting (wpAny_pure ?_)))
  generalize hb:({ program:=(model prog w).prog,params:=(model prog w).w.params }:Setting).params.followText "set-order" = b
  cases b with
  | true =>
   rw [if_pos rfl]
   show wpAny _ _ (do let x ← setWalk a;_) _ _ _
   unfold setWalk setsByText
   refine wpAny_bind (wpAny_bind (wpAny_setState_of ho rfl fit ?_))
   refine wpAny_bind (wpAny_bind (wpAny_askSetting (wpAny_pure ?_)))
   rw [hb,if_pos rfl]
   refine wpAny_bind (wpAny_askSetting (wpAny_pure (wpAny_pure ?_)))
   exact r
  | false =>
   rw [if_neg Bool.false_ne_true]
   have e:∀ c:Bool,(c && decide ((#[]:Array (Int×Value)).size > 1))=false:=by intro c;cases c <;> rfl
   rw [if_neg (λ z=>by have:=(e _).symm.trans z;cases this)]
   refine wpAny_bind ?_
   have e2:∀ c:Bool,(!c && !(#[]:Array (Int×Value)).isEmpty)=false:=by intro c;cases c <;> rfl
   refine (show ∀ {m:Sem Unit} {R':Unit→Shared→Prop},m=pure ()→R' () s→wpAny (model prog w) B m R' E' s from λ em r'=>by rw [em];exact wpAny_pure r') (if_neg (λ z=>by have:=(e2 _).symm.trans z;cases this)) ?_
   exact wpAny_pure r
 refine nx ?_
 show wpAny _ _ (do setField (.ref it) 2 .none;let x ← newExc (.type "StopIteration") [];raiseNew x) _ _ _
 refine wpAny_bind (wpAny_setField_rec (k:=2) hi (by show 2<5;decide) λ h1 g1 sb=>?_)
 unfold newExc raiseNew
 refine wpAny_bind (wpAny_bind (wpAny_newObj_type ?_))
 have fa:firstArgMember (.type "StopIteration") []=pure Value.none:=by
  rw [firstArgMember.eq_1]
  generalize (Manifest.find? "StopIteration").elim false (λ t=>t.mro.contains "StopIteration" || t.mro.contains "SystemExit")=b
  cases b <;> rfl
 refine wpAny_bind (wpAny_of_eq fa (wpAny_newObj_type ?_ (sizeOk_excFields _ _ _ _ _ _ _ _)))
 refine wpAny_bind (wpAny_handled ?_)
 rw [show A.in1.handled=none from hh]
 refine wpAny_throw ?_
 show wpAny _ _ (do let x ← isInstance _ (.type "StopIteration");_) _ _ _
 refine wpAny_bind (wpAny_isInstance ⟨_,Heap.get?_push_size _ rfl,rfl⟩ isSubtype_stop ?_)
 rw [if_pos rfl]
 refine wpAny_pure (k _ λ b o hb e=>?_)
 exact Heap.get?_push_of_some _ (Heap.get?_push_of_some _ ((sb.2 b hb).trans e))
theorem zku {Q:Bool→Shared→Prop} {r:Addr} (hT:s.TypeIs (.ref r) "set") (h:Q false s):wpAny (model prog w) A (Builtin.List.listLengthHint (.ref r)) Q E s:=by
 unfold Builtin.List.listLengthHint
 refine wpAny_bind (wpAny_specialOf hT F.slot_set_len.lookup ?_)
 have sp:splitId "set.__len__" = some ("set", "__len__"):=by decide +kernel
 dsimp only
 rw [sp]
 have sub:isSubtype (.type "set") (.type "set")=pure true:=by rw [isSubtype_type];rfl
 refine wpAny_bind (wpAny_isInstance hT sub ?_)
 rw [if_neg (by decide)]
 rw [if_pos (by decide +kernel)]
 refine wpAny_bind (wpAny_typeOf hT ?_)
 exact wpAny_pure h
end
end L2
namespace L2
open PySem PySem.Spec PyProof.Rows PySem.NumText
theorem zgg:entryFor table "set_iterator.__iter__" = some Builtin.«dict_keyiterator.__iter__» := entryFor_alias (id' := "dict_keyiterator.__iter__") (by rfl) (by rfl) (by decide +kernel) (by rfl)
theorem zei (a:Value):argsOk "set_iterator.__iter__" ⟨[a],[]⟩:=by rfl
section
variable {prog:Program} {w:World} {A:Around} {E:Value→Shared→Prop} {s:Shared} {a it:Addr}
theorem zkq {P:Nat→Value→Prop}:W.KdlSrc prog w "set" a a 0 P λ h=>zbu h a where
 type:=λ s ⟨_,ho⟩=>⟨_,ho,rfl⟩
 there:=λ h ⟨_,ho⟩=>⟨Heap.lt_size ho,Heap.lt_size ho⟩
 keep:=λ h h' ⟨led,ho⟩ k=>⟨led,k a (.inl rfl) _ ho⟩
 notList:=by decide
 notTuple:=by decide
 hint:=λ A E s Q ⟨_,ho⟩ q=>zku ⟨_,ho,rfl⟩ q
 iter:=λ A s hh hs=>by
  refine ⟨{ cls := .type "set_iterator",data := .fields #[rawInt 0,rawInt 0,.ref a,rawInt 0,rawInt 0] },λ i h=>SiAt h s.heap.objs.size a∧zbu h a,λ E Q k=>zyl hs k,⟨?_,?_,?_,?_,?_⟩,?_,?_⟩
  ·intro b hb
   simp at hb
   simp [hb]
  ·rintro i h h' ⟨h1,led,h2⟩ k
   exact ⟨k _ (by simp) _ h1,led,k _ (by simp) _ h2⟩
  ·intro i s' Q E hi
   omega
  ·rintro s' Q E ⟨h1,h2⟩ k
   refine ztk hh h1 h2 λ h' kp=>k h' s'.toks λ b o hb e=>kp b o (by simpa using hb) e
  ·rintro i s' Q E ⟨h1,h2⟩ q
   have ty:s'.TypeIs (.ref s.heap.objs.size) "set_iterator" := ⟨_,h1,rfl⟩
   exact wpAny_pyIter_slot ty zje (wpAny_call_entry zje ty zgg (wpAny_pure ⟨_,rfl, "set_iterator",_,ty,slot_si_next.lookup,q⟩) (zei _))
  ·exact Heap.get?_push_size _ rfl
  ·obtain ⟨led,ho⟩:=hs
   exact ⟨led,Heap.get?_push_of_some _ ho⟩
end
noncomputable def zuh (a:Addr):HO := .ext λ h=>zbu h a
section
variable {X:Cx}
theorem zki (hc:X.calm=true):zqk X (.builtin "sorted") (λ xs H Q=>∃ a,xs=[.ref a]∧H a=some (zuh a)∧∀ l,H l=none→Q (.ref l) (upd H l (.lst []))):=by
 intro pins s σ H xs us Q I r h
 obtain ⟨a,rfl,ha,q⟩:=h
 obtain ⟨u,rfl,ru⟩:=zsm r
 cases ru
 obtain ⟨hs,_,_⟩:=I.hok a _ ha
 refine znc (W.kdu_collect (P:=λ _ _=>True) zkq (I.ok.hd hc) hs (Nat.zero_le _) λ h' tk acc kp it=>?_)
 have hz:acc.toList=[]:=by
  have:=it.1
  simpa using this
 rw [hz]
 refine ⟨λ _ _=>false,by simp,⟨λ a b c ha=>by simp at ha,λ a b ha=>by simp at ha,λ a b ha=>by simp at ha⟩,λ two=>by simp at two,λ p h2 l c hp up hle hat kp2=>?_⟩
 have hp0:p.toList=[]:=List.perm_nil.mp hp.pm
 have I1:Inv X pins σ H { s with heap:=h',toks:=tk }:=I.kept kp
 have hn:=I1.hok.fresh hle
 refine ⟨.ref l,_,I1.laid (t':=tk) (o := .lst []) kp2 hle ⟨Nat.zero_le _,_,c,.nil,?_⟩,rfl,q l hn⟩
 rw [hat,zri,hp0]
 rfl
end
end L2
namespace L2
open PySem PySem.Spec PyProof.Rows PySem.NumText
section
variable {prog:Program} {w:World} {A:Around} {E:Value→Shared→Prop} {s:Shared} {a it:Addr} {es:Array (Int×Value)} {ep i:Nat} {t:ST}
end
end L2
namespace L2
open PySem PySem.Spec PyProof.Rows PySem.NumText
section
variable {prog:Program} {w:World} {A:Around} {E:Value→Shared→Prop} {s:Shared} {a it S:Addr} {es:Array (Int×Value)} {ep:Nat} {t:ST}
end
section
variable {X:Cx}
end
end L2
namespace L2
open PySem PySem.Spec PyProof.Rows PySem.NumText
section
variable {prog:Program} {w:World} {A:Around} {R:Result→Shared→Prop} {s:Shared}
theorem zpi {env:Env} (elt:Expr) (gens:List Comprehension) (scope:Scope) (pos:Pos):eval (elt.SetComp gens scope pos) env =
  comprehension (elt.SetComp gens scope pos) scope env (firstIterPos gens pos) (newSet (.type "set")) (firstAsync gens) (firstIter gens env):=by rw [eval]
theorem zvg {elt target iter:Expr} {ifs:List Expr} {rest:List Comprehension} {scope:Scope} {pos:Pos} {it acc:Value} {env:Env}
  (h0:codeAny (model prog w) A (.compLoop (elt.SetComp (⟨target,iter,ifs,0⟩::rest) scope pos) 0 it acc env) R s)
  (h:wpAny (model prog w) A (pyIter it) (λ it' s'=>codeAny (model prog w) A (.compLoop (elt.SetComp (⟨target,iter,ifs,0⟩::rest) scope pos) 0 it' acc env) R s') (notedBy (model prog w) A env λ x s'=>R (.error x) s') s) :
  codeAny (model prog w) A (.compStart (elt.SetComp (⟨target,iter,ifs,0⟩::rest) scope pos) 0 it acc env) R s:=by
 refine codeAny_of_tree (wpAny_notedAt (wpAny_bind (wpAny_askSetting (wpAny_ite ?_))))
 split
 ·exact wpAny_bind (wpAny_pure (wpAny_pure ⟨rfl,h0⟩))
 ·exact wpAny_bind (wpAny_rule (wpAny_bind (wpAny_standAt (wpAny_bind (wpAny_mono h (λ it' s' h'=>wpAny_pure ⟨rfl,h'⟩) λ _ _ z=>z)))))
theorem zai {elt target iter:Expr} {ifs:List Expr} {rest:List Comprehension} {scope:Scope} {pos:Pos} {it acc:Value} {env:Env}
  (h:wpAny (model prog w) A (pyNext it) (λ r s₁=>r=none∧R (.ok .next) s₁) (notedBy (model prog w) A env λ e s'=>R (.error e) s') s) :
  codeAny (model prog w) A (.compLoop (elt.SetComp (⟨target,iter,ifs,0⟩::rest) scope pos) 0 it acc env) R s:=by
 refine codeAny_loop rfl (λ _ s'=>s'=s) (λ n s' hI=>?_) 0 rfl
 subst hI
 show wpAny _ A ((compTurn (elt.SetComp (⟨target,iter,ifs,0⟩::rest) scope pos) 0 it acc env).onRaise (λ x=>do noteFrame x env;theTreesLotGoes x)) _ _ _
 refine wpAny_noted ?_
 unfold compTurn
 refine wpAny_bind (wpAny_standAt (wpAny_bind (wpAny_mono h (λ r s₁ h₁=>?_) λ _ _ h'=>h')))
 obtain ⟨rfl,h1⟩:=h₁
 exact wpAny_pure h1
end
section
variable {X:Cx}
theorem zzo {elt tg iter:Expr} {ifs:List Expr} {rest:List Comprehension} {scope:Scope} {pos:Pos} {wi:TI} (N':List Str) (nt:Nat) (hc:X.calm=true) (hi:PI X tg iter wi)
  (hk:scope.kind = .function:=by rfl) (hb:zyc scope X.env=true:=by rfl) (hcap:zho X scope N' nt []=true:=by rfl)
  (hs:∀ x,foldedSetIterable iter X.env x=pure x:=by intro _;rfl) :
  PE X (.SetComp elt (⟨tg,iter,ifs,0⟩::rest) scope pos) (λ σ H Q=>wi σ H λ J H1=>∀ D,H1 D=none→J.stop 0 (upd H1 D (zuh D))∧Q (.ref D) (upd H1 D (zuh D))) := .mk <| by
 intro pins s σ H Q I h
 rw [zpi]
 have hclos:closureFor scope X.env=pure (clOf scope X.env):=zbe λ p hp e=>I.ok.has p.1 (ztb hb p hp e)
 refine wpAny_comprehension_free (use:=none) rfl hs hclos hk (zlc hb) (thn (hi pins s σ H _ I h) λ v s1 h1=>thn h1 λ itv s2 h2=>?_)
 obtain ⟨it,fp,tn,J,H2,e,I2,T,st2,f2,q2⟩:=h2
 subst e
 refine wpAny_newSet_of (knd:=intKind X.prog X.w) λ led _=>wpAny_newFunctionEnv (zgc hb) (by intro y hy;simp at hy) (λ h₁ hns₁ hsb₁=>?_) hk
 obtain ⟨ob,hob⟩:∃ ob:Obj,ob={ cls := .type "set",data := .set #[] 0 (SetTable.fresh 0 0 led) }:=⟨_,rfl⟩
 rw [← hob] at hns₁ hsb₁ ⊢
 have I3:Inv X pins σ (upd H2 s2.heap.objs.size (zuh s2.heap.objs.size)) { s2 with heap:=s2.heap.push ob }:=by
  refine I2.laid (t':=s2.toks) (λ b u e=>Heap.get?_push_of_some _ e) (Nat.le_refl _) ⟨⟨led,by rw [hob];exact Heap.get?_push_size _ rfl⟩,⟨ob,by rw [hob];exact Heap.get?_push_size _ rfl⟩,?_⟩
  rintro h1 h2 ⟨led',e⟩ k
  exact ⟨led',k _ e⟩
 have hfl:∀ b∈fp,b<s2.heap.objs.size:=λ b hb'=>let ⟨o,e,_⟩:=T.obj 0 _ st2 b hb';Heap.lt_size e
 obtain ⟨stop,qn⟩:=q2 s2.heap.objs.size (I2.hok.fresh (Nat.le_refl _))
 have nD:∀ b∈fp,b≠s2.heap.objs.size:=λ b hb'=>Nat.ne_of_lt (hfl b hb')
 have f3:∀ b∈fp,FpOk X pins (upd H2 s2.heap.objs.size (zuh s2.heap.objs.size)) b:=λ b hb'=>⟨by rw [zha (nD b hb')];exact (f2 b hb').1,(f2 b hb').2⟩
 obtain ⟨s3,hs3⟩:∃ s3:Shared,s3={ s2 with heap:=s2.heap.push ob }:=⟨_,rfl⟩
 have hs3':s3.heap=s2.heap.push ob:=by rw [hs3]
 rw [← hs3] at I3
 have hsz:s3.heap.objs.size=s2.heap.objs.size+1:=by rw [hs3',Heap.size_push]
 have hfl3:∀ b∈fp,b<s3.heap.objs.size:=λ b hb'=>by rw [hsz];exact Nat.lt_succ_of_lt (hfl b hb')
 have hC:(s2.heap.push ob).objs.size=s3.heap.objs.size:=by rw [hs3']
 dsimp only at hns₁ hsb₁ ⊢
 rw [hC] at hns₁ hsb₁ ⊢
 rw [← hs3'] at hsb₁
 have kp:∀ b o,s3.heap.get? b=some o→h₁.get? b=some o:=λ b o e=>hsb₁.extBut b o (Nat.ne_of_lt (Heap.lt_size e)) (Heap.get?_push_of_some _ e)
 generalize hE':(notedBy (model X.prog X.w) X.A (compEnvC scope (clOf scope X.env) s3.heap.objs.size X.env) λ e s'=>compPost (model X.prog X.w) X.A X.xe none (EP X pins σ Q) (.ref s2.heap.objs.size) s3.heap.objs.size (.error e) s')=E'
 have I4:=zge (N':=N') (nt:=nt) (cap:=[]) (t4:=s2.toks+([]:List (Str×Value)).length) (E':=E') I3 hk hb hcap f3 hfl3 hns₁ kp
 have st4:tn 0 h₁:=T.keep 0 _ _ st2 λ b hb' o e=>kp b o (by rw [hs3'];exact Heap.get?_push_of_some _ e)
 obtain ⟨s4,hs4⟩:∃ s4:Shared,s4={ s3 with heap:=h₁,toks:=s2.toks+([]:List (Str×Value)).length }:=⟨_,rfl⟩
 rw [← hs4] at I4
 have st4':tn 0 s4.heap:=by rw [hs4];exact st4
 have cin:∀ x c,(clOf scope X.env).lookup x=some c→X.env.cells.lookup x=some c:=λ x c e=>zky scope.names [] (λ y d q=>by simp at q) e
 have stat:∀ {H':Hp},(∀ b∈fp,H' b=none)→∀ b∈fp,FpOk (X.comp scope s3.heap.objs.size s3 (upd H2 s2.heap.objs.size (zuh s2.heap.objs.size)) fp N' E') [] H' b:=λ hn b hb'=>by
  refine ⟨hn b hb',Nat.ne_of_lt (hfl3 b hb'),λ z=>?_,.inl hb',λ x c e=>(f3 b hb').2.2.2.2.1 x c (cin x c e),λ p hp=>absurd hp (by simp [Cx.comp])⟩
  rcases List.mem_cons.mp (I3.stkSub b z) with z | z
  ·exact (f3 b hb').2.1 z
  ·exact (f3 b hb').2.2.1 z
 have loop:codeAny (model X.prog X.w) X.A (.compLoop (.SetComp elt (⟨tg,iter,ifs,0⟩::rest) scope pos) 0 (.ref it) (.ref s2.heap.objs.size) (compEnvC scope (clOf scope X.env) s3.heap.objs.size X.env))
   (compPost (model X.prog X.w) X.A X.xe none (EP X pins σ Q) (.ref s2.heap.objs.size) s3.heap.objs.size) s4:=by
  refine zai ?_
  rw [hE']
  refine thn (T.done (X.comp scope s3.heap.objs.size s3 (upd H2 s2.heap.objs.size (zuh s2.heap.objs.size)) fp N' E') rfl rfl rfl hc 0 [] s4 _ _ E' I4 (stat λ b hb'=>(f3 b hb').1) st4' stop) λ r s6 ⟨hr,I6⟩=>⟨hr,?_⟩
  obtain ⟨m6,hn6,_⟩:=I6.loc
  refine ⟨m6,hn6,λ h' hsb'=>?_⟩
  have I7:=zpf I3 f3 I6
  refine ⟨.ref s2.heap.objs.size,_,?_,rfl,qn⟩
  refine I7.turnedL (ch:=[s3.heap.objs.size]) (t':=s6.toks) (λ b hb'=>?_) λ b u hb' e=>(hsb'.2 b λ z=>hb' (by simp [z])).trans e
  have eb:b=s3.heap.objs.size:=by simpa using hb'
  subst eb
  exact I3.fpOk (Nat.le_refl _) I6.free
 have e4:({ s2 with heap:=h₁,toks:=s2.toks+([]:List (Str×Value)).length }:Shared)=s4:=by rw [hs4,hs3]
 show codeAny _ _ _ _ { s2 with heap:=h₁,toks:=s2.toks+([]:List (Str×Value)).length }
 rw [e4]
 exact zvg loop (T.self X.A 0 s4 _ _ st4' loop)
end
end L2
namespace L2
open PySem PySem.Spec PyProof.Rows PySem.NumText
section
variable {prog:Program} {w:World} {A:Around} {E:Value→Shared→Prop} {R:Result→Shared→Prop} {s:Shared}
end
section
variable {X:Cx}
end
end L2
namespace L2
open PySem PySem.Spec PyProof.Rows PySem.NumText
section
variable {X:Cx}
end
end L2
namespace L2
open PySem PySem.Spec PyProof.Rows PySem.NumText
theorem znv {v:Ver} (h:okV v):PyData.canLay0 (ver v)=true:=by
 show (true && (PyData.canLay0 (plc v.2.1) && (PyData.strOk v.2.2 && true)))=true
 rw [zff,show PyData.strOk v.2.2=true from h]
 rfl
theorem zqp (v:Ver):PyData.depth (ver v)≤4:=by
 have h2:PyData.depth (ver v)=max 0 (max (PyData.depthAll (v.2.1.map stp)+1) (max 0 0))+1:=rfl
 have:=zsb v.2.1
 rw [h2]
 omega
end L2
namespace L2
open PySem PySem.Spec PyProof.Rows PySem.NumText
noncomputable abbrev Chg:=Mark×Option Ver×Option Ver
noncomputable def chD (c:Chg):PyData := .tuple [markD c.1,vdat c.2.1,vdat c.2.2]
noncomputable def okCh (c:Chg):Prop:=okO c.2.1∧okO c.2.2
theorem zcv (c:Chg):noL (chD c)=true:=by
 show (noL (markD c.1) && (noL (vdat c.2.1) && (noL (vdat c.2.2) && true)))=true
 rw [zxf,zxf]
 rfl
theorem zem {o:Option Ver} (h:okO o):PyData.canLay0 (vdat o)=true:=by
 cases o with
 | none=>rfl
 | some v=>exact znv (h v rfl)
theorem zng (o:Option Ver):PyData.depth (vdat o)≤4:=by
 cases o with
 | none=>exact Nat.zero_le _
 | some v=>exact zqp v
theorem zl2 {c:Chg} (h:okCh c):PyData.canLay0 (chD c)=true:=by
 show (PyData.canLay0 (markD c.1) && (PyData.canLay0 (vdat c.2.1) && (PyData.canLay0 (vdat c.2.2) && true)))=true
 rw [zem h.1,zem h.2]
 rfl
theorem zkt (c:Chg):PyData.depth (chD c)≤5:=by
 have h2:PyData.depth (chD c)=max (PyData.depth (markD c.1)) (max (PyData.depth (vdat c.2.1)) (max (PyData.depth (vdat c.2.2)) 0))+1:=rfl
 have h3:PyData.depth (markD c.1)≤1:=Nat.le_refl _
 have h4:=zng c.2.1
 have h5:=zng c.2.2
 rw [h2]
 omega
theorem zsq:∀ {cs:List Chg},(∀ c∈cs,okCh c)→PyData.canLayAll0 (cs.map chD)=true∧PyData.depthAll (cs.map chD)≤5
 | [],_=>⟨rfl,Nat.zero_le _⟩
 | c::cs,h=>by
  obtain ⟨h1,h2⟩:=zsq λ e he=>h e (List.mem_cons_of_mem _ he)
  refine ⟨?_,?_⟩
  ·show (PyData.canLay0 (chD c) && PyData.canLayAll0 (cs.map chD))=true
   rw [zl2 (h c List.mem_cons_self),h1]
   rfl
  ·show max (PyData.depth (chD c)) (PyData.depthAll (cs.map chD))≤5
   have:=zkt c
   omega
theorem zu7 {K:W.Frag} {H:Hp} {c:Chg} {x:V} (h:DV K H (chD c) x):∃ t q a b,x = .ref t∧SqT K H t [.ref q,a,b]∧SqT K H q (mkV c.1)∧DV K H (vdat c.2.1) a∧DV K H (vdat c.2.2) b:=by
 obtain ⟨t,vs,rfl,hq,v1,r1,rfl,e1,v2,r2,rfl,e2,v3,r3,rfl,e3,e4⟩:=h
 cases (show r3=_ from e4)
 obtain ⟨q,rfl,hm⟩:=zte e1
 exact ⟨t,q,v2,v3,rfl,hq,hm,e2,e3⟩
noncomputable def mks (a:Sh):List Mark:=a.map (·.1)
theorem zqb:∀ {a:Sh} {m:Mark} {v:Ver},look a m=some v→(m,v)∈a
 | [],_,_,h=>by cases h
 | x::a,m,v,h=>by
  unfold look at h
  by_cases e:x.1=m
  ·rw [if_pos e] at h
   cases h
   rw [← e]
   exact List.mem_cons_self
  ·rw [if_neg e] at h
   exact List.mem_cons_of_mem _ (zqb h)
theorem zxc:∀ {a:Sh} {m:Mark},look a m=none→m∉mks a
 | [],_,_=>List.not_mem_nil
 | x::a,m,h=>by
  unfold look at h
  by_cases e:x.1=m
  ·rw [if_pos e] at h;cases h
  ·rw [if_neg e] at h
   intro z
   rcases List.mem_cons.mp z with z | z
   ·exact e z.symm
   ·exact zxc h z
theorem zwh {a:Sh} {m:Mark} (h:m∉mks a):look a m=none:=by
 cases e:look a m with
 | none=>rfl
 | some v=>exact absurd (List.mem_map_of_mem (f:=(·.1)) (zqb e)) h
theorem zep {ks:List Mark} (h:ks.Pairwise λ a b=>mLt a b=true):ks.Nodup:=h.imp fun {a b} hab e=>by
 subst e
 rw [mLt_sto.irr] at hab
 cases hab
theorem zdh {α:Type}:∀ {l1 l2:List α},l1.Nodup→l2.Nodup→(∀ x,x∈l1↔x∈l2)→l1.Perm l2:=λ h1 h2 h=>(List.perm_ext_iff_of_nodup h1 h2).mpr h
theorem zne {α:Type} [DecidableEq α]:∀ {l U:List α},l.Nodup→(∀ x∈l,x∈U)→l.length≤U.length
 | [],U,_,_=>Nat.zero_le _
 | x::l,U,h,hs=>by
  obtain ⟨h1,h2⟩:=List.nodup_cons.mp h
  have hx:=hs x List.mem_cons_self
  have:=zne (l:=l) (U:=U.erase x) h2 λ y hy=>(List.mem_erase_of_ne (λ (z:y=x)=>h1 (by rw [← z];exact hy))).mpr (hs y (List.mem_cons_of_mem _ hy))
  rw [List.length_erase_of_mem hx] at this
  have hp:=List.length_pos_of_mem hx
  rw [List.length_cons]
  omega
theorem toE {X:Cx} {e:Expr} {t t':TE} (h:PE X e t) (z:t=t'):PE X e t':=z ▸ h
theorem toS {X:Cx} {e:Stmt} {t t':TS} (h:PS X e t) (z:t=t'):PS X e t':=z ▸ h
theorem zjl {K:W.Frag} {H:Hp} (m:Mark):∀ {es:List Ent} {ns:Sh},EnS K H es ns→EnS K H (zqq es m) (ns.filter λ n => !decide (n.1=m))
 | _,_,.nil=>.nil
 | e::es,n::ns,.cons a b=>by
  have ih:=zjl m b
  unfold zqq at ih ⊢
  by_cases h:e.1=m
  ·rw [List.filter_cons_of_neg (by simp [h]),List.filter_cons_of_neg (by rw [← a.1];simp [h])]
   exact ih
  ·rw [List.filter_cons_of_pos (by simp [h]),List.filter_cons_of_pos (by rw [← a.1];simp [h])]
   exact .cons a ih
end L2
namespace L2
open PySem PySem.Spec PyProof.Rows PySem.NumText
theorem zbh {α:Type} {f:α→Int} {c:Int}:∀ {l:List α},(l.map f).Nodup→(l.filter λ x=>f x == c).length≤1
 | [],_=>Nat.zero_le _
 | x::l,h=>by
  obtain ⟨h1,h2⟩:=List.nodup_cons.mp h
  by_cases e:(f x == c)=true
  ·rw [List.filter_cons_of_pos (p:=λ y=>f y == c) e]
   have:l.filter (λ y=>f y == c)=[]:=by
    rw [List.filter_eq_nil_iff]
    intro y hy z
    refine h1 ?_
    rw [eq_of_beq e,← eq_of_beq z]
    exact List.mem_map_of_mem hy
   rw [this]
   exact Nat.le_refl _
  ·rw [List.filter_cons_of_neg (p:=λ y=>f y == c) e]
   exact zbh h2
section
variable {prog:Program} {w:World} {A:Around} {E:Value→Shared→Prop} {s:Shared} {d a:Addr} {ds:Array DictEntry} {ep:Nat} {o:Obj}
theorem zlk {id:String} {Q:Array DictEntry→Shared→Prop} (ho:s.heap.get? a=some o) (hd:o.data = .dict ds ep) (hk:∀ e∈ds.toList,∃ q,e.key = .ref q∧s.TypeIs (.ref q) "tuple") (hn:(ds.toList.map (·.hash)).Nodup) (h:Q ds s) :
  wpAny (model prog w) A (Builtin.Dict.entriesForEmpty id a) Q E s:=by
 unfold Builtin.Dict.entriesForEmpty
 refine wpAny_bind (wpAny_dictEntries ho hd (wpAny_bind ?_))
 rw [← Array.forIn_toList]
 refine wpAny_forIn_list _ (λ rest _ s'=>s'=s∧∀ e∈rest,e∈ds.toList) _ ?_ ?_ _ _ ⟨rfl,λ e he=>he⟩
 ·rintro e rest b s' ⟨rfl,hr⟩
  obtain ⟨q,ek,hT⟩:=hk e (hr e List.mem_cons_self)
  rw [ek]
  unfold Builtin.Dict.quietEq
  refine wpAny_bind (wpAny_bind (wpAny_specialOf hT F.slot_tuple_eq.lookup (wpAny_pure ?_)))
  have hz:(ds.filter (·.hash == e.hash)).size≤1:=by
   rw [← Array.length_toList,Array.toList_filter]
   exact zbh hn
  rw [if_pos (by decide),if_neg (Nat.not_lt.mpr hz)]
  exact wpAny_pure ⟨rfl,λ e' he'=>hr e' (List.mem_cons_of_mem _ he')⟩
 ·rintro b s' ⟨rfl,_⟩
  exact wpAny_pure h
theorem znn {nm:String} {Q:Unit→Shared→Prop} {od:Obj} {epd:Nat} (nda:d≠a) (haS:(a == sysModules)=false) (hod:s.heap.get? d=some od) (hdd:od.data = .dict #[] epd) (ho:s.heap.get? a=some o) (hd:o.data = .dict ds ep)
  (hk:∀ e∈ds.toList,∃ q,e.key = .ref q∧s.TypeIs (.ref q) "tuple") (hn:(ds.toList.map (·.hash)).Nodup) (hz:ds.size≤1000)
  (h0:ds = #[]→Q () s) (h1:ds ≠ #[]→Q () { s with heap:=s.heap.update d (Obj.mapDictKeys λ _=>ds) }):wpAny (model prog w) A (Builtin.Dict.mergeDict nm d a) Q E s:=by
 unfold Builtin.Dict.mergeDict
 rw [if_neg (by simpa using nda)]
 unfold Builtin.Dict.showsAll
 rw [if_neg (by rw [haS];exact Bool.false_ne_true)]
 refine wpAny_bind (wpAny_pure ?_)
 refine wpAny_bind (wpAny_dictEntries ho hd ?_)
 dsimp only
 by_cases he:ds = #[]
 ·subst he
  rw [if_neg (by simp)]
  refine wpAny_bind (wpAny_dictEpoch ho hd (wpAny_bind (wpAny_dictEntries ho hd (wpAny_bind ?_))))
  rw [Std.Legacy.Range.forIn_eq_forIn_range']
  refine wpAny_forIn_list _ (λ rest _ s'=>rest=[]∧s'=s) _ ?_ ?_ _ _ ⟨rfl,rfl⟩
  ·rintro x rest b s' ⟨z,_⟩
   cases z
  ·rintro b s' ⟨_,rfl⟩
   exact wpAny_pure (h0 rfl)
 ·have hne:0<ds.size:=Nat.pos_of_ne_zero λ z=>he (Array.size_eq_zero_iff.mp z)
  have hfew:(decide (ds.size≤8) && ds.all λ e=>(keyPart e.key).isSome)=false:=by
   have:(ds.all λ e=>(keyPart e.key).isSome)=false:=by
    rw [Bool.eq_false_iff]
    intro z
    rw [Array.all_eq_true] at z
    have z0:=z 0 hne
    obtain ⟨q,ek,_⟩:=hk ds[0] (Array.mem_toList_iff.mpr (Array.getElem_mem hne))
    rw [ek] at z0
    cases z0
   rw [this,Bool.and_false]
  rw [hfew,if_pos (by decide)]
  refine wpAny_bind (wpAny_dictEntries hod hdd ?_)
  rw [if_pos (by decide)]
  refine wpAny_bind (zlk ho hd hk hn ?_)
  have hemp:ds.isEmpty=false:=by
   cases hq:ds.isEmpty with
   | false=>rfl
   | true=>exact absurd (Array.isEmpty_iff.mp hq) he
  rw [hemp,if_pos (by decide)]
  exact wpAny_bind (wpAny_updateDictKeysTo hod hdd (wpAny_pure (h1 he)) (by rw [sizeLine_eq];omega))
theorem zqf {Q:Value→Shared→Prop} {xs:List Row} (haS:(a == sysModules)=false) (hd:s.heap.DictOfH (dK prog w) a xs) (hz:xs.length≤1000) (hn:(xs.map λ x=>(dK prog w).hash x.1).Nodup)
  (k:∀ h' tk,(∀ b o,s.heap.get? b=some o→h'.get? b=some o)→h'.DictOfH (dK prog w) s.heap.objs.size xs→Q (.ref s.heap.objs.size) { s with heap:=h',toks:=tk }):wpAny (model prog w) A (call (.type "dict") [.ref a]) Q E s:=by
 obtain ⟨o,ds,ep,a1,a2,a3,a4,a5,a6⟩:=id hd
 obtain ⟨h1,hh1⟩:∃ h1,h1=s.heap.push { cls := .type "dict",data := .dict (#[]:Array DictEntry) }:=⟨_,rfl⟩
 have kp1:∀ b o,s.heap.get? b=some o→h1.get? b=some o:=λ b o e=>by rw [hh1];exact Heap.get?_push_of_some _ e
 have hd1:h1.get? s.heap.objs.size=some { cls := .type "dict",data := .dict #[] }:=by rw [hh1];exact Heap.get?_push_size _ rfl
 refine callType_codes (Q₁:=λ obj s1=>obj = .ref s.heap.objs.size∧s1={ s with heap:=h1 }) F.kt_called_dict (F.kt_typeCall_dict_1 _) F.entry_dict_init (kt_code_dict_new _ ⟨rfl,by rw [hh1]⟩) λ obj s1 ⟨e1,e2⟩=>?_
 subst e1 e2
 have td:({ s with heap:=h1 }:Shared).TypeIs (.ref s.heap.objs.size) "dict" := ⟨_,hd1,rfl⟩
 have ta:({ s with heap:=h1 }:Shared).TypeIs (.ref a) "dict" := ⟨_,kp1 _ _ a1,a2.1⟩
 refine ⟨td,F.args_dict_init_2 _ _,?_⟩
 unfold Builtin.«dict.__init__» Builtin.Dict.selfAndRest
 refine wpAny_bind (wpAny_bind (wpAny_notOrdered_dict td ?_))
 refine wpAny_bind (wpAny_pure (wpAny_pure ?_))
 show wpAny _ _ (Builtin.Dict.updateFrom "dict.__init__" s.heap.objs.size (.ref a) [] .none) _ _ _
 unfold Builtin.Dict.updateFrom
 refine wpAny_bind (wpAny_typeOf ta ?_)
 rw [if_neg (by decide)]
 refine wpAny_bind ?_
 unfold Builtin.Dict.merge
 refine wpAny_bind ?_
 unfold Builtin.Dict.readDirectly
 refine wpAny_bind (wpAny_isInstance ta isSubtype_dict_dict ?_)
 simp only [Bool.not_true,Bool.false_eq_true,if_false]
 refine wpAny_bind (wpAny_specialOf ta F.slot_dict_iter.lookup (wpAny_pure ?_))
 simp only [beq_self_eq_true,if_true]
 refine wpAny_bind (wpAny_pure ?_)
 have nda:s.heap.objs.size≠a:=Ne.symm (Nat.ne_of_lt (Heap.lt_size a1))
 have hsz:ds.size=xs.length:=by rw [← Array.length_toList,a4,List.length_map]
 have last:∀ h',(∀ b o,s.heap.get? b=some o→h'.get? b=some o)→(∃ ob ep',h'.get? s.heap.objs.size=some ob∧ob.ExactDict∧ob.data = .dict ds ep') →
   wpAny (model prog w) A.in1.in1 (do Builtin.Dict.addKeywords s.heap.objs.size [];ret Value.none)
    (λ fin s'=>match fin with
     | .done f=>wants (λ r s₂=>r=Value.none∧Q (.ref s.heap.objs.size) s₂) E (Except.ok f) s'
     | .again c'=>c'.quiet=true∧codeAny (model prog w) A.in1 c' (wants (λ r s₂=>r=Value.none∧Q (.ref s.heap.objs.size) s₂) E) s')
    (λ e s'=>wants (λ r s₂=>r=Value.none∧Q (.ref s.heap.objs.size) s₂) E (Except.error e) s') { s with heap:=h' }:=by
  rintro h' kp ⟨ob,ep',g1,g2,g3⟩
  refine wpAny_bind (wpAny_pure (wpAny_pure ⟨rfl,k h' s.toks kp ⟨ob,ds,ep',g1,g2,g3,a4,λ x hx=>?_,a6⟩⟩))
  exact zyi (a5 x hx) λ o e=>kp _ _ e
 refine znn (s:={ s with heap:=h1 }) nda haS hd1 rfl (kp1 _ _ a1) a3 (λ e he=>?_) ?_ (by omega) (λ h0=>?_) (λ h0=>?_)
 ·rw [a4] at he
  obtain ⟨x,hx,rfl⟩:=List.mem_map.mp he
  obtain ⟨oq,its,n,q1,q2,_⟩:=a5 x hx
  exact ⟨x.2.1,rfl,oq,kp1 _ _ q1,q2⟩
 ·rw [a4,List.map_map]
  exact hn
 ·exact last h1 kp1 ⟨_,0,hd1,⟨rfl,rfl,rfl⟩,by rw [h0]⟩
 ·refine last _ (λ b o' e=>?_) ⟨_,_,Heap.get?_update_self _ hd1 rfl,⟨rfl,rfl,rfl⟩,rfl⟩
  rw [Heap.get?_update_other _ _ (Ne.symm (Nat.ne_of_lt (Heap.lt_size e)))]
  exact kp1 _ _ e
end
section
variable {X:Cx}
noncomputable def zo5 (P:Program) (w:World) (K:W.Frag):List V→Hp→VK→Prop:=λ xs H Q=>∃ (a:Addr) (es:List Ent) (o:Obj),xs=[.ref a]∧H a=some (dO P w a es o)∧(∀ e∈es,SqT K H e.2.1 (mkV e.1))∧es.length≤1000∧(es.map λ e=>zrf (markD e.1)).Nodup∧∀ q o',H q=none→Q (.ref q) (upd H q (dO P w q es o'))
theorem zun:zqk X (.type "dict") (zo5 X.prog X.w X.K):=by
 intro pins s σ H xs us Q I r h
 obtain ⟨a,es,o,rfl,ha,hk,hz,hn,q⟩:=h
 obtain ⟨u,rfl,ru⟩:=zsm r
 cases ru
 obtain ⟨z,hs,rs,rel,dd⟩:=I.dict ⟨⟨o,ha⟩,hk⟩
 have hrl:es.length=rs.length:=Paired.length rel
 have hh:∀ {es:List Ent} {rs:List Row},Paired EntR es rs→(rs.map λ x=>(dK X.prog X.w).hash x.1)=es.map λ e=>zrf (markD e.1):=by
  intro es rs h
  induction h with
  | nil=>rfl
  | cons p _ ih=>rw [List.map_cons,List.map_cons,ih,p.1];rfl
 refine zqf hs dd (by omega) (by rw [hh rel];exact hn) λ h' tk kp dd'=>?_
 have hb:(s.heap.objs.size == sysModules)=false:=beq_eq_false_iff_ne.mpr (Ne.symm (Nat.ne_of_lt I.bigM))
 obtain ⟨ob,hob⟩:=zvy (P:=X.prog) (w:=X.w) (H:=H) (es:=es) z hb rel dd'
 exact ⟨.ref s.heap.objs.size,_,I.laid (t':=tk) kp (Nat.le_refl _) hob,rfl,q _ ob (I.hok.fresh (Nat.le_refl _))⟩
end
end L2
namespace L2
open PySem PySem.Spec PyProof.Rows PySem.NumText
section
variable {prog:Program} {w:World} {A:Around} {E:Value→Shared→Prop} {s:Shared} {d r:Addr} {ds:Array DictEntry} {ep:Nat}
theorem zii {R:Result→Shared→Prop} {S:Addr} {c0:Nat} (hh:A.handled=none) (hv:s.heap.IsItemsView r d) (hd:RawD s.heap d ds ep) (hn:ds.size≤sizeLine) (nSr:S≠r) (ndS:d≠S)
  (hS:s.heap.get? S=some { cls := .type "list",data := .seq #[] c0 })
  (k:∀ h' tk acc c as,(∀ b o,b≠S→s.heap.get? b=some o→h'.get? b=some o)→h'.get? S=some { cls := .type "list",data := .seq acc c }→as.length=ds.size→Got ds s.heap.objs.size h' as→acc.toList=as.map Value.ref→R (.ok (.ret .none)) { s with heap:=h',toks:=tk }) :
  wpAny (model prog w) A.in1 (Builtin.List.listExtendWith (.ref S) (.ref r) .none)
   (λ fin s'=>match fin with | .done f=>R (.ok f) s' | .again c'=>c'.quiet=true∧codeAny (model prog w) A c' R s') (λ e s'=>R (.error e) s') s:=by
 obtain ⟨o,d1,d2,d3⟩:=id hd
 obtain ⟨vo,v1,v2⟩:=id hv
 unfold Builtin.List.listExtendWith
 refine wpAny_bind (wpAny_typeOf hv.typeIs ?_)
 rw [if_neg (by simp [Builtin.List.listSameRef,nSr])]
 refine wpAny_bind (zzd hv hd ?_)
 obtain ⟨h2,hh2⟩:∃ h2,h2=s.heap.push (zue d 0 ds.size ep .none false .none .none):=⟨_,rfl⟩
 have z2:h2.objs.size=s.heap.objs.size+1:=by rw [hh2,Heap.size_push]
 have kp2:∀ b ob,s.heap.get? b=some ob→h2.get? b=some ob:=λ b ob e=>by rw [hh2];exact Heap.get?_push_of_some _ e
 have i2:h2.get? s.heap.objs.size=some (zue d 0 ds.size ep .none false .none .none):=by rw [hh2];exact Heap.get?_push_size _ rfl
 show wpAny _ _ _ _ _ { s with heap:=s.heap.push (zue d 0 ds.size ep .none false .none .none) }
 rw [← hh2]
 have hv2:({ s with heap:=h2 }:Shared).heap.IsItemsView r d:=⟨vo,kp2 _ _ v1,v2⟩
 refine wpAny_bind (wpAny_holding (W.kdx_hint hv2.typeIs ?_))
 have nSI:S≠s.heap.objs.size:=Nat.ne_of_lt (Heap.lt_size hS)
 have ndI:d≠s.heap.objs.size:=Nat.ne_of_lt (Heap.lt_size d1)
 have fin:∀ h3 c,h3.objs.size=h2.objs.size→(∀ b,b≠S→h3.get? b=h2.get? b)→h3.get? S=some { cls := .type "list",data := .seq #[] c } →
   codeAny (model prog w) A (.builtin "list.extend.loop" ⟨[.ref S,.ref s.heap.objs.size,.none],[]⟩) R { s with heap:=h3,toks:=s.toks }:=by
  intro h3 c z3 oth3 hS3
  refine zeg (ep:=ep) (d:=d) (h1:=h2) (lo:=s.heap.objs.size) hh hn nSI ndS ndI .none ?_ (ds.size - 0) 0 h3 s.toks c #[] [] .none false .none .none rfl (Nat.zero_le _) (by rw [oth3 _ nSI.symm];exact i2) (.inl ⟨rfl,rfl⟩) ⟨o,by rw [oth3 _ ndS];exact kp2 _ _ d1,d2,d3⟩ (λ b ob hb1 hb2 e=>by rw [oth3 _ hb1];exact e) hS3 rfl rfl ⟨λ j a e=>by simp at e,List.nodup_nil⟩ (λ a ha=>by cases ha) (by rw [z3,z2];exact Nat.le_succ _)
  intro h' tk acc c' as kp' hS' hal hG hacc
  exact k h' tk acc c' as (λ b ob hb e=>kp' b ob hb (Nat.ne_of_lt (Heap.lt_size e)) (kp2 _ _ e)) hS' hal hG hacc
 refine wpAny_ite_split (λ _=>?_) (λ _=>?_)
 ·refine wpAny_bind (wpAny_rule (wpAny_bind (wpAny_bind (wpAny_updateSeq (a:=S) (s:={ s with heap:=h2 }) (kp2 _ _ hS) rfl ?_ (Nat.zero_le _) (by show 1≤_;rw [sizeLine_eq];omega)))))
  have self:(h2.update S (Obj.mapSeq λ x=>x.push .none)).get? S=some { cls := .type "list",data := .seq #[.none] (c0+1) }:=Heap.get?_update_self _ (kp2 _ _ hS) rfl
  refine wpAny_updateSeq (a:=S) self rfl ?_ (by show 1≤_;rw [sizeLine_eq];omega) (Nat.zero_le _)
  refine wpAny_pure ⟨plainId_quiet F.plain_extend_loop _,fin _ (c0+1+1) ?_ ?_ ?_⟩
  ·rw [Heap.size_update,Heap.size_update]
  ·intro b hb
   rw [Heap.get?_update_other _ _ (Ne.symm hb),Heap.get?_update_other _ _ (Ne.symm hb)]
  ·exact Heap.get?_update_self _ self rfl
 ·exact wpAny_pure ⟨plainId_quiet F.plain_extend_loop _,fin h2 c0 rfl (λ _ _=>rfl) (kp2 _ _ hS)⟩
theorem zye {Q:Value→Shared→Prop} (hh:A.handled=none) (hv:s.heap.IsItemsView r d) (hd:RawD s.heap d ds ep) (hn:ds.size≤sizeLine)
  (k:∀ h' tk acc c as,(∀ b o,s.heap.get? b=some o→h'.get? b=some o)→h'.get? s.heap.objs.size=some { cls := .type "list",data := .seq acc c }→as.length=ds.size→Got ds (s.heap.objs.size+1) h' as→acc.toList=as.map Value.ref→Q (.ref s.heap.objs.size) { s with heap:=h',toks:=tk }):wpAny (model prog w) A (call (.type "list") [.ref r]) Q E s:=by
 obtain ⟨o,d1,d2,d3⟩:=id hd
 obtain ⟨vo,v1,v2⟩:=id hv
 obtain ⟨h1,hh1⟩:∃ h1,h1=s.heap.push { cls := .type "list",data := .seq (#[]:Array Value) }:=⟨_,rfl⟩
 have kp1:∀ b ob,s.heap.get? b=some ob→h1.get? b=some ob:=λ b ob e=>by rw [hh1];exact Heap.get?_push_of_some _ e
 have hS1:h1.get? s.heap.objs.size=some { cls := .type "list",data := .seq #[] }:=by rw [hh1];exact Heap.get?_push_size _ rfl
 refine callType_codes (Q₁:=λ obj s₁=>obj = .ref s.heap.objs.size∧s₁={ s with heap:=h1 }) F.called_list (F.typeCall_list_1 _) F.entry_list_init (code_list_new _ ⟨rfl,by rw [hh1]⟩) λ obj s₁ ⟨e1,e2⟩=>?_
 subst e1 e2
 refine ⟨⟨_,hS1,rfl⟩,F.args_list_init_2 _ _,?_⟩
 show wpAny _ A.in1.in1 (do let old ← Builtin.List.listItems (.ref s.heap.objs.size);Builtin.List.listUpdate (.ref s.heap.objs.size) (λ _ => #[]);letGo old.toList.reverse;Builtin.List.listExtendWith (.ref s.heap.objs.size) (.ref r) .none) _ _ _
 refine wpAny_bind ?_
 unfold Builtin.List.listItems
 refine wpAny_bind (wpAny_seqItems hS1 rfl (wpAny_pure ?_))
 show wpAny _ A.in1.in1 (updateSeq s.heap.objs.size (λ _ => #[]) >>= λ _=>letGo (#[]:Array Value).toList.reverse >>= λ _=>Builtin.List.listExtendWith (.ref s.heap.objs.size) (.ref r) .none) _ _ _
 refine wpAny_bind (wpAny_updateSeq hS1 rfl ?_)
 have hS2:=Heap.get?_update_self (Obj.mapSeq (λ _=>(#[]:Array Value))) hS1 rfl
 refine wpAny_bind (wpAny_letGo ?_)
 obtain ⟨h2,hh2⟩:∃ h2,h2=h1.update s.heap.objs.size (Obj.mapSeq (λ _=>(#[]:Array Value))):=⟨_,rfl⟩
 rw [← hh2] at hS2 ⊢
 have kp2:∀ b ob,s.heap.get? b=some ob→h2.get? b=some ob:=λ b ob e=>by
  rw [hh2,Heap.get?_update_other _ _ (Ne.symm (Nat.ne_of_lt (Heap.lt_size e)))]
  exact kp1 _ _ e
 have z2:h2.objs.size=s.heap.objs.size+1:=by rw [hh2,Heap.size_update,hh1,Heap.size_push]
 refine zii (A:=A.in1) (s:={ s with heap:=h2 }) (c0:=0) hh (d:=d) (ds:=ds) (ep:=ep) ⟨vo,kp2 _ _ v1,v2⟩ ⟨o,kp2 _ _ d1,d2,d3⟩ hn (Nat.ne_of_gt (Heap.lt_size v1)) (Nat.ne_of_lt (Heap.lt_size d1)) hS2 ?_
 intro h' tk acc c as kp hS' hal hG hacc
 rw [z2] at hG
 exact ⟨rfl,k h' tk acc c as (λ b ob e=>kp b ob (Nat.ne_of_lt (Heap.lt_size e)) (kp2 _ _ e)) hS' hal hG hacc⟩
end
section
variable {X:Cx}
noncomputable def zu3 (P:Program) (w:World) (K:W.Frag):List V→Hp→VK→Prop:=λ xs H Q=>∃ (v a:Addr) (es:List Ent) (o:Obj) (val:Mark→PyData),xs=[.ref v]∧H v=some (zsh v a)∧H a=some (dO P w a es o)∧(∀ e∈es,SqT K H e.2.1 (mkV e.1))∧(∀ e∈es,DV K H (val e.1) e.2.2)∧es.length≤1000 ∧
 ∀ (H':Hp) (l:Addr) (ws:List V),Same H H'→(Plain H→Plain H')→H' l=none→DVs K H' ((es.map (·.1)).map (zml val)) ws→Q (.ref l) (upd H' l (.lst ws))
theorem zlm (hc:X.calm=true):zqk X (.type "list") (zu3 X.prog X.w X.K):=by
 intro pins s σ H xs us Q I r h
 obtain ⟨v,a,es,o,val,rfl,hv,ha,hk,hd,hz,q⟩:=h
 obtain ⟨u,rfl,ru⟩:=zsm r
 cases ru
 obtain ⟨hview,_,_⟩:=I.hok v _ hv
 obtain ⟨h1,_,_,ds,ep,rs,RR⟩:=I.raw ha
 refine zye (I.ok.hd hc) hview ⟨o,h1,RR.cl,RR.dat⟩ (by rw [RR.size,sizeLine_eq];omega) λ h' tk acc c as kp hS hal hG hacc=>?_
 rw [RR.size] at hal
 have hts:∀ t∈List.zipWith (λ a (e:Ent)=>(a,[V.ref e.2.1,e.2.2])) as es,s.heap.objs.size≤t.1∧ObjOk X.prog X.w H h' t.1 (.tup t.2):=by
  intro t ht
  obtain ⟨j,hj⟩:=List.getElem?_of_mem ht
  rw [List.getElem?_zipWith] at hj
  cases ea:as[j]? with
  | none=>rw [ea] at hj;cases hj
  | some aj =>
   cases ee:es[j]? with
   | none=>rw [ea,ee] at hj;cases hj
   | some e =>
    rw [ea,ee] at hj
    cases hj
    obtain ⟨q1,u,q2,q3⟩:=hG.at_ j aj ea
    obtain ⟨u',x,q4,q5,q6,q7⟩:=RR.at_ ee
    rw [q4] at q2
    cases q2
    refine ⟨Nat.le_of_succ_le q1,by show 2≤sizeLine;decide,[.ref e.2.1,x],.cons rfl (.cons q7 .nil),⟨_,q3,rfl,0,?_⟩⟩
    rw [q5,q6]
    rfl
 have hne:∀ a'∈as,a'≠s.heap.objs.size:=λ a' h=>by
  obtain ⟨j,hj⟩:=List.getElem?_of_mem h
  exact Nat.ne_of_gt (hG.at_ j a' hj).1
 have sm:Same H (layT H (List.zipWith (λ a (e:Ent)=>(a,[V.ref e.2.1,e.2.2])) as es)):=λ b z e=>by
  rw [zjc λ t ht=>Nat.ne_of_lt (Nat.lt_of_lt_of_le (I.hok.lt e) (hts t ht).1)];exact e
 have hmap:(List.zipWith (λ a (e:Ent)=>(a,[V.ref e.2.1,e.2.2])) as es).map (·.1)=as:=by
  rw [List.map_zipWith]
  exact List.ext_getElem? λ j=>by
   rw [List.getElem?_zipWith]
   cases ea:as[j]? with
   | none=>rfl
   | some aj =>
    cases ee:es[j]? with
    | none =>
     have h1:=(List.getElem?_eq_some_iff.mp ea).1
     have h2:=List.getElem?_eq_none_iff.mp ee
     omega
    | some e=>rfl
 have hnd:((List.zipWith (λ a (e:Ent)=>(a,[V.ref e.2.1,e.2.2])) as es).map (·.1)).Nodup:=by rw [hmap];exact hG.nd
 have dvs:DVs X.K (layT H (List.zipWith (λ a (e:Ent)=>(a,[V.ref e.2.1,e.2.2])) as es)) ((es.map (·.1)).map (zml val)) (as.map V.ref):=by
  have gen:∀ (as':List Addr) (es':List Ent),as'.length=es'.length→(∀ (j:Nat) aj e,as'[j]? = some aj→es'[j]? = some e→(aj,[V.ref e.2.1,e.2.2])∈List.zipWith (λ a (e:Ent)=>(a,[V.ref e.2.1,e.2.2])) as es∧e∈es)→DVs X.K (layT H (List.zipWith (λ a (e:Ent)=>(a,[V.ref e.2.1,e.2.2])) as es)) ((es'.map (·.1)).map (zml val)) (as'.map V.ref):=by
   intro as'
   induction as' with
   | nil =>
    intro es' hl hm
    cases es' with
    | nil=>rfl
    | cons e es'=>cases hl
   | cons a1 as' ih =>
    intro es' hl hm
    cases es' with
    | nil=>cases hl
    | cons e es' =>
     obtain ⟨m1,m2⟩:=hm 0 a1 e rfl rfl
     refine ⟨_,_,rfl,⟨a1,_,rfl,SqT.of (zel hnd m1),_,_,rfl,zjd (sm.seqT (hk e m2)),_,_,rfl,DV.same sm _ _ (hd e m2),rfl⟩,ih es' (by simpa using hl) λ j aj e h1 h2=>hm (j+1) aj e (by simpa using h1) (by simpa using h2)⟩
  refine gen as es hal λ j aj e h1 h2=>⟨List.mem_of_getElem? (i:=j) ?_,List.mem_of_getElem? h2⟩
  rw [List.getElem?_zipWith,h1,h2]
 have vals:∀ as:List Addr,Vals (as.map V.ref) (as.map Value.ref):=by
  intro as
  induction as with
  | nil=>exact .nil
  | cons a as ih=>exact .cons rfl ih
 have hn0:(layT H (List.zipWith (λ a (e:Ent)=>(a,[V.ref e.2.1,e.2.2])) as es)) s.heap.objs.size=none:=by
  rw [zjc λ t ht=>Ne.symm (hne t.1 (by rw [← hmap];exact List.mem_map_of_mem (f:=(·.1)) ht))]
  exact I.hok.fresh (Nat.le_refl _)
 have key:∀ (ts:List (Addr×List V)),(∀ t∈ts,t.1≠s.heap.objs.size)→upd (layT H ts) s.heap.objs.size (.lst (as.map V.ref))=layT (upd H s.heap.objs.size (.lst (as.map V.ref))) ts:=by
  intro ts
  induction ts with
  | nil=>intro _;rfl
  | cons t ts ih =>
   intro hn
   have:=ih λ t' h=>hn t' (List.mem_cons_of_mem _ h)
   show upd (upd (layT H ts) t.1 (.tup t.2)) s.heap.objs.size _=upd (layT (upd H s.heap.objs.size _) ts) t.1 (.tup t.2)
   rw [← this]
   funext b
   have nt:=hn t List.mem_cons_self
   by_cases h1:b=s.heap.objs.size
   ·subst h1;rw [upd_same,zha (Ne.symm nt),upd_same]
   ·rw [zha h1]
    by_cases h2:b=t.1
    ·subst h2;rw [upd_same,upd_same]
    ·rw [zha h2,zha h2,zha h1]
 have hnt:∀ t∈List.zipWith (λ a (e:Ent)=>(a,[V.ref e.2.1,e.2.2])) as es,t.1≠s.heap.objs.size:=λ t ht=>hne t.1 (by rw [← hmap];exact List.mem_map_of_mem (f:=(·.1)) ht)
 obtain ⟨lo,hlo⟩:∃ lo:Obj,lo={ cls := .type "list",data := .seq (as.map Value.ref).toArray c }:=⟨_,rfl⟩
 have eacc:acc=(as.map Value.ref).toArray:=by rw [← hacc]
 have gp:(s.heap.push lo).get? s.heap.objs.size=some lo:=by rw [hlo];exact Heap.get?_push_size _ rfl
 have hlen:(as.map V.ref).length≤sizeLine:=by rw [List.length_map,hal,sizeLine_eq];omega
 have I2:=I.laid (h':=s.heap.push lo) (t':=s.toks) (a:=s.heap.objs.size) (o := .lst (as.map V.ref)) (λ b u e=>Heap.get?_push_of_some _ e) (Nat.le_refl _) ⟨hlen,_,c,vals as,by rw [gp,hlo]⟩
 have kp2:∀ b u,(s.heap.push lo).get? b=some u→h'.get? b=some u:=λ b u e=>by
  rcases Heap.get?_push_cases e with ⟨rfl,rfl⟩ | e
  ·rw [hS,hlo,eacc]
  ·exact kp b u e
 have I3:=I2.laidAll (t':=tk) (h':=h') kp2 (ts:=List.zipWith (λ a (e:Ent)=>(a,[V.ref e.2.1,e.2.2])) as es) λ t ht=>by
  refine ⟨?_,(hts t ht).2⟩
  show (s.heap.push lo).objs.size≤t.1
  rw [Heap.size_push]
  exact Nat.succ_le_of_lt (Nat.lt_of_le_of_ne (hts t ht).1 (Ne.symm (hnt t ht)))
 rw [← key _ hnt] at I3
 exact ⟨.ref s.heap.objs.size,_,I3,rfl,q _ _ _ sm (λ p=>Plain.layT p _) hn0 dvs⟩
end
end L2
namespace L2
open PySem PySem.Spec PyProof.Rows PySem.NumText
theorem zfu {ns:Sh} {m:Mark} {v:Ver} (hn:m∉mks ns):∀ k,look (ns++[(m,v)]) k=if m=k then some v else look ns k:=by
 intro k
 induction ns with
 | nil=>rfl
 | cons n ns ih =>
  have hn':m∉mks ns:=λ z=>hn (List.mem_cons_of_mem _ z)
  have hm:n.1≠m:=λ z=>hn (by rw [← z];exact List.mem_cons_self)
  show (if n.1=k then some n.2 else look (ns++[(m,v)]) k)=if m=k then some v else if n.1=k then some n.2 else look ns k
  rw [ih hn']
  by_cases h1:n.1=k
  ·rw [if_pos h1,if_neg (λ z=>hm (h1.trans z.symm)),if_pos h1]
  ·rw [if_neg h1,if_neg h1]
theorem zcn {m:Mark} {v:Ver}:∀ {ns:Sh},m∈mks ns→∀ k,look (ns.map λ n=>if n.1=m then (n.1,v) else n) k=if m=k then some v else look ns k
 | [],h,k=>by cases h
 | n::ns,h,k=>by
  have step:look ((n::ns).map λ n=>if n.1=m then (n.1,v) else n) k=if n.1=k then some (if n.1=m then v else n.2) else look (ns.map λ n=>if n.1=m then (n.1,v) else n) k:=by
   show (if (if n.1=m then (n.1,v) else n).1=k then some (if n.1=m then (n.1,v) else n).2 else _)=_
   by_cases h1:n.1=m
   ·rw [if_pos h1,if_pos h1]
   ·rw [if_neg h1,if_neg h1]
  rw [step]
  show _=if m=k then some v else if n.1=k then some n.2 else look ns k
  by_cases h2:n.1=k
  ·rw [if_pos h2,if_pos h2]
   by_cases h1:n.1=m
   ·rw [if_pos h1,if_pos (h1.symm.trans h2)]
   ·rw [if_neg h1,if_neg (λ z=>h1 (h2.trans z.symm))]
  ·rw [if_neg h2,if_neg h2]
   by_cases h3:m∈mks ns
   ·rw [zcn h3]
   ·have hm:m=n.1:=(List.mem_cons.mp h).resolve_right h3
    rw [if_neg (λ z=>h2 (hm ▸ z))]
    congr 1
    have:∀ x∈ns,(if x.1=m then (x.1,v) else x)=x:=λ x hx=>if_neg λ z=>h3 (by rw [← z];exact List.mem_map_of_mem (f:=(·.1)) hx)
    exact (List.map_congr_left this).trans (List.map_id _)
theorem zbf (m:Mark):∀ (ns:Sh) (k:Mark),look (ns.filter λ n => !decide (n.1=m)) k=if m=k then none else look ns k
 | [],k=>by
  show none=if m=k then none else none
  split <;> rfl
 | n::ns,k=>by
  have ih:=zbf m ns k
  by_cases h1:n.1=m
  ·rw [List.filter_cons_of_neg (by simp [h1]),ih]
   show _=if m=k then none else if n.1=k then some n.2 else look ns k
   by_cases h2:m=k
   ·rw [if_pos h2,if_pos h2]
   ·rw [if_neg h2,if_neg h2,if_neg (λ z=>h2 (h1.symm.trans z))]
  ·rw [List.filter_cons_of_pos (by simp [h1])]
   show (if n.1=k then some n.2 else look (ns.filter _) k)=if m=k then none else if n.1=k then some n.2 else look ns k
   rw [ih]
   by_cases h2:n.1=k
   ·rw [if_pos h2,if_neg (λ z=>h1 (h2.trans z.symm)),if_pos h2]
   ·rw [if_neg h2,if_neg h2]
noncomputable def putS (ns:Sh) (m:Mark) (v:Ver):Sh:=if m∈mks ns then ns.map (λ n=>if n.1=m then (n.1,v) else n) else ns++[(m,v)]
theorem zlo (ns:Sh) (m:Mark) (v:Ver) (k:Mark):look (putS ns m v) k=if m=k then some v else look ns k:=by
 unfold putS
 by_cases h:m∈mks ns
 ·rw [if_pos h];exact zcn h k
 ·rw [if_neg h];exact zfu h k
theorem zkg (ns:Sh) (m:Mark) (v:Ver):mks (putS ns m v)=if m∈mks ns then mks ns else mks ns++[m]:=by
 unfold putS
 by_cases h:m∈mks ns
 ·rw [if_pos h,if_pos h]
  unfold mks
  rw [List.map_map]
  exact List.map_congr_left λ n _=>by
   show (if n.1=m then (n.1,v) else n).1=n.1
   split <;> rfl
 ·rw [if_neg h,if_neg h]
  unfold mks
  rw [List.map_append]
  rfl
theorem zgu {ns:Sh} {m:Mark} {v:Ver} {k:Mark} (h:k∈mks (putS ns m v)):k=m ∨ k∈mks ns:=by
 rw [zkg] at h
 split at h
 ·exact .inr h
 ·rcases List.mem_append.mp h with z | z
  ·exact .inr z
  ·exact .inl (List.mem_singleton.mp z)
theorem zyv {ns:Sh} (nd:(mks ns).Nodup) (m:Mark) (v:Ver):(mks (putS ns m v)).Nodup:=by
 rw [zkg]
 by_cases h:m∈mks ns
 ·rw [if_pos h];exact nd
 ·rw [if_neg h]
  refine List.nodup_append.mpr ⟨nd,List.nodup_cons.mpr ⟨by simp,List.nodup_nil⟩,λ a ha b hb z=>?_⟩
  exact h ((show a=m from z.trans (List.mem_singleton.mp hb)) ▸ ha)
theorem zvr (ns:Sh) (m:Mark) (v:Ver):(putS ns m v).length≤ns.length+1:=by
 unfold putS
 split <;> simp
theorem ziw {ns:Sh} (ok:∀ n∈ns,okV n.2) (m:Mark) {v:Ver} (okv:okV v):∀ n∈putS ns m v,okV n.2:=λ n hn=>by
 unfold putS at hn
 split at hn
 ·obtain ⟨y,hy,rfl⟩:=List.mem_map.mp hn
  split
  ·exact okv
  ·exact ok y hy
 ·rcases List.mem_append.mp hn with z | z
  ·exact ok n z
  ·rw [List.mem_singleton.mp z];exact okv
theorem zjt {K:W.Frag} {H:Hp} {es:List Ent} {ns:Sh} (he:EnS K H es ns) {m:Mark} {q:Addr} {v:Ver} {x:V} (hq:SqT K H q (mkV m)) (hx:DV K H (ver v) x):EnS K H (putM es m q x) (putS ns m v):=by
 have em:=zjb he
 unfold putM putS
 by_cases hm:m∈mks ns
 ·have hf:(zid es m).isSome=true:=zod (by rw [em];exact hm)
  rw [if_pos hf,if_pos hm]
  clear hm hf em
  induction he with
  | nil=>exact .nil
  | cons a b ih =>
   rename_i e n _ _
   refine .cons ?_ ih
   obtain ⟨a1,a2,a3⟩:=a
   dsimp only
   by_cases z:e.1=m
   ·have z2:n.1=m:=a1 ▸ z
    rw [if_pos z,if_pos z2]
    exact ⟨a1,a2,hx⟩
   ·have z2:¬ n.1=m:=a1 ▸ z
    rw [if_neg z,if_neg z2]
    exact ⟨a1,a2,a3⟩
 ·have hf:zid es m=none:=znd (by rw [em];exact hm)
  rw [hf,if_neg hm]
  rw [if_neg (show ¬ (none:Option V).isSome=true from Bool.false_ne_true)]
  exact Paired.snoc he ⟨rfl,hq,hx⟩
noncomputable abbrev Giv:=Mark×Option Ver
noncomputable def givD (g:Giv):PyData := .tuple [markD g.1,vdat g.2]
noncomputable def zrh (f:Mark→Option Ver) (gs:List Giv):Mark→Option Ver:=gs.foldl (λ f g k=>if g.1=k then g.2 else f k) f
theorem zym (f:Mark→Option Ver) (gs:List Giv) (g:Giv):zrh f (gs++[g])=λ k=>if g.1=k then g.2 else zrh f gs k:=by
 unfold zrh
 rw [List.foldl_append]
 rfl
end L2
namespace L2
open PySem PySem.Spec PyProof.Rows PySem.NumText
noncomputable def gmk (gs:List Giv):List Mark:=gs.map (·.1)
theorem zp2 {K:W.Frag} {H:Hp} {g:Giv} {x:V} (h:DV K H (givD g) x):∃ t q y,x = .ref t∧SqT K H t [.ref q,y]∧SqT K H q (mkV g.1)∧DV K H (vdat g.2) y:=by
 obtain ⟨t,vs,rfl,ht,a,l1,rfl,ha,b,l2,rfl,hb,rfl⟩:=h
 obtain ⟨q,rfl,hq⟩:=zte ha
 exact ⟨t,q,b,rfl,ht,hq,hb⟩
theorem zpn (g:Giv):noL (givD g)=true:=by
 have:=zxf g.2
 unfold givD
 show (noL (markD g.1) && (noL (vdat g.2) && true))=true
 rw [this]
 rfl
end L2
namespace L2
open PySem PySem.Spec PyProof.Rows PySem.NumText
section
variable {X:Cx} {tg:Expr}
end
end L2
namespace L2
open PySem PySem.Spec PyProof.Rows PySem.NumText
section
variable {prog:Program} {w:World} {A:Around} {E:Value→Shared→Prop} {s:Shared}
end
section
variable {X:Cx}
end
end L2
namespace L2
open PySem PySem.Spec PyProof.Rows PySem.NumText
end L2
namespace L2
open PySem PySem.Spec PyProof.Rows PySem.NumText
section
variable {X:Cx} {tg:Expr}
end
end L2
namespace L2
open PySem PySem.Spec PyProof.Rows PySem.NumText
end L2
namespace L2
open PySem PySem.Spec PyProof.Rows PySem.NumText
end L2
namespace L2
open PySem PySem.Spec PyProof.Rows PySem.NumText PySem.W
section
variable {prog:Program} {w:World} {A:Around} {E:Value→Shared→Prop} {s:Shared} {a:Addr} {vs:List Value}
end
section
variable {X:Cx}
end
end L2
namespace L2
open PySem PySem.Spec PyProof.Rows PySem.NumText PySem.W
noncomputable def EntK (w:World):List DictEntry→List (Str×Value)→Prop
 | [],[]=>True
 | e::es,kv::kvs=>e.hash=hashStr w kv.1∧(∃ t,e.key = .str kv.1 t)∧e.val=kv.2∧EntK w es kvs
 | _,_=>False
noncomputable def DcK (w:World) (K:W.Frag) (d:Addr) (kvs:List (Str×Value)):Prop:=∃ es ep,K.lookup d=some ⟨.type "dict",none,.dict es ep, #[]⟩∧EntK w es.toList kvs∧(kvs.map (·.1)).Nodup
theorem EntK.pairs {P:Program} {w:World}:∀ {es:List DictEntry} {kvs:List (Str×Value)},EntK w es kvs→Pairs (strKind P w) es kvs∧∀ e∈es,∃ k,(strKind P w).is k e.key=true∧e.hash=(strKind P w).hash k:=by
 intro es
 induction es with
 | nil =>
  intro kvs h
  cases kvs with
  | nil=>exact ⟨.nil,λ e he=>absurd he (by simp)⟩
  | cons _ _=>exact False.elim h
 | cons e es ih =>
  intro kvs h
  cases kvs with
  | nil=>exact False.elim h
  | cons kv kvs =>
   obtain ⟨h1,⟨t,h2⟩,h3,h4⟩:=h
   obtain ⟨a,b⟩:=ih h4
   have hi:(strKind P w).is kv.1 e.key=true:=by rw [h2];exact beq_self_eq_true kv.1
   refine ⟨.cons hi h3 a,λ x hx=>?_⟩
   rcases List.mem_cons.mp hx with rfl | hx
   ·exact ⟨kv.1,hi,h1⟩
   ·exact b x hx
theorem DcK.dict {P:Program} {w:World} {K:W.Frag} {d:Addr} {kvs:List (Str×Value)} (D:DcK w K d kvs) {h:Heap} (k:K.In h):h.DictOf (strKind P w) d kvs:=by
 obtain ⟨es,ep,hl,he,nd⟩:=D
 obtain ⟨a,b⟩:=he.pairs (P:=P)
 exact ⟨_,es,ep,k d _ hl,⟨rfl,rfl,rfl⟩,rfl,λ e he=>b e (Array.mem_toList_iff.mpr he),a,nd⟩
noncomputable def rIxG (d:Addr) (kvs:List (Str×Value)):R2:=λ x y H Q=>x = .ref d∧∃ k a,y = .str k∧valueAt kvs k=some (.ref a)∧Q (.ref a) H
section
variable {X:Cx}
theorem ix_G {d:Addr} {kvs:List (Str×Value)} (D:DcK X.w X.K d kvs):IxR X (rIxG d kvs):=by
 intro value slice pins s σ H x y v u Q I rx ry h hs
 obtain ⟨rfl,k,a,rfl,hf,q⟩:=h
 cases rx
 obtain ⟨t,rfl⟩:=ry
 have dd:s.heap.DictOf (strKind X.prog X.w) d kvs:=D.dict I.kIn
 have hT:s.TypeIs (.ref d) "dict" := dd.typeIs
 have fin:wpAny (model X.prog X.w) X.A (subscripted slice false (.ref d) (.str k t)) (λ r s3=>wpAny (model X.prog X.w) X.A (letTemporaryGo value (.ref d) r >>= λ _=>pure r) (EP X pins σ Q) X.xe s3) X.xe s:=by
  rw [hs]
  refine wpAny_operating (wpAny_getItem_of (knd:=strKind X.prog X.w) (k:=k) (beq_self_eq_true k) dd.mapOf hf ?_)
  exact wpAny_bind (wpAny_letTemporaryGo (wpAny_pure ⟨.ref a,H,I.tok _,rfl,q⟩))
 unfold subscriptTail
 refine wpAny_bind ?_
 rw [getitemInPython_of_ne hT.not_modules]
 refine wpAny_bind (wpAny_specialOf hT PySem.F.slot_dict_getitem.lookup ?_)
 first
  | exact wpAny_pure (wpAny_bind fin)
  | exact wpAny_bind (wpAny_pure (wpAny_bind fin))
variable {CX:CXT} {k:Nat} {E:XK} {x:Str} {p pos:Pos} {e:Expr} {es:List Expr} {t:TA}
noncomputable def Cand (X:Cx) (CX:CXT) (k:Nat) (cs:List (Addr×Sp)):Prop:=∀ c∈cs,W.keepIn X.K (.ref c.1)=true∧∃ fd ps,FnOk X.prog X.w X.K X.mg X.base CX k c.1 fd ps c.2∧Binds X.K fd ps []
theorem Cand.nil:Cand X CX k []:=λ c hc=>absurd hc (by simp)
theorem Cand.cons {j:Nat} {f:Addr} {fd:FuncData} {ps:List Str} {sp:Sp} {cs:List (Addr×Sp)} (F:FnOk X.prog X.w X.K X.mg X.base CX j f fd ps sp) (hj:j≤k) (hk:W.keepIn X.K (.ref f)=true) (hb:Binds X.K fd ps []) (h:Cand X CX k cs):Cand X CX k ((f,sp)::cs):=λ c hc=>by
 rcases List.mem_cons.mp hc with rfl | hc
 ·exact ⟨hk,fd,ps,F.mono hj,hb⟩
 ·exact h c hc
noncomputable def zz0 (cs:List (Addr×Sp)) (i:Nat) (E:XK) (t:TA):TE:=λ σ H Q=>∃ c∈cs,σ[i]? = some (some (.ref c.1))∧t σ H λ vs H1=>c.2 vs H1 Q E
theorem zst (i:Nat) {cs:List (Addr×Sp)} (hc:Cand X CX k cs) (room:Room k X.A) (hx:zve CX X E) (ha:PA X (e::es) t) (hN:X.N[i]? = some x:=by rfl) (hv:Vis X.env.scope x:=by first | exact Or.inl rfl | exact Or.inr (Or.inl rfl) | exact Or.inr (Or.inr rfl)) (hdb:(x == ("__debug__" : Str))=false:=by decide)
  (hcd:(x == ("__classdict__" : Str))=false:=by decide) (he:starEach (e::es) X.env=(false,eval e X.env)::starEach es X.env:=by rfl) (hpl:(backTo pos (starEach es X.env)).any (·.1)=false:=by rfl) :
  PE X (.Call (.Name x p) (e::es) [] pos) (zz0 cs i E t) := .mk <| by
 intro pins s σ H Q I h
 obtain ⟨c,hm,hi,h⟩:=h
 obtain ⟨hk,fd,ps,F,hb⟩:=hc c hm
 refine wpAny_Call_Name_kw (thn ((zyw (X:=X) (i:=i) hN hv hdb hcd).run pins s σ H (λ v H1=>v = .ref c.1∧t σ H1 λ vs H1=>c.2 vs H1 Q E) I ⟨_,hi,rfl,h⟩) λ u s1 ⟨v,H1,I1,r,e1,q⟩=>?_)
 subst e1
 cases r
 refine W.callWith_K (h₀:=X.base) I.ok.mod.kin hk (thn (ha pos pins s1 σ H1 _ I1 q) λ us s2 ⟨vs,H2,I2,r2,q2⟩=>⟨I2.kIn,?_⟩) he hpl
 exact zmp (dvs:=[]) F room hb .nil hx I2 r2 (by rw [List.append_nil];exact q2)
end
theorem nwT {H H':Hp} {t:Addr} {xs:List V} (e:upd H t (.tup xs)=H') (h:H t=none) (P:Plain H):Same H H'∧Plain H'∧H' t=some (.tup xs):=by
 subst e
 exact ⟨zga h,P.tup,upd_same⟩
theorem nwL {H H':Hp} {t:Addr} {xs:List V} (e:upd H t (.lst xs)=H') (h:H t=none) (P:Plain H):Same H H'∧Plain H'∧H' t=some (.lst xs):=by
 subst e
 exact ⟨zga h,P.lst,upd_same⟩
end L2
namespace L2
open PySem PySem.Spec PyProof.Rows PySem.NumText
section
variable {X:Cx}
end
end L2
namespace L2
open PySem PySem.Spec PyProof.Rows PySem.NumText
noncomputable def hM:Nat:=2 ^ 64
noncomputable def hP1:Nat:=11400714785074694791
noncomputable def hP2:Nat:=14029467366897019727
noncomputable def hP5:Nat:=2870177450012600261
noncomputable def hRot (x:Nat):Nat:=x * 2 ^ 31 % hM+x / 2 ^ 33
noncomputable def zpu (acc h:Nat):Nat:=hRot ((acc+h * hP2) % hM) * hP1 % hM
noncomputable def hC:Nat:=2 ^^^ (hP5 ^^^ 3527539)
noncomputable def hFin (acc:Nat):Nat:=(acc+hC) % hM
noncomputable def hQ1:Nat:=614540362697595703
noncomputable def hQ2:Nat:=839798700976720815
theorem hq1:hP1 * hQ1 % hM=1:=by decide +kernel
theorem hq2:hP2 * hQ2 % hM=1:=by decide +kernel
theorem zk0 {x p q:Nat} (hx:x<hM) (h:p * q % hM=1):(x * p % hM) * q % hM=x:=by
 rw [Nat.mod_mul_mod,Nat.mul_assoc,Nat.mul_mod,h,Nat.mul_one,Nat.mod_mod,Nat.mod_eq_of_lt hx]
theorem zys (x:Nat):hRot x=x % 2 ^ 33 * 2 ^ 31+x / 2 ^ 33:=by
 unfold hRot
 rw [show hM=2 ^ 33 * 2 ^ 31 by decide,Nat.mul_mod_mul_right]
theorem zhw {x y:Nat} (hx:x<hM) (hy:y<hM) (h:hRot x=hRot y):x=y:=by
 rw [zys,zys] at h
 unfold hM at *
 omega
theorem ztu {x:Nat} (hx:x<hM):hRot x<hM:=by
 rw [zys]
 unfold hM at *
 omega
theorem zyk {x y:Nat} (hx:x<hM) (hy:y<hM) (h:hFin (hRot x * hP1 % hM)=hFin (hRot y * hP1 % hM)):x=y:=by
 have h1:hRot x * hP1 % hM=hRot y * hP1 % hM:=by
  have a1:hRot x * hP1 % hM<hM:=Nat.mod_lt _ (by decide)
  have a2:hRot y * hP1 % hM<hM:=Nat.mod_lt _ (by decide)
  generalize hRot x * hP1 % hM=u at *
  generalize hRot y * hP1 % hM=v at *
  unfold hFin at h
  generalize hC=c at *
  unfold hM at *
  omega
 have h2:hRot x * hP1 % hM * hQ1 % hM=hRot y * hP1 % hM * hQ1 % hM:=by rw [h1]
 rw [zk0 (ztu hx) hq1,zk0 (ztu hy) hq1] at h2
 exact zhw hx hy h2
noncomputable def hB (a:Nat):Nat:=zpu hP5 a * hQ2 % hM
theorem zhe {a b:Nat} (hb:b<2 ^ 40):((zpu hP5 a+b * hP2) % hM) * hQ2 % hM=(hB a+b) % hM:=by
 have h1:b * hP2 % hM * hQ2 % hM=b:=zk0 (by unfold hM;omega) hq2
 have h2:b * hP2 * hQ2 % hM=b:=by
  rw [Nat.mod_mul_mod] at h1
  exact h1
 rw [Nat.mod_mul_mod,Nat.add_mul,Nat.add_mod,h2]
 rfl
theorem apart:∀ a:Nat,a<8→∀ a':Nat,a'<8→a≠a'→2 ^ 41<(hB a+(hM - hB a')) % hM∧(hB a+(hM - hB a')) % hM<hM - 2 ^ 41:=by decide +kernel
theorem zj1 (a:Nat):hB a<hM:=Nat.mod_lt _ (by decide)
theorem zls {a b a' b':Nat} (ha:a<8) (ha':a'<8) (hb:b<2 ^ 40) (hb':b'<2 ^ 40) (h:(hB a+b) % hM=(hB a'+b') % hM):a=a'∧b=b':=by
 have l1:=zj1 a
 have l2:=zj1 a'
 by_cases e:a=a'
 ·subst e
  refine ⟨rfl,?_⟩
  generalize hB a=u at *
  unfold hM at *
  omega
 ·have h3:=apart a ha a' ha' e
  generalize hB a=u at *
  generalize hB a'=v at *
  unfold hM at *
  omega
noncomputable def hOdd:Nat:=18446744073709551615
theorem zrx:∀ a:Nat,a<8→∃ y,y<hM∧hFin (hRot y * hP1 % hM)=hOdd∧2 ^ 41<(y * hQ2+(hM - hB a)) % hM:=by
 intro a ha
 refine ⟨9148689060682678900,by decide +kernel,by decide +kernel,?_⟩
 revert a
 decide +kernel
noncomputable def zfs (a b:Nat):Nat:=hFin (hRot ((zpu hP5 a+b * hP2) % hM) * hP1 % hM)
theorem zwq {a b:Nat} (ha:a<8) (hb:b<2 ^ 40):zfs a b≠hOdd:=λ h=>by
 obtain ⟨y,hy,h1,h2⟩:=zrx a ha
 have e:=zyk (Nat.mod_lt _ (by decide)) hy (h.trans h1.symm)
 have e2:=zhe (a:=a) hb
 rw [e] at e2
 have l1:=zj1 a
 generalize y * hQ2=z at *
 generalize hB a=u at *
 unfold hM at *
 omega
theorem zct {a b a' b':Nat} (ha:a<8) (ha':a'<8) (hb:b<2 ^ 40) (hb':b'<2 ^ 40) (h:zfs a b=zfs a' b'):a=a'∧b=b':=by
 have e:=zyk (Nat.mod_lt _ (by decide)) (Nat.mod_lt _ (by decide)) h
 refine zls ha ha' hb hb' ?_
 rw [← zhe hb,← zhe hb',e]
noncomputable def zrk (n:Nat):Int:=if n<2 ^ 63 then (n:Int) else (n:Int) - (hM:Int)
theorem zrs {n n':Nat} (h1:n<hM) (h2:n'<hM) (h:zrk n=zrk n'):n=n':=by
 unfold zrk hM at *
 split at h <;> split at h <;> omega
noncomputable def hSt (acc:Nat) (h:Int):Nat:=((acc+(h % ((2 ^ 64:Nat):Int)).toNat * hP2) % 2 ^ 64 * 2 ^ 31 % 2 ^ 64+(acc+(h % ((2 ^ 64:Nat):Int)).toNat * hP2) % 2 ^ 64 / 2 ^ 33) * hP1 % 2 ^ 64
noncomputable def hEnd (acc n:Nat):Nat:=(acc+(n ^^^ (hP5 ^^^ 3527539))) % 2 ^ 64
noncomputable def hAcc (hs:List Int):Nat:=hEnd (List.foldl hSt hP5 hs) hs.length
noncomputable def hSay (n:Nat):Int:=if (n == 2 ^ 64 - 1)=true then 1546275796 else if n<2 ^ 63 then (n:Int) else (n:Int) - ((2 ^ 64:Nat):Int)
theorem zvt (hs:List Int):Builtin.Tuple.tupleHashOf hs=hSay (hAcc hs):=rfl
theorem zhn {n:Nat} (h:n<2 ^ 40):hashInt (n:Int)=(n:Int):=by
 have h1:rawHash (n:Int)=(n:Int):=by
  unfold rawHash
  have e1:((n:Int).natAbs:Int) % ((2 ^ 61 - 1:Nat):Int)=(n:Int):=by omega
  dsimp only
  rw [e1,if_neg (show ¬ (n:Int)<0 by omega),if_neg (by rw [beq_iff_eq];omega)]
 unfold hashInt
 rw [h1,if_neg (by rw [beq_iff_eq];omega)]
theorem zhx {a:Nat} (acc:Nat) (ha:a<2 ^ 40):hSt acc (a:Int)=zpu acc a:=by
 have e1:((a:Int) % ((2 ^ 64:Nat):Int)).toNat=a:=by omega
 unfold hSt
 rw [e1]
 unfold zpu hRot hM
 with_reducible rfl
theorem zdt {a b:Nat} (ha:a<8) (hb:b<2 ^ 40):hAcc [(a:Int),(b:Int)]=zfs a b:=by
 unfold hAcc
 rw [List.foldl_cons,List.foldl_cons,List.foldl_nil,zhx _ hb,zhx _ (show a<2 ^ 40 by omega),List.length_cons,List.length_cons,List.length_nil]
 unfold zfs hFin hEnd hC hM
 rw [show (0+1+1:Nat)=2 by decide]
 unfold zpu hM
 with_reducible rfl
theorem zxt {n:Nat} (h:n≠hOdd):hSay n=zrk n:=by
 unfold hSay
 rw [if_neg (by rw [beq_iff_eq];exact h)]
 unfold zrk hM
 rfl
theorem zvs {n:Nat} (h:n<hM) (h':n≠hOdd):redH (zrk n)=zrk n:=by
 have hr : -(2:Int) ^ 63≤zrk n∧zrk n<2 ^ 63∧zrk n ≠ -1:=by
  unfold zrk hM hOdd at *
  split <;> omega
 unfold redH
 rw [if_pos (by rw [decide_eq_true hr.1,decide_eq_true hr.2.1];rfl),if_neg (by rw [beq_iff_eq];exact hr.2.2)]
theorem zzv (a b:Nat):zfs a b<hM:=Nat.mod_lt _ (by decide)
theorem zdj {a b:Nat} (ha:a<8) (hb:b<2 ^ 40):zrf (markD ((a:Int),(b:Int)))=zrk (zfs a b):=by
 have h0:zrf (markD ((a:Int),(b:Int)))=redH (Builtin.Tuple.tupleHashOf [hashInt (a:Int),hashInt (b:Int)]):=by
  unfold markD
  rw [zrf,zvc,zvc,zvc,zrf,zrf]
 rw [h0,zhn (by omega),zhn hb,zvt,zdt ha hb,zxt (zwq ha hb),zvs (zzv a b) (zwq ha hb)]
noncomputable def smM (k:Mark):Prop:=(0≤k.1∧k.1<8)∧(0≤k.2∧k.2<1099511627776)
theorem zzt {k k':Mark} (h:smM k) (h':smM k') (e:zrf (markD k)=zrf (markD k')):k=k':=by
 obtain ⟨a,b⟩:=k
 obtain ⟨a',b'⟩:=k'
 obtain ⟨⟨h1,h2⟩,h3,h4⟩:=h
 obtain ⟨⟨g1,g2⟩,g3,g4⟩:=h'
 dsimp only at *
 obtain ⟨n,rfl⟩:=Int.eq_ofNat_of_zero_le h1
 obtain ⟨m,rfl⟩:=Int.eq_ofNat_of_zero_le h3
 obtain ⟨n',rfl⟩:=Int.eq_ofNat_of_zero_le g1
 obtain ⟨m',rfl⟩:=Int.eq_ofNat_of_zero_le g3
 rw [zdj (by omega) (by omega),zdj (by omega) (by omega)] at e
 obtain ⟨r1,r2⟩:=zct (by omega) (by omega) (by omega) (by omega) (zrs (Nat.mod_lt _ (by decide)) (Nat.mod_lt _ (by decide)) e)
 rw [r1,r2]
theorem zdl:∀ {ks:List Mark},ks.Nodup→(∀ k∈ks,smM k)→(ks.map λ m=>zrf (markD m)).Nodup
 | [],_,_=>List.nodup_nil
 | k::ks,nd,h=>by
  obtain ⟨n1,n2⟩:=List.nodup_cons.mp nd
  rw [List.map_cons]
  refine List.nodup_cons.mpr ⟨λ z=>?_,zdl n2 λ x hx=>h x (List.mem_cons_of_mem _ hx)⟩
  obtain ⟨x,hx,e⟩:=List.mem_map.mp z
  exact n1 (zzt (h x (List.mem_cons_of_mem _ hx)) (h k List.mem_cons_self) e ▸ hx)
end L2
namespace L2
open PySem PySem.Spec PyProof.Rows PySem.NumText
section
variable {X:Cx}
end
end L2
namespace L2
open PySem PySem.Spec PyProof.Rows PySem.NumText
section
variable {X:Cx} {o e z:Expr} {td ty tz:TE}
end
end L2
namespace L2
open PySem PySem.Spec PyProof.Rows PySem.NumText
section
variable {prog:Program} {w:World} {A:Around} {E:Value→Shared→Prop} {R:Result→Shared→Prop} {s:Shared}
end
section
variable {X:Cx}
end
end L2
namespace L2
open PySem PySem.Spec PyProof.Rows PySem.NumText
section
variable {X:Cx}
end
end L2
namespace L2
open PySem PySem.Spec PyProof.Rows PySem.NumText PySem.W
section
variable {X:Cx} {o e:Expr}
end
section
variable {X:Cx}
end
end L2
namespace L2
open PySem PySem.Spec PyProof.Rows PySem.NumText PySem.W
section
variable {prog:Program} {w:World} {A:Around} {E:Value→Shared→Prop} {s:Shared}
end
section
variable {X:Cx}
end
end L2
namespace L2
open PySem PySem.Spec PyProof.Rows PySem.NumText PySem.W
section
variable {prog:Program} {w:World} {A:Around} {E:Value→Shared→Prop} {s:Shared}
end
end L2
namespace L2
open PySem PySem.Spec PyProof.Rows PySem.NumText PySem.W
section
variable {prog:Program} {w:World} {A:Around} {E:Value→Shared→Prop} {s:Shared}
end
section
variable {prog:Program} {w:World} {A:Around} {E:Value→Shared→Prop} {s:Shared}
end
end L2
namespace L2
open PySem PySem.Spec PyProof.Rows PySem.NumText PySem.W
section
variable {X:Cx} {pins:List (Addr×Obj)} {σ:St} {H:Hp} {s:Shared}
end
section
variable {X:Cx}
end
end L2
namespace L2
open PySem PySem.Spec PyProof.Rows PySem.NumText PySem.W
noncomputable def KvR (k:Str×V) (u:Str×Value):Prop:=k.1=u.1∧RelV k.2 u.2
noncomputable def tdOk (P:Program) (w:World) (a:Addr) (kvs:List (Str×V)) (h:Heap):Prop:=(a == sysModules)=false∧∃ us:List (Str×Value),Paired KvR kvs us∧h.DictOf (strKind P w) a us
noncomputable def tdO (P:Program) (w:World) (a:Addr) (kvs:List (Str×V)):HO := .ext (tdOk P w a kvs)
noncomputable def vAt (kvs:List (Str×V)) (k:Str):Option V:=(kvs.find? λ kv=>kv.1=k).map (·.2)
theorem zfr:∀ {kvs:List (Str×V)} {us:List (Str×Value)},Paired KvR kvs us→∀ k,RelO (vAt kvs k) (valueAt us k)
 | _,_,.nil,k=>trivial
 | a::kvs,u::us,.cons r rr,k=>by
  unfold vAt valueAt
  rw [List.find?_cons,List.find?_cons,r.1]
  by_cases h:u.1=k
  ·rw [decide_eq_true h]
   exact r.2
  ·rw [decide_eq_false h]
   exact zfr rr k
theorem zkr:∀ {kvs:List (Str×V)} {us:List (Str×Value)},Paired KvR kvs us→us.map (·.1)=kvs.map (·.1)
 | _,_,.nil=>rfl
 | _,_,.cons r rr=>by rw [List.map_cons,List.map_cons,r.1,zkr rr]
section
variable {X:Cx}
noncomputable abbrev TD:=St→Hp→(List (Str×V)→Hp→Prop)→Prop
structure PD (X:Cx) (ks:List (Option Expr)) (vs:List Expr) (pos:Pos) (t:TD):Prop where
 run:∀ (pins:List (Addr×Obj)) (s:Shared) (σ:St) (H:Hp) (Q:List (Str×V)→Hp→Prop),Inv X pins σ H s→t σ H Q →
  wpAny (model X.prog X.w) X.A (evalPairs (pairTrees ks vs X.env pos)) (λ ps s'=>∃ kvs us H',Inv X pins σ H' s'∧Carries (strKind X.prog X.w) ps us∧Paired KvR kvs us∧Q kvs H') X.xe s
noncomputable def dNil:TD:=λ _ H Q=>Q [] H
noncomputable def zm7 (k:Str) (tv:TE) (t:TD):TD:=λ σ H Q=>tv σ H λ v H1=>t σ H1 λ kvs H2=>Q ((k,v)::kvs) H2
theorem zz1 {pos:Pos}:PD X [] [] pos dNil := .mk λ pins s σ H Q I h=>pairTrees_nil_walk ⟨[],[],H,I,True.intro,.nil,h⟩
theorem zpr (k:Str) {ke ve:Expr} {ks:List (Option Expr)} {vs:List Expr} {pos:Pos} {tk tv:TE} {t:TD} (hk:PE X ke tk) (htk:∀ σ H Q,Q (.str k) H→tk σ H Q) (hv:PE X ve tv) (h:PD X ks vs pos t):PD X (some ke::ks) (ve::vs) pos (zm7 k tv t) := .mk <| by
 intro pins s σ H Q I hw
 refine pairTrees_cons_walk (thn (hk pins s σ H (λ v H1=>v = .str k∧H1=H) I (htk _ _ _ ⟨rfl,rfl⟩)) λ u s1 ⟨x,H1,I1,rx,ex,eH⟩=>?_)
 subst ex eH
 obtain ⟨tk',rfl⟩:=rx
 refine thn (hv pins s1 σ H1 _ I1 hw) λ u2 s2 ⟨y,H2,I2,ry,q2⟩=>?_
 refine thn (h.run pins s2 σ H2 _ I2 q2) λ ps s3 ⟨kvs,us,H3,I3,c3,p3,q3⟩=>?_
 exact ⟨(k,y)::kvs,(k,u2)::us,H3,I3,⟨beq_self_eq_true k,rfl,c3⟩,.cons ⟨rfl,ry⟩ p3,q3⟩
theorem zd4 {P:Program} {w:World} {H:Hp} {h:Heap} {a:Addr} {kvs:List (Str×V)} {us:List (Str×Value)} (y:(a == sysModules)=false) (r:Paired KvR kvs us) (d:h.DictOf (strKind P w) a us):ObjOk P w H h a (tdO P w a kvs):=by
 obtain ⟨o,es,ep,h1,h2⟩:=id d
 exact ⟨⟨y,us,r,d⟩,⟨o,h1⟩,λ g1 g2 ⟨y,us,r,o,es,ep,q1,q2⟩ k=>⟨y,us,r,o,es,ep,k _ q1,q2⟩⟩
noncomputable def tTd (P:Program) (w:World) (t:TD):TE:=λ σ H Q=>∀ p,H p=none→t σ (upd H p (tdO P w p [])) λ kvs H1=>H1 p=some (tdO P w p [])∧(kvs.map (·.1)).Nodup∧Q (.ref p) (upd H1 p (tdO P w p kvs))
theorem zi7 {ks:List (Option Expr)} {vs:List Expr} {pos:Pos} {t:TD} (h:PD X ks vs pos t) (hall:ks.all (·.isSome)=true:=by rfl) (hl:ks.length=vs.length:=by rfl) (h0:ks≠[]:=by simp) (hlen:ks.length≤15:=by decide):PE X (.Dict ks vs pos) (tTd X.prog X.w t) := .mk <| by
 intro pins s σ H Q I hw
 refine wpAny_Dict_walk (knd:=strKind X.prog X.w) hall hl h0 hlen ?_
 have y0:(s.heap.objs.size == sysModules)=false:=beq_eq_false_iff_ne.mpr (Ne.symm (Nat.ne_of_lt I.bigM))
 have I0:Inv X pins σ (upd H s.heap.objs.size (tdO X.prog X.w s.heap.objs.size [])) { s with heap:=s.heap.push { cls := .type "dict",data := .dict #[] } }:=I.laid (t':=s.toks) (λ _ _ q=>Heap.get?_push_of_some _ q) (Nat.le_refl _) (zd4 y0 .nil (Heap.DictOf.new s.heap))
 refine thn (h.run _ _ σ _ _ I0 (hw _ (I.hok.fresh (Nat.le_refl _)))) λ ps s1 ⟨kvs,us,H1,I2,c2,p2,e1,nd,q⟩=>?_
 obtain ⟨⟨_,us0,r0,d0⟩,_,_⟩:=(show ObjOk X.prog X.w H1 s1.heap _ (tdO X.prog X.w _ []) from I2.hok _ _ e1)
 cases r0
 refine ⟨us,c2,d0,λ h' D' sb=>?_⟩
 have em:merged [] us=us:=merged_nil_of_nodup us (by rw [zkr p2];exact nd)
 rw [em] at D'
 have he:∃ ob,h'.get? s.heap.objs.size=some ob:=let ⟨ob,_,_,hq,_⟩:=D'; ⟨ob,hq⟩
 exact ⟨.ref _,_,I2.write (t':=_) (by rw [e1];exact True.intro) (.inl rfl) (λ b ob hb z=>(sb.2 b hb).trans z) he (zd4 y0 p2 D'),rfl,q⟩
noncomputable def zf9 (P:Program) (w:World):R2:=λ x y H Q=>∃ k a kvs v,x = .ref a∧y = .str k∧H a=some (tdO P w a kvs)∧vAt kvs k=some v∧Q v H
theorem zru:IxR X (zf9 X.prog X.w):=by
 intro value slice pins s σ H x y v u Q I rx ry h hs
 obtain ⟨k,a,kvs,v',rfl,rfl,ha,hf,q⟩:=h
 cases rx
 obtain ⟨t,rfl⟩:=ry
 obtain ⟨⟨y0,us,r,d⟩,_,_⟩:=(show ObjOk X.prog X.w H s.heap a (tdO X.prog X.w a kvs) from I.hok a _ ha)
 have hT:s.TypeIs (.ref a) "dict" := d.typeIs
 have rl:=zfr r k
 rw [hf] at rl
 obtain ⟨u',hu,ru⟩:=zro rl
 have fin:wpAny (model X.prog X.w) X.A (subscripted slice false (.ref a) (.str k t)) (λ r s3=>wpAny (model X.prog X.w) X.A (letTemporaryGo value (.ref a) r >>= λ _=>pure r) (EP X pins σ Q) X.xe s3) X.xe s:=by
  rw [hs]
  refine wpAny_operating (wpAny_getItem_of (knd:=strKind X.prog X.w) (k:=k) (beq_self_eq_true k) d.mapOf hu ?_)
  exact wpAny_bind (wpAny_letTemporaryGo (wpAny_pure ⟨v',H,I.tok _,ru,q⟩))
 unfold subscriptTail
 refine wpAny_bind ?_
 rw [getitemInPython_of_ne hT.not_modules]
 refine wpAny_bind (wpAny_specialOf hT PySem.F.slot_dict_getitem.lookup ?_)
 first
  | exact wpAny_pure (wpAny_bind fin)
  | exact wpAny_bind (wpAny_pure (wpAny_bind fin))
end
end L2
namespace L2
open PySem PySem.Spec PyProof.Rows PySem.NumText PySem.W
section
variable {X:Cx}
end
section
variable {X:Cx}
end
end L2
namespace L2
open PySem PySem.Spec PyProof.Rows PySem.NumText PySem.W
section
variable {X:Cx}
end
end L2
namespace L2
open PySem PySem.Spec PyProof.Rows PySem.NumText PySem.W
section
variable {X:Cx}
end
end L2
namespace L2
open PySem PySem.Spec PyProof.Rows PySem.NumText PySem.W
section
variable {M:Model} {prog:Program} {w:World} {A:Around} {E:Value→Shared→Prop} {s:Shared}
end
section
variable {X:Cx}
end
end L2
namespace L2
open PySem PySem.Spec PyProof.Rows PySem.NumText
section
variable {K:W.Frag} {H H':Hp} {es:List Ent} {f:Mark→Option PyData} {k m:Mark} {d:PyData}
end
noncomputable def LsR (K:W.Frag) (N:List Addr) (H:Hp) (v:V) (ds:List PyData):Prop:=∃ l zs,v = .ref l∧l∉N∧H l=some (.lst zs)∧DVs K H ds zs∧noLs ds=true
section
variable {K:W.Frag} {N:List Addr} {H H':Hp} {v:V} {ds:List PyData}
theorem LsR.same (h:LsR K N H v ds) (s:Same H H'):LsR K N H' v ds:=by
 obtain ⟨l,zs,e,nl,hl,hz,ns⟩:=h
 exact ⟨l,zs,e,nl,s _ _ hl,DVs.same s _ _ hz,ns⟩
theorem LsR.less {M:List Addr} (h:LsR K N H v ds) (n:∀ a∈M,a∈N):LsR K M H v ds:=by
 obtain ⟨l,zs,e,nl,r⟩:=h
 exact ⟨l,zs,e,λ z=>nl (n l z),r⟩
end
end L2
namespace L2
open PySem PySem.Spec PyProof.Rows PySem.NumText
section
variable {prog:Program} {w:World} {A:Around} {E:Value→Shared→Prop} {R:Result→Shared→Prop} {s:Shared}
end
section
variable {X:Cx}
end
end L2
namespace L2
open PySem PySem.Spec PyProof.Rows PySem.NumText
noncomputable def But (M:List Addr) (H H':Hp):Prop:=∀ b o,b∉M→H b=some o→H' b=some o
noncomputable def NoT (M:List Addr) (H:Hp):Prop:=∀ m∈M,∀ o,H m=some o→zau o
theorem zqy (C dx:Addr) (fs:List (Str×V)):zau (.ins C dx fs):=⟨λ _ z=>(by cases z),λ _ _ z=>(by cases z)⟩
section
variable {K:W.Frag} {M N:List Addr} {H H' H1 H2:Hp} {v:V} {ds:List PyData}
theorem But.of (s:Same H H'):But M H H':=λ b o _ e=>s b o e
theorem But.trans (a:But M H H1) (b:But M H1 H2):But M H H2:=λ c o n e=>b c o n (a c o n e)
theorem But.mono (a:But M H H1) (h:∀ m∈M,m∈N):But N H H1:=λ c o n e=>a c o (λ z=>n (h c z)) e
theorem But.put {a:Addr} {o:HO} (h:a∈M):But M H (upd H a o):=λ b o' n e=>by rw [zha (λ z=>n (by rw [z];exact h))];exact e
theorem But.free (a:But M H H1) {x:Addr} (h:H1 x=none) (n:x∉M):H x=none:=by
 cases e:H x with
 | none=>rfl
 | some o=>rw [a x o n e] at h;cases h
theorem zoe (k:But M H H') (n:NoT M H) {a:Addr} {xs:List V} (h:SqT K H a xs):SqT K H' a xs:=by
 rcases h with (h | ⟨ob,h⟩) | h
 ·exact .inl (.inl (k _ _ (λ z=>(n a z _ h).1 _ rfl) h))
 ·exact .inl (.inr ⟨ob,k _ _ (λ z=>(n a z _ h).2 _ _ rfl) h⟩)
 ·exact .inr h
mutual
theorem zis (k:But M H H') (n:NoT M H):∀ (d:PyData) (v:V),noL d=true→DV K H d v→DV K H' d v
 | .none,v,_,h=>h
 | .bool b,v,_,h=>h
 | .int i,v,_,h=>h
 | .str x,v,_,h=>h
 | .list xs,v,n',_=>by cases n'
 | .tuple xs,v,n',⟨a,vs,h1,h2,h3⟩=>⟨a,vs,h1,zoe k n h2,zlb k n xs vs n' h3⟩
 | .dict _,v,_,h=>h.elim
theorem zlb (k:But M H H') (n:NoT M H):∀ (ds:List PyData) (vs:List V),noLs ds=true→DVs K H ds vs→DVs K H' ds vs
 | [],vs,_,h=>h
 | d::ds,vs,n',⟨v,r,h1,h2,h3⟩=>by
  have n':noL d=true∧noLs ds=true:=by rw [noLs,Bool.and_eq_true] at n';exact n'
  exact ⟨v,r,h1,zis k n d v n'.1 h2,zlb k n ds r n'.2 h3⟩
end
theorem LsR.but (h:LsR K N H v ds) (k:But M H H') (n:NoT M H) (hM:∀ m∈M,m∈N ∨ ∃ C dx fs,H m=some (.ins C dx fs)):LsR K N H' v ds:=by
 obtain ⟨l,zs,e,nl,hl,hz,ns⟩:=h
 refine ⟨l,zs,e,nl,k _ _ (λ z=>?_) hl,zlb k n _ _ ns hz,ns⟩
 rcases hM l z with h | ⟨C,dx,fs,h⟩
 ·exact nl h
 ·rw [hl] at h;cases h
theorem LsR.more {a:Addr} (h:LsR K N H v ds) (ha:H a=none):LsR K (a::N) H v ds:=by
 obtain ⟨l,zs,e,nl,hl,r⟩:=h
 refine ⟨l,zs,e,λ z=>?_,hl,r⟩
 rcases List.mem_cons.mp z with z | z
 ·rw [z,ha] at hl;cases hl
 ·exact nl z
noncomputable def eD (e:List Chg):PyData := .list (e.map chD)
noncomputable abbrev EnL (K:W.Frag) (N:List Addr) (H:Hp) (vs:List V) (es:List (List Chg)):Prop:=Paired (λ v (e:List Chg)=>LsR K N H v (e.map chD)) vs es
variable {vs:List V} {es:List (List Chg)}
theorem EnL.but (h:EnL K N H vs es) (k:But M H H') (n:NoT M H) (hM:∀ m∈M,m∈N ∨ ∃ C dx fs,H m=some (.ins C dx fs)):EnL K N H' vs es:=Paired.mapP h λ _ _ q=>q.but k n hM
theorem EnL.same (h:EnL K N H vs es) (s:Same H H'):EnL K N H' vs es:=Paired.mapP h λ _ _ q=>q.same s
theorem EnL.more {a:Addr} (h:EnL K N H vs es) (ha:H a=none):EnL K (a::N) H vs es:=Paired.mapP h λ _ _ q=>q.more ha
theorem EnL.less (h:EnL K N H vs es) (n:∀ a∈M,a∈N):EnL K M H vs es:=Paired.mapP h λ _ _ q=>q.less n
theorem EnL.dv (h:EnL K N H vs es):DVs K H (es.map eD) vs:=by
 induction h with
 | nil=>rfl
 | cons r rr ih =>
  obtain ⟨l,zs,rfl,_,hl,hz,_⟩:=r
  exact ⟨_,_,rfl,⟨l,zs,rfl,SqL.of hl,hz⟩,ih⟩
theorem znf {α β:Type} {R:α→β→Prop} {xs:List α} {ys:List β} {y:β} (h:Paired R xs (ys++[y])):∃ xs' x,xs=xs'++[x]∧Paired R xs' ys∧R x y:=by
 induction ys generalizing xs with
 | nil =>
  cases h with
  | cons r rr =>
   cases rr
   exact ⟨[],_,rfl,.nil,r⟩
 | cons z ys ih =>
  cases h with
  | cons r rr =>
   obtain ⟨xs',x,rfl,p,q⟩:=ih rr
   exact ⟨_::xs',x,rfl,.cons r p,q⟩
noncomputable def okEn (e:List Chg):Prop:=(∀ c∈e,okCh c)∧(e.map (·.1)).Nodup∧e.length≤3
noncomputable def okEs (es:List (List Chg)):Prop:=∀ e∈es,okEn e
theorem zsv:∀ {es:List (List Chg)},okEs es→PyData.canLayAll0 (es.map eD)=true∧PyData.depthAll (es.map eD)≤6
 | [],_=>⟨rfl,Nat.zero_le _⟩
 | e::es,h=>by
  obtain ⟨h1,h2⟩:=zsv (es:=es) λ x hx=>h x (List.mem_cons_of_mem _ hx)
  obtain ⟨h3,h4⟩:=zsq (h e List.mem_cons_self).1
  refine ⟨?_,?_⟩
  ·show (PyData.canLayAll0 (e.map chD) && PyData.canLayAll0 (es.map eD))=true
   rw [h3,h1]
   rfl
  ·show max (PyData.depthAll (e.map chD)+1) (PyData.depthAll (es.map eD))≤6
   omega
theorem zxo {es:List (List Chg)} (h:okEs es):SeqAt.shaped (.list (es.map eD))=true:=by
 obtain ⟨h1,h2⟩:=zsv h
 unfold SeqAt.shaped
 rw [show PyData.canLay0 (.list (es.map eD))=true from h1,Bool.true_and]
 refine decide_eq_true ?_
 show PyData.depthAll (es.map eD)+1≤_
 omega
end
theorem sneu:¬ (("standing" : Str) = "undone"):=by decide +kernel
noncomputable def lf (S U:Addr):List (Str×V):=putF "undone" (.ref U) (putF "standing" (.ref S) [])
theorem zou (S U:Addr):lf S U=([("standing",V.ref S),("undone",V.ref U)]:List (Str×V)):=by
 show (if ("standing" : Str) = "undone" then [(("standing" : Str),V.ref U)] else (("standing" : Str),V.ref S)::putF "undone" (V.ref U) [])=_
 rw [if_neg sneu]
 rfl
theorem lf_s (S U:Addr):(lf S U).lookup ("standing" : Str)=some (.ref S):=by
 unfold lf
 rw [zgb,if_neg sneu,zgb,if_pos rfl]
theorem lf_u (S U:Addr):(lf S U).lookup ("undone" : Str)=some (.ref U):=by
 unfold lf
 rw [zgb,if_pos rfl]
theorem zmu (S U:Addr) {m:Str} (h1:¬ m = "undone") (h2:¬ m = "standing"):(lf S U).lookup m=none:=by
 unfold lf
 rw [zgb,if_neg h1,zgb,if_neg h2]
 rfl
theorem zl0 (S U W:Addr):putF "undone" (.ref W) (lf S U)=lf S W:=by
 rw [zou,zou]
 show (if ("standing" : Str) = "undone" then _ else (("standing" : Str),V.ref S)::(if ("undone" : Str) = "undone" then [(("undone" : Str),V.ref W)] else _))=_
 rw [if_neg sneu,if_pos rfl]
theorem zow (S U W:Addr):putF "standing" (.ref W) (lf S U)=lf W U:=by
 rw [zou,zou]
 show (if ("standing" : Str) = "standing" then (("standing" : Str),V.ref W)::[(("undone" : Str),V.ref U)] else _)=_
 rw [if_pos rfl]
structure LogK (C:Addr) (H:Hp) (p S U:Addr) (vs ws:List V):Prop where
 hp:∃ dx,H p=some (.ins C dx (lf S U))
 hS:H S=some (.lst vs)
 hU:H U=some (.lst ws)
 ne:S≠U
section
variable {C:Addr} {H H':Hp} {p S U:Addr} {vs ws:List V}
theorem LogK.same (L:LogK C H p S U vs ws) (s:Same H H'):LogK C H' p S U vs ws:=⟨L.hp.imp λ _ h=>s _ _ h,s _ _ L.hS,s _ _ L.hU,L.ne⟩
theorem LogK.but {M:List Addr} (L:LogK C H p S U vs ws) (k:But M H H') (n:∀ a∈[p,S,U],a∉M):LogK C H' p S U vs ws:=⟨L.hp.imp λ _ h=>k _ _ (n p (by simp)) h,k _ _ (n S (by simp)) L.hS,k _ _ (n U (by simp)) L.hU,L.ne⟩
theorem LogK.nS (L:LogK C H p S U vs ws):p≠S:=let ⟨_,h⟩:=L.hp;zxd h L.hS (by intro z;cases z)
theorem LogK.nU (L:LogK C H p S U vs ws):p≠U:=let ⟨_,h⟩:=L.hp;zxd h L.hU (by intro z;cases z)
end
theorem zxu {H:Hp} {a b:Addr} {xs ys:List V} (h:H a=some (.lst xs)) (g:H b=some (.lst ys)):NoT [a,b] H:=λ m hm o e=>by
 rcases List.mem_cons.mp hm with rfl | hm
 ·rw [h] at e;cases e;exact zwm _
 ·rw [List.mem_singleton.mp hm,g] at e;cases e;exact zwm _
end L2
namespace L2
open PySem PySem.Spec PyProof.Rows PySem.NumText
noncomputable def wf (n b B D c l:V):List (Str×V):=putF "log" l (putF "last_count" c (putF "draft_sheet" D (putF "base_sheet" B (putF "base_save" b (putF "number" n [])))))
theorem zf8 (n b B D c l:V):wf n b B D c l=([("number",n),("base_save",b),("base_sheet",B),("draft_sheet",D),("last_count",c),("log",l)]:List (Str×V)):=rfl
section
variable {n b B D c l x:V}
theorem wf_n:(wf n b B D c l).lookup ("number" : Str)=some n:=rfl
theorem wf_b:(wf n b B D c l).lookup ("base_save" : Str)=some b:=rfl
theorem wf_d:(wf n b B D c l).lookup ("draft_sheet" : Str)=some D:=rfl
theorem wf_c:(wf n b B D c l).lookup ("last_count" : Str)=some c:=rfl
theorem wf_l:(wf n b B D c l).lookup ("log" : Str)=some l:=rfl
theorem zgl:(wf n b B D c l).length<1000:=by rw [zf8];show 6<1000;decide
theorem wf_v:(wf n b B D c l).lookup ("versions" : Str)=none:=rfl
theorem za9:putF "base_save" x (wf n b B D c l)=wf n x B D c l:=rfl
theorem zg8:putF "base_sheet" x (wf n b B D c l)=wf n b x D c l:=rfl
theorem zp6:putF "draft_sheet" x (wf n b B D c l)=wf n b B x c l:=rfl
theorem zg9:putF "last_count" x (wf n b B D c l)=wf n b B D x l:=rfl
end
theorem lf_v (S U:Addr):(lf S U).lookup ("versions" : Str)=none:=rfl
theorem zwv {X:Cx} {K:W.Frag} {e:Expr} {ta:TE} {f:Str} {pos:Pos} (h:X.K=K) (he:PE X e ta) (hb:attributeBase e f X.env (eval e X.env)=eval e X.env):PE X (.Attribute e f pos) (tFld K ta f):=h ▸ zcb he hb
noncomputable def Mu (M:List Addr) (H:Hp):Prop:=∀ m∈M,(∃ xs,H m=some (.lst xs)) ∨ ∃ C dx fs,H m=some (.ins C dx fs)∧fs.lookup ("versions" : Str)=none
theorem Mu.noT {M:List Addr} {H:Hp} (h:Mu M H):NoT M H:=λ m hm o e=>by
 rcases h m hm with ⟨xs,h⟩ | ⟨C,dx,fs,h,_⟩
 ·rw [h] at e;cases e;exact zwm _
 ·rw [h] at e;cases e;exact zqy _ _ _
theorem Mu.nil {H:Hp}:Mu [] H:=λ m hm=>by cases hm
theorem Mu.lst {M:List Addr} {H:Hp} {a:Addr} {xs:List V} (h:Mu M H) (ha:H a=some (.lst xs)):Mu (a::M) H:=λ m hm=>(List.mem_cons.mp hm).elim (λ e=>.inl ⟨xs,by rw [e];exact ha⟩) (h m)
theorem Mu.ins {M:List Addr} {H:Hp} {a C dx:Addr} {fs:List (Str×V)} (h:Mu M H) (ha:H a=some (.ins C dx fs)) (hv:fs.lookup ("versions" : Str)=none):Mu (a::M) H:=λ m hm=>(List.mem_cons.mp hm).elim (λ e=>.inr ⟨C,dx,fs,by rw [e];exact ha,hv⟩) (h m)
theorem ShAt.but {P:Program} {w:World} {K:W.Frag} {C:Addr} {H H':Hp} {p:Addr} {ms:Sh} {M:List Addr} (h:ShAt P w K C H p ms) (k:But M H H') (mu:Mu M H):ShAt P w K C H' p ms:=by
 obtain ⟨dx,d,es,o,h1,h2,h3⟩:=h.ex
 refine ⟨⟨dx,d,es,o,k _ _ (λ z=>?_) h1,k _ _ (λ z=>?_) h2,h3.imp (λ _ _ q=>zoe k mu.noT q) λ v _ q=>zis k mu.noT _ _ (zoh v) q⟩,h.nd,h.ok,h.few⟩
 ·rcases mu p z with ⟨xs,e⟩ | ⟨C',dx',fs,e,e2⟩
  ·rw [h1] at e;cases e
  ·rw [h1] at e;cases e;cases e2
 ·rcases mu d z with ⟨xs,e⟩ | ⟨C',dx',fs,e,e2⟩
  ·rw [h2] at e;cases e
  ·rw [h2] at e;cases e
end L2
namespace L2
open PySem PySem.Spec PyProof.Rows PySem.NumText PySem.W
section
variable {X:Cx}
noncomputable def setV (kvs:List (Str×V)) (k:Str) (v:V):List (Str×V):=kvs.map λ e=>if e.1=k then (e.1,v) else e
theorem za8 {P:Program} {w:World} {h:Heap} {a:Addr} {kvs:List (Str×V)} {es:List Ent} {o:Obj} (t:tdOk P w a kvs h) (d:dOk P w a es o h) (h0:kvs≠[]):False:=by
 obtain ⟨_,us,r,o1,ds,ep,g1,_,g2,_,g3,_⟩:=t
 obtain ⟨_,_,f1,xs,_,ds',ep',_,f2,f3,_⟩:=d
 rw [g1] at f1
 cases f1
 rw [g2] at f2
 cases f2
 cases r with
 | nil=>exact h0 rfl
 | cons q qq =>
  generalize ds.toList=es1 at g3 f3
  cases g3 with
  | cons i1 i2 i3 =>
   cases xs with
   | nil=>cases f3
   | cons x xs =>
    have e:=(List.cons.inj f3).1
    rw [e] at i1
    cases i1
noncomputable def zqu (P:Program) (w:World) (td ty tv:TE):TS:=λ D σ H=>tv σ H λ v H1=>td σ H1 λ x H2=>ty σ H2 λ y H3=>∃ a kvs k,x = .ref a∧H3 a=some (tdO P w a kvs)∧y = .str k∧(kvs.any λ e=>decide (e.1=k))=true∧kvs.length≤100 ∧
 ((∀ d es o,H3 d=some (dO P w d es o)→d≠a)→D.nx σ (upd H3 a (tdO P w a (setV kvs k v))))
theorem zkw {k:Str}:∀ {kvs:List (Str×V)} {us:List (Str×Value)},Paired KvR kvs us→(kvs.any λ e=>decide (e.1=k))=true→(us.any λ e=>decide (e.1=k))=true
 | _,_,.nil,h=>h
 | _,_,.cons r rr,h=>by
  rw [List.any_cons,Bool.or_eq_true] at h ⊢
  exact h.imp (λ e=>by rw [← r.1];exact e) (zkw rr)
theorem zqw {k:Str} {v:V} {u:Value} (r:RelV v u):∀ {kvs:List (Str×V)} {us:List (Str×Value)},Paired KvR kvs us→Paired KvR (setV kvs k v) (us.map λ e=>if e.1=k then (e.1,u) else e)
 | _,_,.nil=>.nil
 | a::kvs,b::us,.cons q qq=>by
  refine .cons ?_ (zqw r qq)
  dsimp only
  by_cases h:b.1=k
  ·rw [if_pos h,if_pos (q.1.trans h)]
   exact ⟨q.1,r⟩
  ·rw [if_neg h,if_neg λ z=>h (q.1.symm.trans z)]
   exact q
theorem zog {o i value:Expr} {pos pos':Pos} {td ty tv:TE} (ho:PE X o td) (hi:PE X i ty) (hv:PE X value tv) (hs:swapsWith value (some (.Subscript o i pos')) pos.line X.env=pure false) :
  PS X (.Assign [.Subscript o i pos'] value pos) (zqu X.prog X.w td ty tv) := .mk <| by
 intro pins s σ H D I h
 refine wpAny_Assign_Subscript (thn (hv pins s σ H _ I h) λ r0 s1 ⟨v,H1,I1,rv,q1⟩=>thn (ho pins s1 σ H1 _ I1 q1) λ u s2 ⟨x,H2,I2,rx,q2⟩=>thn (hi pins s2 σ H2 _ I2 q2) λ iv s3 ⟨y,H3,I3,ry,a,kvs,k,ex,ha,ey,hk,hl,kq⟩=>?_) hs
 subst ex ey
 cases rx
 obtain ⟨t,rfl⟩:=ry
 have tk:=(show ObjOk X.prog X.w H3 s3.heap a (tdO X.prog X.w a kvs) from I3.hok a _ ha).1
 obtain ⟨y0,us,r,d⟩:=id tk
 have ne0:kvs≠[]:=λ z=>by rw [z] at hk;cases hk
 have nd:∀ d es o,H3 d=some (dO X.prog X.w d es o)→d≠a:=λ d2 es o hd z=>by
  subst z
  exact za8 tk (show ObjOk X.prog X.w H3 s3.heap d2 (dO X.prog X.w d2 es o) from I3.hok d2 _ hd).1 ne0
 refine wpAny_setItem_pairs (hsz:=by rw [← Paired.length r];exact Nat.le_of_lt (Nat.lt_of_le_of_lt hl (by decide))) (knd:=strKind X.prog X.w) (beq_self_eq_true k) d λ h' dd' sb=>?_
 rw [show stored us k r0=us.map (λ e=>if e.1=k then (e.1,r0) else e) from if_pos (zkw r hk)] at dd'
 have he:∃ ob,h'.get? a=some ob:=let ⟨ob,_,_,hq,_⟩:=dd'; ⟨ob,hq⟩
 exact ⟨σ,_,I3.write (t':=_) (x:=a) (e:=a) (by rw [ha];exact True.intro) (.inl rfl) (λ b ob hb z=>(sb.2 b hb).trans z) he (zd4 y0 (zqw rv r) dd'),kq nd⟩
end
end L2
namespace L2
open PySem PySem.Spec PyProof.Rows PySem.NumText
noncomputable abbrev noO (led:Bool):Obj:={ cls := .type "set",dict:=none,data := .set #[] 0 (.fresh 0 0 led) }
section
variable {prog:Program} {w:World} {A:Around} {E:Value→Shared→Prop} {s:Shared}
set_option maxRecDepth 100000 in
set_option maxHeartbeats 3200000 in
theorem zah {l:Addr} {Q:Value→Shared→Prop} (hh:A.handled=none) (hl:s.heap.IsList l #[])
  (h:∀ (h':Heap) (tk:Nat),zbu h' s.heap.objs.size→(∀ b o,b<s.heap.objs.size→s.heap.get? b=some o→h'.get? b=some o)→Q (.ref s.heap.objs.size) { s with heap:=h',toks:=tk }) :
  wpAny (model prog w) A (call (.type "set") [.ref l]) Q E s:=by
 obtain ⟨c,tl,hmro⟩:=F.called_set.mro
 have hmade:=F.called_set.made
 have hsub:=F.called_set.sub
 refine wpAny_call (codeAny_of_tree ?_)
 show wpAny _ _ (callAny (.type "set") _) _ _ _
 refine wpAny_pure ⟨Code.quiet_builtin _ (by decide +kernel),codeAny_builtin F.entry_type_call ?_⟩
 rw [Around.under_plain (weight_type_call_type "set" [.ref l] []) rfl]
 have h1:=F.called_set.notType
 have h2:=F.called_set.canCreate
 have hct:=F.typeCall_set_1 (.ref l)
 repeat (any_goals (first | assumption | wp_step))
 refine codeAny_mono (zih (.ref l) (E:=E) (Q₁:=λ obj s₁=>∃ led:Bool,obj = .ref s.heap.objs.size∧s₁={ s with heap:=s.heap.push { cls := .type "set",dict:=none,data := .set #[] 0 (.fresh 0 0 led) } }) ⟨_,rfl,rfl⟩) λ r s₁ hr=>?_
 cases r with
 | error e=>exact hr
 | ok fl =>
  cases fl with
  | ret obj =>
   obtain ⟨led,rfl,rfl⟩:=hr
   have hS:(s.heap.push (noO led)).get? s.heap.objs.size=some (noO led):=Heap.get?_push_size _ rfl
   have hT:Shared.TypeIs { s with heap:=s.heap.push (noO led) } (.ref s.heap.objs.size) "set" := ⟨_,hS,rfl⟩
   have hli:=F.called_set.init.lookup
   have hbi:=F.called_set.init.bind (.ref s.heap.objs.size)
   repeat (any_goals (first | assumption | wp_step))
   refine codeAny_mono (codeAny_call_builtin (R:=wants (λ r s₂=>r = .none∧∃ h' tk,s₂={ s with heap:=h',toks:=tk }∧h'.get? s.heap.objs.size=some (noO led) ∧
     (∀ b o,b<s.heap.objs.size→s.heap.get? b=some o→h'.get? b=some o)) E) F.called_set.init.plain F.entry_set_init (check_set_init_1 hT ?_)) λ r₂ s₂ hr₂=>?_
   ·obtain ⟨ol,hol,hcl,nl,hdl⟩:=hl
    obtain ⟨ocls,odict,odata,oslots⟩:=ol
    simp only at hcl hdl
    subst hcl;subst hdl
    have hol':(s.heap.push (noO led)).get? l=some { cls := .type "list",dict:=odict,data := .seq #[] nl,slots:=oslots }:=Heap.get?_push_of_some _ hol
    have hsls:=F.sub_list_set
    have hslf:=F.sub_list_frozenset
    have hne:(Value.type "list" == Value.type "dict")=false:=by decide
    have hl1:(s.heap.push (noO led)).IsList l #[]:=⟨_,hol',rfl,nl,rfl⟩
    unfold Builtin.«set.__init__» noKeywords Builtin.Frozenset.updateFrom
    generalize hPI:pyIter=PI
    wp_walk
    subst hPI
    refine wpAny_pyIter_list hl1 ?_
    refine wpAny_bind (wpAny_runValue ?_)
    have hlS:l<s.heap.objs.size:=Heap.lt_size hol
    have hh3:A.in1.in1.in1.handled=none:=by simp [hh]
    have hneI:l≠(s.heap.push (noO led)).objs.size:=by
     rw [Heap.size_push];exact Nat.ne_of_lt (Nat.lt_succ_of_lt hlS)
    refine codeAny_builtin F.entry_set_update_loop ?_
    rw [Around.under_plainId F.plain_set_update_loop _]
    show wpAny _ _ (pyNext _ >>= _) _ _ _
    refine wpAny_bind (((Walks.list hh3 _ l hneI #[]).toS).done _ _ _ ⟨⟨_,Heap.get?_push_size _ rfl,rfl,rfl⟩,(hl1.push _)⟩ λ s' hm=>?_)
    obtain ⟨h',g',d',tk',os'⟩:=s'
    have eg:g'=s.gens:=hm.gens
    have ed:d'=s.drawn:=hm.drawn
    have eo:os'=s.os:=hm.os
    subst eg;subst ed;subst eo
    show wpAny _ _ (ret Value.none) _ _ _
    refine wpAny_pure ?_
    show wpAny _ _ _ _ _ _
    refine wpAny_pure ?_
    show wpAny _ _ (ret Value.none) _ _ _
    refine wpAny_pure ⟨rfl,h',tk',rfl,hm.heap _ _ ?_ (Heap.get?_push_of_some _ hS),λ b o hb e=>hm.heap b o ?_ (Heap.get?_push_of_some _ (Heap.get?_push_of_some _ e))⟩
    ·simp only [List.mem_cons,List.not_mem_nil,or_false]
     rw [Heap.size_push];exact Nat.ne_of_lt (Nat.lt_succ_self _)
    ·simp only [List.mem_cons,List.not_mem_nil,or_false]
     rw [Heap.size_push];exact Nat.ne_of_lt (Nat.lt_succ_of_lt hb)
   ·cases r₂ with
    | error e=>exact hr₂
    | ok fl₂ =>
     cases fl₂ with
     | ret r =>
      obtain ⟨rfl,h',tk,rfl,hS',hk'⟩:=hr₂
      repeat (any_goals (first | assumption | wp_step))
      exact h _ _ ⟨led,hS'⟩ hk'
     | _=>exact hr₂.elim
  | _=>exact hr.elim
theorem zjs {a:Addr} {x:Addr} {dx:PyData} {as:List Addr} {Q:Bool→Shared→Prop} (hs:zbu s.heap a) (rx:Reads s.heap (.ref x) dx as) (hd:dx.depth≤4) (ho:zuv dx=true) (hu:A.units+20<cLine)
  (h:∀ tk,s.toks≤tk→Q false { s with toks:=tk }):wpAny (model prog w) A (contains (.ref a) (.ref x)) Q E s:=by
 obtain ⟨led,ho2⟩:=hs
 have hT:s.TypeIs (.ref a) "set" := ⟨_,ho2,rfl⟩
 have fit:(SetTable.fresh 0 0 led).fits (#[]:Array (Int×Value)).size=true:=by cases led <;> rfl
 refine wpAny_contains_slot hT F.slot_set_contains (wpAny_call_entry F.slot_set_contains hT entry_set_contains ?_ (F.args_set_contains_2 _ _))
 unfold Builtin.«frozenset.__contains__» Builtin.Frozenset.withSetAsKey setContains
 refine wpAny_bind (wpAny_bind (wpAny_pure (wpAny_pure ?_)))
 dsimp only
 refine wpAny_bind (wpAny_tryCatch (wpAny_holding ?_))
 refine wpAny_bind (zas 4 dx _ _ s _ as hd rx ho (by show A.units+1+4<cLine;omega) _ λ tk htk=>?_)
 refine wpAny_bind ?_
 unfold setFind
 show wpAny _ _ (setFindIn a (.ref x) (zrf dx) (99999+1)) _ _ _
 unfold setFindIn
 refine wpAny_bind (wpAny_setState_of (s:={ s with toks:=tk }) ho2 rfl fit ?_)
 show wpAny _ _ (setSearchFrom a (.ref x) (zrf dx) false (99999+1) none >>= _) _ _ _
 unfold setSearchFrom
 refine wpAny_bind (wpAny_bind (wpAny_setState_of (s:={ s with toks:=tk }) ho2 rfl fit ?_))
 have gw:(SetTable.fresh 0 0 led).gaveWay=false:=by cases led <;> rfl
 have pb:∀ f:Nat→Int,(SetTable.fresh 0 0 led).probe f (zrf dx) ((none:Option SetTable.Probe).getD ((SetTable.fresh 0 0 led).probeStart (zrf dx)))=some (.empty ((SetTable.fresh 0 0 led).probeStart (zrf dx)).j none):=λ f=>by cases led <;> rfl
 dsimp only
 rw [gw,pb]
 exact wpAny_pure (wpAny_pure (wpAny_pure (wpAny_pure ⟨_,rfl,wpAny_truthy_bool (h tk htk)⟩)))
end
section
variable {X:Cx}
noncomputable def ze7 (K:W.Frag):List V→Hp→VK→Prop:=λ xs H Q=>∃ p:Addr,xs=[.ref p]∧SqL K H p []∧∀ a,H a=none→Q (.ref a) (upd H a (zuh a))
theorem zwp (hc:X.calm=true):zqk X (.type "set") (ze7 X.K):=by
 intro pins s σ H xs us Q I r h
 obtain ⟨p,rfl,hq,q⟩:=h
 obtain ⟨u,rfl,ru⟩:=zsm r
 cases ru
 obtain ⟨its,rv,pl,hz⟩:=I.list hq
 cases rv
 refine zah (I.ok.hd hc) pl.isList λ h' tk hS hk=>?_
 have hn:=I.hok.fresh (Nat.le_refl s.heap.objs.size)
 refine ⟨.ref s.heap.objs.size,_,I.laid (t':=tk) (o:=zuh s.heap.objs.size) (λ b ob e=>hk b ob (Heap.lt_size e) e) (Nat.le_refl _) ⟨hS,?_,?_⟩,rfl,q _ hn⟩
 ·obtain ⟨led,e⟩:=hS
  exact ⟨_,e⟩
 ·rintro h1 h2 ⟨led',e⟩ k
  exact ⟨led',k _ e⟩
noncomputable def rInE (K:W.Frag):R2:=λ x y H Q=>∃ (m:Mark) (q a:Addr),x = .ref q∧SqT K H q (mkV m)∧y = .ref a∧H a=some (zuh a)∧Q (.bl true) H
theorem zgq (hu:X.A.units+100<cLine):OpR X (compareOp .NotIn) (rInE X.K):=by
 intro pins s σ H x y v u Q I rx ry h
 obtain ⟨m,q,a,rfl,hm,rfl,ha,k⟩:=h
 cases ry
 cases rx
 obtain ⟨as,rr⟩:=DV.reads I _ _ _ (zjd hm) rfl
 show wpAny _ _ (do let b ← contains (.ref a) _;pure (Value.bool !b)) _ _ _
 refine wpAny_bind (zjs (I.hok a _ ha).1 rr (by show 1≤4;decide) rfl (by omega) λ tk htk=>?_)
 exact wpAny_pure ⟨.bl true,H,I.kept (t':=tk) (λ _ _ e=>e),rfl,k⟩
theorem zrm {K:W.Frag} (e:X.K=K) (hu:X.A.units+100<cLine):OpR X (compareOp .NotIn) (rInE K):=e ▸ zgq hu
end
end L2
local macro_rules | `(tactic| walk_at "rd") => `(tactic| repeat (first
 | refine ⟨_,rfl,?_⟩
 | refine ⟨_,_,rfl,rfl,?_⟩
 | refine ⟨(by show (0:Int)<_;decide),?_⟩
 | refine ⟨⟨by decide,by decide⟩,?_⟩
 | refine ⟨Or.inr ⟨by decide,by decide⟩,?_⟩
 | refine ⟨⟨by decide,by decide,by decide⟩,?_⟩
 | refine ⟨_,_,_,_,rfl,rfl,L2.SqL.of L2.upd_same,rfl,?_⟩
 | refine ⟨_,_,_,_,rfl,rfl,L2.SqL.of (by assumption),rfl,?_⟩))
namespace My
open PySem L2 PySem.Spec PyProof.Rows PySem.NumText
local macro_rules | `(tactic| walk_at "sc") => `(tactic| exact ⟨rfl,rfl,rfl,by decide +kernel,rfl,by decide +kernel,by decide +kernel⟩)
theorem sm1 {n:Nat} (h:n≤1000):n≤sizeLine:=Nat.le_of_lt (zrc h)
theorem ip_2:(0:Int)<2:=by decide
theorem ip_3:(0:Int)<3:=by decide
theorem ip_5:(0:Int)<5:=by decide
theorem ip_6:(0:Int)<6:=by decide
theorem ip_7:(0:Int)<7:=by decide
theorem zb7:(0:Int)<14:=by decide
theorem sz_0:0≤sizeLine:=by decide
theorem sz_1:1≤sizeLine:=by decide
theorem sz_2:2≤sizeLine:=by decide
theorem sz_3:3≤sizeLine:=by decide
noncomputable def top (i:Nat):Stmt:=PySem.Challenge.pw_twotabs_k35_window_saved.main.body.getD i (.Pass ⟨0,0,0,0⟩)
noncomputable abbrev zq3:Stmt:=top 11
noncomputable abbrev ze3:Stmt:=top 14
noncomputable abbrev zx2:Stmt:=top 13
noncomputable abbrev zd3:Stmt:=top 16
noncomputable abbrev zsz:Stmt:=top 17
noncomputable abbrev zs0:Stmt:=top 28
noncomputable abbrev s_q2:Stmt:=zoa (top 41) 0
noncomputable abbrev zn0:Stmt:=zoa (top 41) 1
noncomputable abbrev zi3:Stmt:=zoa (top 41) 2
noncomputable abbrev s_q6:Stmt:=zoa (top 41) 4
noncomputable abbrev zc5:Stmt:=zoa (top 41) 5
noncomputable abbrev zv2:Stmt:=zoa (top 41) 6
noncomputable abbrev s_q0:Stmt:=zoa (top 41) 8
noncomputable abbrev zt2:Stmt:=zoa (top 41) 7
noncomputable abbrev zp5:Stmt:=zoa (top 41) 9
noncomputable abbrev zhz:Stmt:=top 30
noncomputable abbrev ztz:Stmt:=top 29
noncomputable abbrev zt0:Stmt:=top 20
noncomputable abbrev zn1:Stmt:=top 21
noncomputable abbrev zoz:Stmt:=top 23
noncomputable abbrev zv0:Stmt:=top 19
noncomputable abbrev zjz:Stmt:=top 37
noncomputable abbrev s_q7:Stmt:=zoa (top 36) 0
noncomputable abbrev zk2:Stmt:=zoa (top 36) 3
noncomputable abbrev zvz:Stmt:=zoa (top 36) 2
noncomputable abbrev ze1:Stmt:=zoa (top 36) 1
noncomputable abbrev zf2:Stmt:=zoa (top 36) 4
noncomputable abbrev zs2:Stmt:=zoa (top 36) 5
noncomputable abbrev zc2:Stmt:=zoa (top 36) 7
noncomputable abbrev s_q1:Stmt:=zoa (top 39) 0
noncomputable abbrev zo1:Stmt:=zoa (top 39) 1
noncomputable abbrev s_q3:Stmt:=zoa (top 39) 2
noncomputable abbrev zuz:Stmt:=zoa (top 39) 3
noncomputable abbrev zb2:Stmt:=zoa (top 39) 4
noncomputable abbrev s_q4:Stmt:=zoa (top 39) 5
noncomputable abbrev s_q8:Stmt:=zoa (top 39) 9
noncomputable abbrev zkz:Stmt:=zoa (top 39) 6
noncomputable abbrev za1:Stmt:=zoa (top 39) 7
noncomputable abbrev s_q9:Stmt:=zoa (top 39) 8
noncomputable abbrev s_q5:Stmt:=zoa (top 39) 12
noncomputable abbrev zr5:Stmt:=zoa (top 39) 11
noncomputable abbrev zv1:Stmt:=top 43
noncomputable abbrev zi5:Stmt:=top 44
noncomputable abbrev zk5:Stmt:=top 45
noncomputable abbrev zp0:Stmt:=top 46
noncomputable abbrev zw3:Stmt:=top 47
noncomputable abbrev zl3:Stmt:=top 48
noncomputable abbrev zs4:Stmt:=top 49
noncomputable abbrev zm3:Stmt:=top 50
noncomputable abbrev znu:Stmt:=top 51
structure Adr where
 f_q40:Addr
 d_q40:FuncData
 f_q35:Addr
 d_q35:FuncData
 f_q43:Addr
 d_q43:FuncData
 f_q25:Addr
 d_q25:FuncData
 f_q44:Addr
 d_q44:FuncData
 f_q26:Addr
 d_q26:FuncData
 f_q2:Addr
 d_q2:FuncData
 f_q13:Addr
 d_q13:FuncData
 f_q18:Addr
 d_q18:FuncData
 f_q6:Addr
 d_q6:FuncData
 f_q30:Addr
 d_q30:FuncData
 f_q14:Addr
 d_q14:FuncData
 f_q0:Addr
 d_q0:FuncData
 f_q28:Addr
 d_q28:FuncData
 f_q15:Addr
 d_q15:FuncData
 f_q22:Addr
 d_q22:FuncData
 f_q36:Addr
 d_q36:FuncData
 f_put:Addr
 d_put:FuncData
 f_q46:Addr
 d_q46:FuncData
 f_q45:Addr
 d_q45:FuncData
 f_q47:Addr
 d_q47:FuncData
 f_q37:Addr
 d_q37:FuncData
 f_q7:Addr
 d_q7:FuncData
 f_q27:Addr
 d_q27:FuncData
 f_q32:Addr
 d_q32:FuncData
 f_q41:Addr
 d_q41:FuncData
 f_q39:Addr
 d_q39:FuncData
 f_q31:Addr
 d_q31:FuncData
 f_q17:Addr
 d_q17:FuncData
 f_q1:Addr
 d_q1:FuncData
 f_q24:Addr
 d_q24:FuncData
 f_q3:Addr
 d_q3:FuncData
 f_q12:Addr
 d_q12:FuncData
 f_q11:Addr
 d_q11:FuncData
 f_q4:Addr
 d_q4:FuncData
 f_q8:Addr
 d_q8:FuncData
 f_q20:Addr
 d_q20:FuncData
 f_q21:Addr
 d_q21:FuncData
 f_q9:Addr
 d_q9:FuncData
 f_q5:Addr
 d_q5:FuncData
 f_q10:Addr
 d_q10:FuncData
 f_q16:Addr
 d_q16:FuncData
 f_q19:Addr
 d_q19:FuncData
 f_q29:Addr
 d_q29:FuncData
 f_q42:Addr
 d_q42:FuncData
 f_q23:Addr
 d_q23:FuncData
 f_q34:Addr
 d_q34:FuncData
 f_q38:Addr
 d_q38:FuncData
 f_q33:Addr
 d_q33:FuncData
 f_law:Addr
 d_law:FuncData
 Log:Addr
 NoDeed:Addr
 NoPiece:Addr
 NoRoom:Addr
 NoSheet:Addr
 NoWords:Addr
 Sheet:Addr
 Window:Addr
 DEEDS:Addr
 v_DEEDS_move:Value
 v_DEEDS_part:Value
 v_DEEDS_join:Value
 v_DEEDS_carry:Value
structure Txt (w:World) (K:W.Frag) (mg:Str→Option Value) (A:Adr):Prop where
 F_q40:Fun K "is_words" "is_words" zq3 A.f_q40 A.d_q40
 g_q40:mg "is_words" = some (.ref A.f_q40)
 k_q40:W.keepIn K (.ref A.f_q40)=true
 b_q40:Binds K A.d_q40 ["text"] []
 F_q35:Fun K "free_rank" "free_rank" ze3 A.f_q35 A.d_q35
 g_q35:mg "free_rank" = some (.ref A.f_q35)
 k_q35:W.keepIn K (.ref A.f_q35)=true
 b_q35:Binds K A.d_q35 ["low", "high"] []
 F_q43:Fun K "between" "between" zx2 A.f_q43 A.d_q43
 g_q43:mg "between" = some (.ref A.f_q43)
 k_q43:W.keepIn K (.ref A.f_q43)=true
 b_q43:Binds K A.d_q43 ["low", "high", "window", "count"] []
 F_q25:Fun K "out_version" "out_version" zd3 A.f_q25 A.d_q25
 g_q25:mg "out_version" = some (.ref A.f_q25)
 k_q25:W.keepIn K (.ref A.f_q25)=true
 b_q25:Binds K A.d_q25 ["beat"] []
 F_q44:Fun K "is_in" "is_in" zsz A.f_q44 A.d_q44
 g_q44:mg "is_in" = some (.ref A.f_q44)
 k_q44:W.keepIn K (.ref A.f_q44)=true
 b_q44:Binds K A.d_q44 ["version"] []
 F_q26:Fun K "check_words" "check_words" zs0 A.f_q26 A.d_q26
 g_q26:mg "check_words" = some (.ref A.f_q26)
 k_q26:W.keepIn K (.ref A.f_q26)=true
 b_q26:Binds K A.d_q26 ["words"] []
 F_q2:Fun K "__init__" "Sheet.__init__" s_q2 A.f_q2 A.d_q2
 b_q2:Binds K A.d_q2 ["self", "pairs"] []
 mk_Sheet:Mk K A.Sheet A.f_q2
 F_q13:Fun K "pairs" "Sheet.pairs" zn0 A.f_q13 A.d_q13
 b_q13:Binds K A.d_q13 ["self"] []
 m_q13:Meth K A.Sheet "pairs" A.f_q13
 F_q18:Fun K "lines" "Sheet.lines" zi3 A.f_q18 A.d_q18
 b_q18:Binds K A.d_q18 ["self"] []
 m_q18:Meth K A.Sheet "lines" A.f_q18
 F_q6:Fun K "version" "Sheet.version" s_q6 A.f_q6 A.d_q6
 b_q6:Binds K A.d_q6 ["self", "mark"] []
 m_q6:Meth K A.Sheet "version" A.f_q6
 F_q30:Fun K "has" "Sheet.has" zc5 A.f_q30 A.d_q30
 b_q30:Binds K A.d_q30 ["self", "mark"] []
 m_q30:Meth K A.Sheet "has" A.f_q30
 F_q14:Fun K "piece" "Sheet.piece" zv2 A.f_q14 A.d_q14
 b_q14:Binds K A.d_q14 ["self", "mark"] []
 m_q14:Meth K A.Sheet "piece" A.f_q14
 F_q0:Fun K "next_place" "Sheet.next_place" s_q0 A.f_q0 A.d_q0
 b_q0:Binds K A.d_q0 ["self", "low", "aside"] []
 m_q0:Meth K A.Sheet "next_place" A.f_q0
 F_q28:Fun K "gap" "Sheet.gap" zt2 A.f_q28 A.d_q28
 b_q28:Binds K A.d_q28 ["self", "behind", "aside"] []
 m_q28:Meth K A.Sheet "gap" A.f_q28
 F_q15:Fun K "given" "Sheet.given" zp5 A.f_q15 A.d_q15
 b_q15:Binds K A.d_q15 ["self", "pairs"] []
 m_q15:Meth K A.Sheet "given" A.f_q15
 F_q22:Fun K "place_behind" "place_behind" zhz A.f_q22 A.d_q22
 g_q22:mg "place_behind" = some (.ref A.f_q22)
 k_q22:W.keepIn K (.ref A.f_q22)=true
 b_q22:Binds K A.d_q22 ["sheet", "behind", "aside", "maker"] []
 F_q36:Fun K "new_piece" "new_piece" ztz A.f_q36 A.d_q36
 g_q36:mg "new_piece" = some (.ref A.f_q36)
 k_q36:W.keepIn K (.ref A.f_q36)=true
 b_q36:Binds K A.d_q36 ["sheet", "behind", "words", "beat", "maker"] []
 F_put:Fun K "put" "put" zt0 A.f_put A.d_put
 g_put:mg "put" = some (.ref A.f_put)
 k_put:W.keepIn K (.ref A.f_put)=true
 b_put:Binds K A.d_put ["sheet", "deed", "beat", "maker"] []
 F_q46:Fun K "take" "take" zn1 A.f_q46 A.d_q46
 g_q46:mg "take" = some (.ref A.f_q46)
 k_q46:W.keepIn K (.ref A.f_q46)=true
 b_q46:Binds K A.d_q46 ["sheet", "deed", "beat", "maker"] []
 F_q45:Fun K "write" "write" zoz A.f_q45 A.d_q45
 g_q45:mg "write" = some (.ref A.f_q45)
 k_q45:W.keepIn K (.ref A.f_q45)=true
 b_q45:Binds K A.d_q45 ["sheet", "deed", "beat", "maker"] []
 F_q47:Fun K "done" "done" zv0 A.f_q47 A.d_q47
 g_q47:mg "done" = some (.ref A.f_q47)
 k_q47:W.keepIn K (.ref A.f_q47)=true
 b_q47:Binds K A.d_q47 ["sheet", "deed", "beat", "window", "count"] []
 F_q37:Fun K "last_over" "last_over" zjz A.f_q37 A.d_q37
 g_q37:mg "last_over" = some (.ref A.f_q37)
 k_q37:W.keepIn K (.ref A.f_q37)=true
 b_q37:Binds K A.d_q37 ["entries", "others"] []
 F_q7:Fun K "__init__" "Log.__init__" s_q7 A.f_q7 A.d_q7
 b_q7:Binds K A.d_q7 ["self"] []
 mk_Log:Mk K A.Log A.f_q7
 F_q27:Fun K "forget" "Log.forget" zk2 A.f_q27 A.d_q27
 b_q27:Binds K A.d_q27 ["self"] []
 m_q27:Meth K A.Log "forget" A.f_q27
 F_q32:Fun K "empty" "Log.empty" zvz A.f_q32 A.d_q32
 b_q32:Binds K A.d_q32 ["self"] []
 m_q32:Meth K A.Log "empty" A.f_q32
 F_q41:Fun K "add" "Log.add" ze1 A.f_q41 A.d_q41
 b_q41:Binds K A.d_q41 ["self", "entry"] []
 m_q41:Meth K A.Log "add" A.f_q41
 F_q39:Fun K "undo" "Log.undo" zf2 A.f_q39 A.d_q39
 b_q39:Binds K A.d_q39 ["self"] []
 m_q39:Meth K A.Log "undo" A.f_q39
 F_q31:Fun K "again" "Log.again" zs2 A.f_q31 A.d_q31
 b_q31:Binds K A.d_q31 ["self"] []
 m_q31:Meth K A.Log "again" A.f_q31
 F_q17:Fun K "touched" "Log.touched" zc2 A.f_q17 A.d_q17
 b_q17:Binds K A.d_q17 ["self"] []
 m_q17:Meth K A.Log "touched" A.f_q17
 F_q1:Fun K "__init__" "Window.__init__" s_q1 A.f_q1 A.d_q1
 b_q1:Binds K A.d_q1 ["self", "number", "base", "sheet", "count"] []
 mk_Window:Mk K A.Window A.f_q1
 F_q24:Fun K "base" "Window.base" zo1 A.f_q24 A.d_q24
 b_q24:Binds K A.d_q24 ["self"] []
 m_q24:Meth K A.Window "base" A.f_q24
 F_q3:Fun K "counted" "Window.counted" s_q3 A.f_q3 A.d_q3
 b_q3:Binds K A.d_q3 ["self"] []
 m_q3:Meth K A.Window "counted" A.f_q3
 F_q12:Fun K "draft" "Window.draft" zuz A.f_q12 A.d_q12
 b_q12:Binds K A.d_q12 ["self"] []
 m_q12:Meth K A.Window "draft" A.f_q12
 F_q11:Fun K "lines" "Window.lines" zb2 A.f_q11 A.d_q11
 b_q11:Binds K A.d_q11 ["self"] []
 m_q11:Meth K A.Window "lines" A.f_q11
 F_q4:Fun K "unsaved" "Window.unsaved" s_q4 A.f_q4 A.d_q4
 b_q4:Binds K A.d_q4 ["self"] []
 m_q4:Meth K A.Window "unsaved" A.f_q4
 F_q8:Fun K "gives" "Window.gives" s_q8 A.f_q8 A.d_q8
 b_q8:Binds K A.d_q8 ["self", "pairs"] []
 m_q8:Meth K A.Window "gives" A.f_q8
 F_q20:Fun K "does" "Window.does" zkz A.f_q20 A.d_q20
 b_q20:Binds K A.d_q20 ["self", "deed", "beat"] []
 m_q20:Meth K A.Window "does" A.f_q20
 F_q21:Fun K "undo" "Window.undo" za1 A.f_q21 A.d_q21
 b_q21:Binds K A.d_q21 ["self"] []
 m_q21:Meth K A.Window "undo" A.f_q21
 F_q9:Fun K "again" "Window.again" s_q9 A.f_q9 A.d_q9
 b_q9:Binds K A.d_q9 ["self"] []
 m_q9:Meth K A.Window "again" A.f_q9
 F_q5:Fun K "lies_on" "Window.lies_on" s_q5 A.f_q5 A.d_q5
 b_q5:Binds K A.d_q5 ["self", "save", "sheet"] []
 m_q5:Meth K A.Window "lies_on" A.f_q5
 F_q10:Fun K "saved" "Window.saved" zr5 A.f_q10 A.d_q10
 b_q10:Binds K A.d_q10 ["self", "save", "sheet"] []
 m_q10:Meth K A.Window "saved" A.f_q10
 F_q16:Fun K "_law_cell_at" "_law_cell_at" zv1 A.f_q16 A.d_q16
 g_q16:mg "_law_cell_at" = some (.ref A.f_q16)
 k_q16:W.keepIn K (.ref A.f_q16)=true
 b_q16:Binds K A.d_q16 ["_law_script", "_law_k"] []
 F_q19:Fun K "_law_refused" "_law_refused" zi5 A.f_q19 A.d_q19
 g_q19:mg "_law_refused" = some (.ref A.f_q19)
 k_q19:W.keepIn K (.ref A.f_q19)=true
 b_q19:Binds K A.d_q19 ["_law_window", "_law_back_here"] []
 F_q29:Fun K "_law_saved" "_law_saved" zk5 A.f_q29 A.d_q29
 g_q29:mg "_law_saved" = some (.ref A.f_q29)
 k_q29:W.keepIn K (.ref A.f_q29)=true
 b_q29:Binds K A.d_q29 ["_law_window", "_law_k", "_law_cell"] []
 F_q42:Fun K "_law_put" "_law_put" zp0 A.f_q42 A.d_q42
 g_q42:mg "_law_put" = some (.ref A.f_q42)
 k_q42:W.keepIn K (.ref A.f_q42)=true
 b_q42:Binds K A.d_q42 ["_law_window", "_law_k", "_law_cell"] []
 F_q23:Fun K "_law_changed" "_law_changed" zw3 A.f_q23 A.d_q23
 g_q23:mg "_law_changed" = some (.ref A.f_q23)
 k_q23:W.keepIn K (.ref A.f_q23)=true
 b_q23:Binds K A.d_q23 ["_law_window", "_law_k", "_law_cell"] []
 F_q34:Fun K "_law_back" "_law_back" zl3 A.f_q34 A.d_q34
 g_q34:mg "_law_back" = some (.ref A.f_q34)
 k_q34:W.keepIn K (.ref A.f_q34)=true
 b_q34:Binds K A.d_q34 ["_law_window", "_law_kept"] []
 F_q38:Fun K "_law_step" "_law_step" zs4 A.f_q38 A.d_q38
 g_q38:mg "_law_step" = some (.ref A.f_q38)
 k_q38:W.keepIn K (.ref A.f_q38)=true
 b_q38:Binds K A.d_q38 ["_law_window", "_law_kept", "_law_k", "_law_cell"] []
 F_q33:Fun K "_law_mixed" "_law_mixed" zm3 A.f_q33 A.d_q33
 g_q33:mg "_law_mixed" = some (.ref A.f_q33)
 k_q33:W.keepIn K (.ref A.f_q33)=true
 b_q33:Binds K A.d_q33 ["_law_cell", "_law_k"] []
 F_law:Fun K "law" "law" znu A.f_law A.d_law
 g_law:mg "law" = some (.ref A.f_law)
 k_law:W.keepIn K (.ref A.f_law)=true
 b_law:Binds K A.d_law ["_law_script"] []
 g_Log:mg "Log" = some (.ref A.Log)
 cl_Log:Cls K A.Log
 na_Log_standing:NoAttr K A.Log "standing"
 na_Log_undone:NoAttr K A.Log "undone"
 g_NoDeed:mg "NoDeed" = some (.ref A.NoDeed)
 x_NoDeed:XCls K A.NoDeed
 g_NoPiece:mg "NoPiece" = some (.ref A.NoPiece)
 x_NoPiece:XCls K A.NoPiece
 g_NoRoom:mg "NoRoom" = some (.ref A.NoRoom)
 x_NoRoom:XCls K A.NoRoom
 g_NoSheet:mg "NoSheet" = some (.ref A.NoSheet)
 x_NoSheet:XCls K A.NoSheet
 g_NoWords:mg "NoWords" = some (.ref A.NoWords)
 x_NoWords:XCls K A.NoWords
 g_Sheet:mg "Sheet" = some (.ref A.Sheet)
 cl_Sheet:Cls K A.Sheet
 na_Sheet_versions:NoAttr K A.Sheet "versions"
 g_Window:mg "Window" = some (.ref A.Window)
 cl_Window:Cls K A.Window
 na_Window_number:NoAttr K A.Window "number"
 na_Window_base_save:NoAttr K A.Window "base_save"
 na_Window_base_sheet:NoAttr K A.Window "base_sheet"
 na_Window_draft_sheet:NoAttr K A.Window "draft_sheet"
 na_Window_last_count:NoAttr K A.Window "last_count"
 na_Window_log:NoAttr K A.Window "log"
 g_DEEDS:mg "DEEDS" = some (.ref A.DEEDS)
 t_DEEDS:DcK w K A.DEEDS [("put",.ref A.f_put),("take",.ref A.f_q46),("move",A.v_DEEDS_move),("write",.ref A.f_q45),("part",A.v_DEEDS_part),("join",A.v_DEEDS_join),("carry",A.v_DEEDS_carry)]
 mro_NoDeed:W.mroIn K A.NoDeed (.ref A.NoDeed)=some true
 n_dict:mg "dict" = none
 n_enumerate:mg "enumerate" = none
 n_len:mg "len" = none
 n_list:mg "list" = none
 n_min:mg "min" = none
 n_range:mg "range" = none
 n_set:mg "set" = none
 n_sorted:mg "sorted" = none
noncomputable def sp_law (K:W.Frag):Sp:=λ vs H Q _=>∃ (a:Addr) (ns:List Int),vs=[.ref a]∧SqL K H a (ns.map V.int)∧ns.length≤63∧(∀ H',Q (.bl true) H')∧Plain H
noncomputable def hasS (z t:Str):Bool := !(Builtin.Str.occurrences t z 0 t.length 1).isEmpty
noncomputable def zpb (z:Str):Bool:=(!hasS "\n" z) && (!hasS "\t" z)
theorem zu6 {p:Prop} [Decidable p] {A B:Prop} (h:¬ p) (b:B):if decide p=true then A else B:=by rw [decide_eq_false h];exact iteF b
theorem zj6 {p:Prop} [Decidable p] {A B:Prop} (h:p) (a:A):if decide p=true then A else B:=by rw [decide_eq_true h];exact iteT a
theorem zf6 {p:Prop} [Decidable p] {A B:Prop} (h:¬ p) (a:A):if (!decide p)=true then A else B:=by rw [decide_eq_false h];exact iteT a
theorem zul {K:W.Frag} {H:Hp} {t:Addr} (h:H t=some (.tup [])):DV K H (plc []) (.ref t):=⟨t,[],rfl,SqT.of h,rfl⟩
noncomputable def zn7 (K:W.Frag):Sp:=zy1 (λ (v:Ver) vs H=>∃ x,vs=[x]∧DV K H (ver v) x) (λ v r _=>r = .bl (!decide (v.2.1=[]))) (λ _ _=>False)
theorem Plain.ins {H:Hp} {l C dx:Addr} {fs:List (Str×V)} (p:Plain H):Plain (upd H l (.ins C dx fs)):=p.upd trivial
theorem Plain.ext {H:Hp} {l:Addr} {φ:Heap→Prop} (p:Plain H):Plain (upd H l (.ext φ)):=p.upd trivial
theorem zxq {K:W.Frag} {H:Hp} {p C dx:Addr} {fs fs':List (Str×V)} {a:Addr} {xs:List V} (hp:H p=some (.ins C dx fs)) (h:SqT K H a xs):SqT K (upd H p (.ins C dx fs')) a xs:=by
 rcases h with (h | ⟨o,h⟩) | h
 ·exact .inl (.inl (by rw [zha (zxd h hp (by intro z;cases z))];exact h))
 ·exact .inl (.inr ⟨o,by rw [zha (zxd h hp (by intro z;cases z))];exact h⟩)
 ·exact .inr h
mutual
theorem zey {K:W.Frag} {H:Hp} {p C dx:Addr} {fs fs':List (Str×V)} (hp:H p=some (.ins C dx fs)):∀ (d:PyData) (v:V),noL d=true→DV K H d v→DV K (upd H p (.ins C dx fs')) d v
 | .none,v,_,h=>h
 | .bool b,v,_,h=>h
 | .int i,v,_,h=>h
 | .str x,v,_,h=>h
 | .list xs,v,n,_=>by cases n
 | .tuple xs,v,n,⟨a,vs,h1,h2,h3⟩=>⟨a,vs,h1,zxq hp h2,zir hp xs vs n h3⟩
 | .dict _,v,_,h=>h.elim
theorem zir {K:W.Frag} {H:Hp} {p C dx:Addr} {fs fs':List (Str×V)} (hp:H p=some (.ins C dx fs)):∀ (ds:List PyData) (vs:List V),noLs ds=true→DVs K H ds vs→DVs K (upd H p (.ins C dx fs')) ds vs
 | [],vs,_,h=>h
 | d::ds,vs,n,⟨v,r,h1,h2,h3⟩=>by
  have n:noL d=true∧noLs ds=true:=by rw [noLs,Bool.and_eq_true] at n;exact n
  exact ⟨v,r,h1,zey hp d v n.1 h2,zir hp ds r n.2 h3⟩
end
theorem zm2 {K:W.Frag} {H:Hp} {m:Mark×Ver} {y:V} (h:DV K H (prD m) y):∃ t q x,y = .ref t∧SqT K H t [.ref q,x]∧SqT K H q (mkV m.1)∧DV K H (ver m.2) x:=by
 obtain ⟨t,vs,rfl,ht,x1,r1,rfl,e1,x2,r2,rfl,e2,e3⟩:=h
 cases (show r2=[] from e3)
 obtain ⟨q,rfl,hq⟩:=zte e1
 exact ⟨t,q,x2,rfl,ht,hq,e2⟩
theorem uniq {α:Type} {r:α→α→Prop} (as:∀ a b,r a b→r b a→False):∀ {l1 l2:List α},l1.Perm l2→l1.Pairwise r→l2.Pairwise r→l1=l2
 | [],l2,p,_,_=>(List.nil_perm.mp p).symm
 | a::l1,[],p,_,_=>absurd p.symm.nil_eq (by simp)
 | a::l1,b::l2,p,h1,h2=>by
  have h1':=List.pairwise_cons.mp h1
  have h2':=List.pairwise_cons.mp h2
  by_cases e:a=b
  ·subst e
   rw [uniq as ((List.perm_cons a).mp p) h1'.2 h2'.2]
  ·have m1:a∈l2:=by
    rcases List.mem_cons.mp (p.mem_iff.mp List.mem_cons_self) with z | z
    ·exact absurd z e
    ·exact z
   have m2:b∈l1:=by
    rcases List.mem_cons.mp (p.mem_iff.mpr List.mem_cons_self) with z | z
    ·exact absurd z.symm e
    ·exact z
   exact absurd (h2'.1 a m1) (λ z=>as _ _ (h1'.1 b m2) z)
theorem zlj {ms:Sh} {m:Mark} (h:m∉ms.map (·.1)):look ms m=none:=by
 induction ms with
 | nil=>rfl
 | cons a ms ih =>
  unfold look
  rw [if_neg (λ z=>h (by rw [← z];exact List.mem_cons_self))]
  exact ih λ z=>h (List.mem_cons_of_mem _ z)
theorem zap {ns ms:Sh} (p:ns.Perm ms) (nd:(ms.map (·.1)).Nodup) (m:Mark):look ns m=look ms m:=by
 have ndn:(ns.map (·.1)).Nodup:=(p.map (·.1)).nodup_iff.mpr nd
 by_cases h:m∈ms.map (·.1)
 ·obtain ⟨x,hx,rfl⟩:=List.mem_map.mp h
  rw [zhb nd hx,zhb ndn (p.mem_iff.mpr hx)]
 ·rw [zlj h,zlj λ z=>h ((p.map (·.1)).mem_iff.mp z)]
theorem zin:∀ (ms:Sh),(∀ m∈ms,okV m.2)→PyData.canLayAll0 (ms.map prD)=true∧PyData.depthAll (ms.map prD)≤30
 | [],_=>⟨rfl,Nat.zero_le _⟩
 | m::ms,h=>by
  obtain ⟨h1,h2⟩:=zin ms λ x hx=>h x (List.mem_cons_of_mem _ hx)
  have h3:=zvd (m:=m) (h m List.mem_cons_self)
  unfold SeqAt.shaped at h3
  rw [Bool.and_eq_true] at h3
  refine ⟨?_,?_⟩
  ·show (PyData.canLay0 (prD m) && PyData.canLayAll0 (ms.map prD))=true
   rw [h3.1,h1]
   rfl
  ·show max (PyData.depth (prD m)) (PyData.depthAll (ms.map prD))≤30
   have h4:PyData.depth (prD m)=max 1 (max (max 0 (max (PyData.depthAll (m.2.2.1.map stp)+1) (max 0 0))+1) 0)+1:=rfl
   have:=zsb m.2.2.1
   omega
theorem ztc {ms:Sh} (h:∀ m∈ms,okV m.2):SeqAt.shaped (.list (ms.map prD))=true:=by
 obtain ⟨h1,h2⟩:=zin ms h
 unfold SeqAt.shaped
 rw [show PyData.canLay0 (.list (ms.map prD))=true from h1,Bool.true_and]
 refine decide_eq_true ?_
 show PyData.depthAll (ms.map prD)+1≤64
 omega
theorem zq1 {α β:Type} {ok G:α→β→Prop} {C:Prop} (h1:(∀ y z,ok y z→G y z)→C) (h2:∀ y z,ok y z→G y z):C:=h1 h2
noncomputable def zi2 (P:Program) (w:World) (K:W.Frag) (C NS:Addr):Sp:=λ vs H Q E=>Plain H∧∃ (p dx l:Addr) (ws:List V) (ms:Sh),vs=[.ref p,.ref l]∧H p=some (.ins C dx [])∧SqL K H l ws∧DVs K H (ms.map prD) ws∧(∀ m∈ms,okV m.2)∧ms.length<64 ∧
 ((ms.map (·.1)).Nodup→∀ H',(∀ b o,b≠p→H b=some o→H' b=some o)→ShAt P w K C H' p ms→Plain H'→Q .non H')∧(¬ (ms.map (·.1)).Nodup→∀ H',(∀ b o,b≠p→H b=some o→H' b=some o)→Plain H'→E (.ref NS) none H')
noncomputable def zdz (P:Program) (w:World) (K:W.Frag) (C:Addr):Sp:=λ vs H Q _=>Plain H∧∃ (p:Addr) (ms:Sh),vs=[.ref p]∧ShAt P w K C H p ms∧∀ (H':Hp) (l:Addr) (bs:Sh) (ws:List V),H l=none→Same H H'→Plain H'→H' l=some (.lst ws)→bs.Perm ms→bs.Pairwise (λ a b=>mLt a.1 b.1=true)→DVs K H' (bs.map prD) ws→Q (.ref l) H'
noncomputable def zg5 (P:Program) (w:World) (K:W.Frag) (C:Addr):Sp:=λ vs H Q _=>Plain H∧∃ (p q:Addr) (m:Mark) (ms:Sh),vs=[.ref p,.ref q]∧ShAt P w K C H p ms∧SqT K H q (mkV m)∧∀ x,DV K H (vdat (look ms m)) x→Q x H
noncomputable def hasB (ms:Sh) (m:Mark):Bool:=match look ms m with
 | none=>false
 | some v => !decide (v.2.1=[])
noncomputable def zl1 (P:Program) (w:World) (K:W.Frag) (C:Addr):Sp:=λ vs H Q _=>Plain H∧∃ (p:Addr) (ms:Sh),vs=[.ref p]∧ShAt P w K C H p ms∧∀ (H':Hp) (l:Addr) (bs:List Mark) (ws:List V),H l=none→Same H H'→Plain H'→H' l=some (.lst ws)→bs.Perm (zhd ms)→bs.Pairwise (λ a b=>lnLt ms a b=true)→DVs K H' (bs.map (lnD ms)) ws→Q (.ref l) H'
noncomputable def zk4 (P:Program) (w:World) (K:W.Frag) (C:Addr):Sp:=λ vs H Q _=>Plain H∧∃ (p q:Addr) (m:Mark) (ms:Sh),vs=[.ref p,.ref q]∧ShAt P w K C H p ms∧SqT K H q (mkV m)∧∀ H',Same H H'→Plain H'→Q (.bl (hasB ms m)) H'
noncomputable def zpk (ms:Sh) (low:List Stp) (as:List Mark) (k:Mark):Bool := !decide (k∈as) && pLt low (vOf ms k).2.1
noncomputable def zwe (ms:Sh) (low:List Stp) (as:List Mark):List (List Stp):=((ms.map (·.1)).filter (zpk ms low as)).map λ k=>(vOf ms k).2.1
noncomputable def zdo (hs:List (List Stp)):Option (List Stp)→Prop
 | none=>hs=[]
 | some r=>r∈hs∧∀ q∈hs,r=q ∨ pLt r q=true
noncomputable def hiD:Option (List Stp)→PyData
 | none=>.none
 | some r=>plc r
noncomputable def gapD (low:List Stp) (o:Option (List Stp)):PyData := .tuple [plc low,hiD o]
noncomputable def zth (ms:Sh):Option Mark→Option (List Stp)
 | none=>some []
 | some m=>if hasB ms m=true then some (vOf ms m).2.1 else none
noncomputable def markV (K:W.Frag) (H:Hp):Option Mark→V→Prop
 | none,v=>v = .non
 | some m,v=>∃ q,v = .ref q∧SqT K H q (mkV m)
theorem markV.same {K:W.Frag} {H H':Hp} (s:Same H H'):∀ {o:Option Mark} {v:V},markV K H o v→markV K H' o v
 | none,v,h=>h
 | some m,v,⟨q,e,h⟩=>⟨q,e,s.seqT h⟩
noncomputable def zj3 (P:Program) (w:World) (K:W.Frag) (A:Adr):Sp:=λ vs H Q E=>Plain H∧∃ (p q:Addr) (m:Mark) (ms:Sh),vs=[.ref p,.ref q]∧ShAt P w K A.Sheet H p ms∧SqT K H q (mkV m)∧(hasB ms m=true→∀ x H',Same H H'→Plain H'→DV K H' (ver (vOf ms m)) x→Q x H')∧(hasB ms m=false→∀ H',Same H H'→Plain H'→E (.ref A.NoPiece) none H')
noncomputable def zd9 (P:Program) (w:World) (K:W.Frag) (A:Adr):Sp:=λ vs H Q _=>Plain H∧∃ (p:Addr) (ms:Sh) (low:List Stp) (lv:V) (a:Addr) (ys:List V) (as:List Mark),vs=[.ref p,lv,.ref a]∧ShAt P w K A.Sheet H p ms∧DV K H (plc low) lv∧SqL K H a ys∧DVs K H (as.map markD) ys∧as.length<1∧∀ o v H',Same H H'→Plain H'→zdo (zwe ms low as) o→DV K H' (hiD o) v→Q v H'
noncomputable def zgz (P:Program) (w:World) (K:W.Frag) (A:Adr):Sp:=λ vs H Q E=>Plain H∧∃ (p:Addr) (ms:Sh) (bo:Option Mark) (bv:V) (a:Addr) (ys:List V) (as:List Mark),vs=[.ref p,bv,.ref a]∧ShAt P w K A.Sheet H p ms∧markV K H bo bv∧SqL K H a ys∧DVs K H (as.map markD) ys∧as.length<1 ∧
 (∀ low,zth ms bo=some low→∀ o t H',Same H H'→Plain H'→zdo (zwe ms low as) o→DV K H' (gapD low o) t→Q t H')∧(zth ms bo=none→∀ H',Same H H'→Plain H'→E (.ref A.NoPiece) none H')
theorem zns {K:W.Frag} {H:Hp} {es:List Ent} {ms:Sh} (he:EnS K H es ms) (low:List Stp) (as:List Mark):(es.filter λ e=>zpk ms low as e.1).map (λ e=>(vOf ms e.1).2.1)=zwe ms low as:=by
 unfold zwe
 rw [← zjb he,List.filter_map,List.map_map]
 rfl
theorem ziv (a:List Stp):pLt a []=false:=by cases a <;> rfl
noncomputable def HV (K:W.Frag) (H:Hp):Option (List Stp)→V→Prop
 | none,v=>v = .non
 | some h,v=>DV K H (plc h) v
noncomputable def zeo (low:List Stp):Option (List Stp)→Int
 | none=>0
 | some h=>if h.take low.length=low then ((h[low.length]?).getD (0,0,0)).1 - 1 else 0
noncomputable def zpy (low:List Stp) (high:Option (List Stp)):Prop:=∀ h,high=some h→pLt low h=true
theorem zcf {α:Type} [DecidableEq α] (lt:α→α→Bool):∀ xs:List α,lexG lt xs xs=false
 | []=>rfl
 | x::xs=>by rw [lexG,if_pos rfl];exact zcf lt xs
theorem zbk {α:Type} [DecidableEq α] (lt:α→α→Bool) (t:α):∀ xs:List α,lexG lt xs (xs++[t])=true
 | []=>rfl
 | x::xs=>by rw [List.cons_append,lexG,if_pos rfl];exact zbk lt t xs
theorem zak {α:Type} [DecidableEq α] (lt:α→α→Bool) (ts:List α):∀ xs ys:List α,lexG lt xs ys=true→ys.take xs.length≠xs→lexG lt (xs++ts) ys=true
 | [],ys,_,h=>absurd rfl h
 | x::xs,[],h,_=>by cases h
 | x::xs,y::ys,h,hn=>by
  rw [List.cons_append]
  rw [lexG] at h ⊢
  by_cases e:x=y
  ·rw [if_pos e] at h ⊢
   refine zak lt ts xs ys h λ z=>hn ?_
   rw [List.length_cons,List.take_succ_cons,z,e]
  ·rw [if_neg e] at h ⊢
   exact h
theorem zmf {α:Type} [DecidableEq α] (lt:α→α→Bool) (a b:List α):∀ xs:List α,lexG lt (xs++a) (xs++b)=lexG lt a b
 | []=>rfl
 | x::xs=>by rw [List.cons_append,List.cons_append,lexG,if_pos rfl];exact zmf lt a b xs
theorem zvu {low h:List Stp} (hp:pLt low h=true) (ht:h.take low.length=low):∃ s r,h=low++s::r:=by
 have e:low++h.drop low.length=h:=by
  have:=List.take_append_drop low.length h
  rw [ht] at this
  exact this
 cases hd:h.drop low.length with
 | nil =>
  rw [hd,List.append_nil] at e
  subst e
  have e2:=zcf sLt low
  rw [show pLt low low=lexG sLt low low from rfl,e2] at hp
  cases hp
 | cons s r=>exact ⟨s,r,by rw [← e,hd]⟩
theorem ze8 (s:Stp) (w c:Int):lexG sLt [(s.1 - 1,w,c)] [s]=true:=by
 obtain ⟨a,b,d⟩:=s
 rw [lexG,if_neg (by intro e;have:=congrArg Prod.fst e;simp at this;omega)]
 show lexG iLt [a - 1,w,c] [a,b,d]=true
 rw [lexG,if_neg (by omega)]
 exact decide_eq_true (by omega)
theorem zjq (s:Stp) (w c:Int) (r:List Stp):lexG sLt [(s.1 - 1,w,c)] (s::r)=true:=by
 have h:=ze8 s w c
 have hne:¬ (s.1 - 1,w,c)=s:=by intro e;have:=congrArg Prod.fst e;simp at this;omega
 rw [lexG,if_neg hne] at h ⊢
 exact h
theorem zdk {low h:List Stp} {w c:Int} (hp:pLt low h=true):pLt (low++[(zeo low (some h),w,c)]) h=true:=by
 by_cases ht:h.take low.length=low
 ·obtain ⟨s,r,e⟩:=zvu hp ht
  have hg:zeo low (some h)=s.1 - 1:=by
   show (if h.take low.length=low then ((h[low.length]?).getD (0,0,0)).1 - 1 else 0)=s.1 - 1
   rw [if_pos ht,e]
   simp
  rw [hg,e]
  show lexG sLt _ _=true
  rw [zmf]
  exact zjq s w c r
 ·exact zak sLt _ low h hp ht
noncomputable def zc7 (K:W.Frag):Sp:=zy1 (λ (a:List Stp×Option (List Stp)) vs H=>∃ x y,vs=[x,y]∧DV K H (plc a.1) x∧HV K H a.2 y∧zpy a.1 a.2) (λ a v _=>v = .int (zeo a.1 a.2)) (λ _ _=>False)
noncomputable def zr7 (K:W.Frag) (A:Adr):Sp:=zy1 (λ (a:List Stp×Option (List Stp)×Int×Int) vs H=>∃ x y,vs=[x,y,.int a.2.2.1,.int a.2.2.2]∧DV K H (plc a.1) x∧HV K H a.2.1 y∧a.1.length≤100)
 (λ a v H=>zpy a.1 a.2.1∧∃ t,v = .ref t∧DV K H (plc (a.1++[(zeo a.1 a.2.1,a.2.2)])) v) (λ a C=>C=A.NoRoom∧¬ zpy a.1 a.2.1)
noncomputable def zw5:Sp:=zsw (λ (z:Str) vs=>vs=[.str z]) (λ z v=>v = .bl (zpb z))
theorem zar (c:Nat) (z:Str):hasS ⟨#[c]⟩ z=decide (c∈z.cps.toList):=zaw c z
theorem zkp (z:Str):zpb z=(!decide (10∈z.cps.toList) && !decide (9∈z.cps.toList)):=by
 unfold zpb
 rw [show (Str.ofString "\n")=⟨#[10]⟩ from rfl,show (Str.ofString "\t")=⟨#[9]⟩ from rfl,zar,zar]
noncomputable def okGs (gs:List Giv):Prop:=∀ g∈gs,okO g.2
noncomputable def okSh (a:Sh):Prop:=(∀ m∈a,okV m.2)∧(mks a).Nodup
theorem znq {P:Program} {w:World} {K:W.Frag} {H:Hp} {d:Addr} {es0 es:List Ent} {o:Obj} {ns:Sh} {x:HO} (hd:H d=some (dO P w d es0 o)) (he:EnS K H es ns):EnS K (upd H d x) es ns:=he.imp (λ _ _ q=>zag hd (zpg _) q) λ v _ q=>zwk hd (zpg _) _ _ (zoh v) q
theorem ziu {K:W.Frag} {H H':Hp} {es:List Ent} {ns:Sh} (s:Same H H') (he:EnS K H es ns):EnS K H' es ns:=he.imp (λ _ _ q=>s.seqT q) λ _ _ q=>DV.same s _ _ q
noncomputable def zr3 (K:W.Frag):Sp:=λ vs H Q _=>Plain H∧∃ (b:Int),vs=[.int b]∧∀ x H',Same H H'→Plain H'→DV K H' (ver (b,[], "")) x→Q x H'
theorem zkc {a:Sh} (nd:(mks a).Nodup) (k:Mark):k∈zhd a ↔ ∃ v,look a k=some v∧zjg v=true:=by
 constructor
 ·intro h
  obtain ⟨m,hm,rfl⟩:=List.mem_map.mp h
  obtain ⟨h1,h2⟩:=List.mem_filter.mp hm
  exact ⟨m.2,zhb nd h1,h2⟩
 ·rintro ⟨v,h1,h2⟩
  exact List.mem_map_of_mem (f:=λ x:Mark×Ver=>x.1) (a:=(k,v)) (List.mem_filter.mpr ⟨zqb h1,h2⟩)
theorem zmy {ms:Sh} {m:Mark} (h:okV (vOf ms m)):PyData.canLay0 (lnD ms m)=true:=by
 have h3:=zrg (m:=m) h
 unfold SeqAt.shaped at h3
 rw [Bool.and_eq_true] at h3
 have h4:(PyData.canLay0 (plc (vOf ms m).2.1) && (PyData.canLay0 (L2.markD m) && (PyData.canLay0 (.str (vOf ms m).2.2) && true)))=true:=h3.1
 rw [Bool.and_eq_true] at h4
 exact h4.2
theorem zgn {ms:Sh}:∀ (bs:List Mark),(∀ m∈bs,okV (vOf ms m))→PyData.canLayAll0 (bs.map (lnD ms))=true∧PyData.depthAll (bs.map (lnD ms))≤30
 | [],_=>⟨rfl,Nat.zero_le _⟩
 | m::bs,h=>by
  obtain ⟨h1,h2⟩:=zgn bs λ x hx=>h x (List.mem_cons_of_mem _ hx)
  refine ⟨?_,?_⟩
  ·show (PyData.canLay0 (lnD ms m) && PyData.canLayAll0 (bs.map (lnD ms)))=true
   rw [zmy (h m List.mem_cons_self),h1]
   rfl
  ·show max (PyData.depth (lnD ms m)) (PyData.depthAll (bs.map (lnD ms)))≤30
   have h4:PyData.depth (lnD ms m)=2:=rfl
   omega
theorem zob {ms:Sh} {bs:List Mark} (h:∀ m∈bs,okV (vOf ms m)):SeqAt.shaped (.list (bs.map (lnD ms)))=true:=by
 obtain ⟨h1,h2⟩:=zgn bs h
 unfold SeqAt.shaped
 rw [show PyData.canLay0 (.list (bs.map (lnD ms)))=true from h1,Bool.true_and]
 refine decide_eq_true ?_
 show PyData.depthAll (bs.map (lnD ms))+1≤64
 omega
theorem zol {ms:Sh} {bs:List Mark} (h:∀ m∈bs,okV (vOf ms m)):PyData.eqv (.list (bs.map (lnD ms))) (.list (bs.map (lnD ms)))=true:=SeqAt.eqvAll_refl _ (zgn bs h).1
theorem zsj {ms:Sh} (nd:(mks ms).Nodup) (ok:∀ m∈ms,okV m.2) {bs:List Mark} (p:bs.Perm (zhd ms)):∀ m∈bs,okV (vOf ms m):=λ m hm=>by
 obtain ⟨x,hx,rfl⟩:=List.mem_map.mp (p.mem_iff.mp hm)
 have hx:=(List.mem_filter.mp hx).1
 rw [zkn nd hx]
 exact ok x hx
theorem zcr {a:Sh} (h:∀ m∈a,okV m.2):PyData.eqv (.list (a.map prD)) (.list (a.map prD))=true:=SeqAt.eqvAll_refl _ (zin a h).1
noncomputable def za6 (ks:List Mark):Prop:=∀ k∈ks,True
noncomputable def inBx (ks:List Mark):Prop:=∀ k∈ks,smM k
noncomputable def shrt (ms:Sh):Prop:=∀ m∈ms,m.2.2.1.length≤100
noncomputable def zh0 (P:Program) (w:World) (K:W.Frag) (A:Adr):Sp:=λ vs H Q _=>Plain H∧∃ (p l:Addr) (ms:Sh) (ws:List V) (gs:List Giv) (U:List Mark),vs=[.ref p,.ref l]∧ShAt P w K A.Sheet H p ms∧SqL K H l ws∧DVs K H (gs.map givD) ws∧okGs gs∧inBx (mks ms)∧gs.length<64∧U.length<64∧(∀ k,zrh (look ms) gs k≠none→k∈U) ∧
 ∀ (x:Addr) (ns:Sh) (H':Hp),H x=none→Same H H'→Plain H'→ShAt P w K A.Sheet H' x ns→(∀ k,look ns k=zrh (look ms) gs k)→Q (.ref x) H'
noncomputable def za5 (A:Adr):Sp:=λ vs H Q E=>Plain H∧∃ z:Str,vs=[.str z]∧(zpb z=true→∀ H',Same H H'→Plain H'→Q .non H')∧(zpb z=false→∀ H',Same H H'→Plain H'→E (.ref A.NoWords) none H')
noncomputable def newV (b:Int) (low:List Stp) (o:Option (List Stp)) (mk:Mark) (z:Str):Ver:=(b,low++[(zeo low o,mk)],z)
noncomputable def zg2 (P:Program) (w:World) (K:W.Frag) (A:Adr):Sp:=λ vs H Q E=>Plain H∧∃ (p:Addr) (ms:Sh) (bo:Option Mark) (bv:V) (a:Addr) (ys:List V) (as:List Mark) (k:Addr) (mk:Mark),vs=[.ref p,bv,.ref a,.ref k]∧ShAt P w K A.Sheet H p ms∧shrt ms∧markV K H bo bv∧SqL K H a ys∧DVs K H (as.map markD) ys∧as.length<1∧SqT K H k (mkV mk) ∧
 (∀ low o,zth ms bo=some low→zdo (zwe ms low as) o→∀ t H',Same H H'→Plain H'→DV K H' (plc (low++[(zeo low o,mk)])) t→Q t H')∧(zth ms bo=none→∀ H',Same H H'→Plain H'→E (.ref A.NoPiece) none H')
noncomputable def zx4 (P:Program) (w:World) (K:W.Frag) (A:Adr):Sp:=λ vs H Q E=>Plain H∧∃ (p:Addr) (ms:Sh) (bo:Option Mark) (bv:V) (z:Str) (b:Int) (k:Addr) (mk:Mark),vs=[.ref p,bv,.str z,.int b,.ref k]∧ShAt P w K A.Sheet H p ms∧shrt ms∧markV K H bo bv∧SqT K H k (mkV mk) ∧
 (∀ low o,zth ms bo=some low→zdo (zwe ms low []) o→∀ t H',Same H H'→Plain H'→DV K H' (prD (mk,newV b low o mk z)) t→Q t H')∧(zth ms bo=none→∀ H',Same H H'→Plain H'→E (.ref A.NoPiece) none H')
noncomputable def zr4 (K:W.Frag) (H:Hp) (Q:VK) (ps:Sh):Prop:=∀ (l:Addr) (ws:List V) (H':Hp),H l=none→Same H H'→Plain H'→H' l=some (.lst ws)→DVs K H' (ps.map prD) ws→Q (.ref l) H'
noncomputable def PutQ (K:W.Frag) (A:Adr) (H:Hp) (ms:Sh) (bo:Option Mark) (z:Str) (b:Int) (mk:Mark) (Q:VK) (E:XK):Prop :=
 (zpb z=true→∀ low o,zth ms bo=some low→zdo (zwe ms low []) o→zr4 K H Q [(mk,newV b low o mk z)])∧(zpb z=false→∀ H',Same H H'→Plain H'→E (.ref A.NoWords) none H')∧(zpb z=true→zth ms bo=none→∀ H',Same H H'→Plain H'→E (.ref A.NoPiece) none H')
noncomputable def zt6 (K:W.Frag) (A:Adr) (H:Hp) (ms:Sh) (m:Mark) (b:Int) (Q:VK) (E:XK):Prop :=
 (hasB ms m=true→zr4 K H Q [(m,(b,[], ""))])∧(hasB ms m=false→∀ H',Same H H'→Plain H'→E (.ref A.NoPiece) none H')
noncomputable def zpz (P:Program) (w:World) (K:W.Frag) (A:Adr):Sp:=λ vs H Q E=>Plain H∧∃ (p:Addr) (ms:Sh) (d:Addr) (bo:Option Mark) (bv:V) (z:Str) (b:Int) (k:Addr) (mk:Mark),vs=[.ref p,.ref d,.int b,.ref k]∧ShAt P w K A.Sheet H p ms∧shrt ms∧SqT K H d [.str "put",bv,.str z]∧markV K H bo bv∧SqT K H k (mkV mk)∧PutQ K A H ms bo z b mk Q E
noncomputable def zr0 (P:Program) (w:World) (K:W.Frag) (A:Adr):Sp:=λ vs H Q E=>Plain H∧∃ (p:Addr) (ms:Sh) (d:Addr) (q:Addr) (m:Mark) (b:Int) (k:Addr),vs=[.ref p,.ref d,.int b,.ref k]∧ShAt P w K A.Sheet H p ms∧SqT K H d [.str "take",.ref q]∧SqT K H q (mkV m)∧zt6 K A H ms m b Q E
noncomputable def zzw (K:W.Frag) (A:Adr) (H:Hp) (ms:Sh) (m:Mark) (z:Str) (b:Int) (Q:VK) (E:XK):Prop :=
 (zpb z=true→hasB ms m=true→zr4 K H Q [(m,(b,(vOf ms m).2.1,z))])∧(zpb z=false→∀ H',Same H H'→Plain H'→E (.ref A.NoWords) none H')∧(zpb z=true→hasB ms m=false→∀ H',Same H H'→Plain H'→E (.ref A.NoPiece) none H')
noncomputable def zx1 (P:Program) (w:World) (K:W.Frag) (A:Adr):Sp:=λ vs H Q E=>Plain H∧∃ (p:Addr) (ms:Sh) (d q:Addr) (m:Mark) (z:Str) (b:Int) (k:Addr),vs=[.ref p,.ref d,.int b,.ref k]∧ShAt P w K A.Sheet H p ms∧SqT K H d [.str "write",.ref q,.str z]∧SqT K H q (mkV m)∧zzw K A H ms m z b Q E
noncomputable def ze4 (P:Program) (w:World) (K:W.Frag) (A:Adr):Sp:=λ vs H Q E=>Plain H∧∃ (p:Addr) (ms:Sh) (d:Addr) (b x c:Int),vs=[.ref p,.ref d,.int b,.int x,.int c]∧ShAt P w K A.Sheet H p ms∧shrt ms ∧
 ((∃ (bo:Option Mark) (bv:V) (z:Str),SqT K H d [.str "put",bv,.str z]∧markV K H bo bv∧PyData.strOk z=true∧PutQ K A H ms bo z b (x,c) Q E) ∨ (∃ (q:Addr) (m:Mark),SqT K H d [.str "take",.ref q]∧SqT K H q (mkV m)∧zt6 K A H ms m b Q E) ∨ (∃ (q:Addr) (m:Mark) (z:Str),SqT K H d [.str "write",.ref q,.str z]∧SqT K H q (mkV m)∧PyData.strOk z=true∧zzw K A H ms m z b Q E))
theorem zrr {ms:Sh} {a b:Mark} (h:lnLt ms a b=true):(vOf ms a).2.1=(vOf ms b).2.1 ∨ pLt (vOf ms a).2.1 (vOf ms b).2.1=true:=by
 unfold lnLt zkh at h
 dsimp only at h
 by_cases e:(vOf ms a).2.1=(vOf ms b).2.1
 ·exact .inl e
 ·rw [if_neg e] at h
  exact .inr h
theorem zht {ms:Sh} (nd:(ms.map (·.1)).Nodup) {low:List Stp} {as:List Mark} {k:Mark} (h:k∈ms.map (·.1)) (hb:zpk ms low as k=true):k∈zhd ms:=by
 obtain ⟨m,hm,rfl⟩:=List.mem_map.mp h
 unfold zpk at hb
 rw [Bool.and_eq_true,zkn nd hm] at hb
 refine List.mem_map.mpr ⟨m,List.mem_filter.mpr ⟨hm,?_⟩,rfl⟩
 unfold zjg
 cases e:m.2.2.1 with
 | nil=>rw [e,ziv] at hb;cases hb.2
 | cons _ _=>rfl
theorem zom {ms:Sh} {k:Mark} (h:k∈zhd ms):k∈ms.map (·.1):=by
 obtain ⟨m,hm,rfl⟩:=List.mem_map.mp h
 exact List.mem_map_of_mem (f:=(·.1)) (List.mem_filter.mp hm).1
theorem zjf {ms:Sh} {low:List Stp} {as:List Mark} {o:Option (List Stp)} (h:zdo (zwe ms low as) o):zpy low o:=λ r e=>by
 rw [e] at h
 obtain ⟨k,hk,rfl⟩:=List.mem_map.mp h.1
 have:=(List.mem_filter.mp hk).2
 unfold zpk at this
 rw [Bool.and_eq_true] at this
 exact this.2
theorem ztf {a:Sh} (na:(mks a).Nodup) {bs L:List Mark} (pb:bs.Perm (zhd a)) (pwb:bs.Pairwise λ x y=>lnLt a x y=true) (nd:L.Nodup) (hm:∀ k,k∈L ↔ ∃ v,look a k=some v∧zjg v=true) (pl:L.Pairwise λ x y=>lnLt a x y=true):bs=L:=by
 have pm:bs.Perm L:=zdh (pb.nodup_iff.mpr (zde na)) nd λ k=>by rw [pb.mem_iff,zkc na,hm]
 exact uniq (r:=λ x y=>lnLt a x y=true) (λ x y g1 g2=>by
  have g3:=(zsf a).asym g1
  rw [g2] at g3
  cases g3) pm pwb pl
noncomputable def ahd (ms:Sh) (o:Option (List Stp)) (m:Mark):Bool:=match o with
 | none=>true
 | some h=>pLt (vOf ms m).2.1 h
theorem zoj {α:Type} {R:α→α→Prop} {f:α→Bool} (mono:∀ a b,R a b→f b=true→f a=true):∀ {bs:List α},bs.Pairwise R→bs.take (bs.filter f).length=bs.filter f∧bs.drop (bs.filter f).length=bs.filter λ a => !f a
 | [],_=>⟨rfl,rfl⟩
 | a::bs,h=>by
  obtain ⟨h1,h2⟩:=List.pairwise_cons.mp h
  obtain ⟨i1,i2⟩:=zoj mono h2
  cases ha:f a with
  | true =>
   rw [List.filter_cons_of_pos ha,List.length_cons,List.take_succ_cons,List.drop_succ_cons,i1,i2,List.filter_cons_of_neg (by rw [ha];decide)]
   exact ⟨rfl,rfl⟩
  | false =>
   have hn:∀ b∈bs,f b=false:=λ b hb=>by
    cases e:f b with
    | false=>rfl
    | true=>have:=mono a b (h1 b hb) e;rw [ha] at this;cases this
   have e1:bs.filter f=[]:=List.filter_eq_nil_iff.mpr λ b hb=>by rw [hn b hb];decide
   have e2:bs.filter (λ a => !f a)=bs:=List.filter_eq_self.mpr λ b hb=>by rw [hn b hb];rfl
   rw [List.filter_cons_of_neg (by rw [ha];decide),e1,List.filter_cons_of_pos (by rw [ha];rfl),e2]
   exact ⟨rfl,rfl⟩
theorem zcd {a b:Sh} {k:Mark} (h:look a k=look b k):vOf a k=vOf b k:=by unfold vOf;rw [h]
theorem zpd {a b:Sh} {x y:Mark} (h1:look a x=look b x) (h2:look a y=look b y):lnLt a x y=lnLt b x y:=by unfold lnLt;rw [zcd h1,zcd h2]
theorem zdg {a b:Sh} {x:Mark} (h:look a x=look b x):lnD a x=lnD b x:=by unfold lnD;rw [zcd h]
theorem zmq {a:Sh} {x y:Mark} (h:pLt (vOf a x).2.1 (vOf a y).2.1=true):lnLt a x y=true:=by
 unfold lnLt zkh
 dsimp only
 rw [if_neg λ e=>by rw [e,pLt_sto.irr] at h;cases h]
 exact h
theorem zxm {ms ns:Sh} (nm:(mks ms).Nodup) (nn:(mks ns).Nodup) {bs cs:List Mark} {i:Nat} (hi:i<bs.length) {b:Int} (hlk:∀ k,look ns k=if bs[i]=k then some ((b,[], ""):Ver) else look ms k)
  (pb:bs.Perm (zhd ms)) (pwb:bs.Pairwise λ x y=>lnLt ms x y=true) (pc:cs.Perm (zhd ns)) (pwc:cs.Pairwise λ x y=>lnLt ns x y=true):cs.map (lnD ns)=(bs.take i).map (lnD ms)++(bs.drop (i+1)).map (lnD ms):=by
 have ndb:bs.Nodup:=pb.nodup_iff.mpr (zde nm)
 have es:bs=bs.take i++bs[i]::bs.drop (i+1):=by rw [← List.drop_eq_getElem_cons hi,List.take_append_drop]
 obtain ⟨L,hL⟩:∃ L,L=bs.take i++bs.drop (i+1):=⟨_,rfl⟩
 have sub:L.Sublist bs:=by
  rw [hL]
  conv=>rhs;rw [es]
  exact List.Sublist.append_left (List.sublist_cons_self _ _) _
 have ndL:L.Nodup:=ndb.sublist sub
 have nin:bs[i]∉L:=λ z=>by
  rw [es] at ndb
  have:=(List.perm_middle.nodup_iff.mp ndb)
  rw [← hL] at this
  exact (List.nodup_cons.mp this).1 z
 have lk:∀ k∈L,look ns k=look ms k:=λ k hk=>by rw [hlk,if_neg λ e=>nin (by rw [e];exact hk)]
 have e:cs=L:=by
  refine ztf nn pc pwc ndL (λ k=>?_) ?_
  ·have hk1:k∈bs↔k∈L ∨ k=bs[i]:=by
    conv=>lhs;rw [es]
    rw [hL,List.mem_append,List.mem_append,List.mem_cons]
    constructor
    ·rintro (h | h | h)
     ·exact .inl (.inl h)
     ·exact .inr h
     ·exact .inl (.inr h)
    ·rintro ((h | h) | h)
     ·exact .inl h
     ·exact .inr (.inr h)
     ·exact .inr (.inl h)
   constructor
   ·intro hk
    obtain ⟨v,h1,h2⟩:=(zkc nm k).mp (pb.mem_iff.mp (hk1.mpr (.inl hk)))
    exact ⟨v,by rw [lk k hk];exact h1,h2⟩
   ·rintro ⟨v,h1,h2⟩
    rw [hlk] at h1
    by_cases e:bs[i]=k
    ·rw [if_pos e] at h1
     cases h1
     cases h2
    ·rw [if_neg e] at h1
     rcases hk1.mp (pb.mem_iff.mpr ((zkc nm k).mpr ⟨v,h1,h2⟩)) with z | z
     ·exact z
     ·exact absurd z.symm e
  ·exact (pwb.sublist sub).imp_of_mem fun {x y} hx hy g=>by rw [zpd (lk x hx) (lk y hy)];exact g
 rw [e,← List.map_append,← hL]
 exact List.map_congr_left λ k hk=>zdg (lk k hk)
theorem zuo {ms ns:Sh} (nm:(mks ms).Nodup) (nn:(mks ns).Nodup) {mk:Mark} (hk:mk∉mks ms) {v:Ver} {low:List Stp} {o:Option (List Stp)} (hv:v.2.1=low++[(zeo low o,mk)]) (hl:zdo (zwe ms low []) o)
  (hlk:∀ k,look ns k=if mk=k then some v else look ms k) {bs cs:List Mark} (pb:bs.Perm (zhd ms)) (pwb:bs.Pairwise λ x y=>lnLt ms x y=true) (pc:cs.Perm (zhd ns)) (pwc:cs.Pairwise λ x y=>lnLt ns x y=true) :
  cs.map (lnD ns)=(bs.take (bs.filter (ahd ms o)).length).map (lnD ms)++[.tuple [markD mk,.str v.2.2]]++(bs.drop (bs.filter (ahd ms o)).length).map (lnD ms):=by
 have ndb:bs.Nodup:=pb.nodup_iff.mpr (zde nm)
 have inb:∀ k∈bs,k∈mks ms:=λ k h=>zom (pb.mem_iff.mp h)
 have nkb:mk∉bs:=λ z=>hk (inb mk z)
 have lk:∀ k∈bs,look ns k=look ms k:=λ k h=>by rw [hlk,if_neg λ e=>nkb (by rw [e];exact h)]
 have evm:vOf ns mk=v:=by unfold vOf;rw [hlk,if_pos rfl];rfl
 have mono:∀ a b,lnLt ms a b=true→ahd ms o b=true→ahd ms o a=true:=λ a b hab hb=>by
  unfold ahd at hb ⊢
  cases o with
  | none=>rfl
  | some h =>
   dsimp only at hb ⊢
   rcases zrr hab with e | e
   ·rw [e];exact hb
   ·exact pLt_sto.tr _ _ _ e hb
 obtain ⟨t1,t2⟩:=zoj mono pwb
 obtain ⟨n,hn⟩:∃ n,n=(bs.filter (ahd ms o)).length:=⟨_,rfl⟩
 rw [← hn] at t1 t2 ⊢
 have es:bs=bs.take n++bs.drop n:=(List.take_append_drop n bs).symm
 have lowlt:pLt low v.2.1=true:=by rw [hv];exact zbk sLt _ low
 have left:∀ a∈bs.take n,pLt (vOf ms a).2.1 v.2.1=true:=λ a ha=>by
  have hab:a∈bs:=List.mem_of_mem_take ha
  rw [t1] at ha
  have hf:=(List.mem_filter.mp ha).2
  have nlow:pLt low (vOf ms a).2.1=false:=by
   cases e:pLt low (vOf ms a).2.1 with
   | false=>rfl
   | true =>
    have hh:(vOf ms a).2.1∈zwe ms low []:=List.mem_map.mpr ⟨a,List.mem_filter.mpr ⟨inb a hab,by unfold zpk;rw [e];rfl⟩,rfl⟩
    cases o with
    | none=>rw [show zwe ms low []=[] from hl] at hh;cases hh
    | some h =>
     have hf:pLt (vOf ms a).2.1 h=true:=hf
     rcases hl.2 _ hh with z | z
     ·rw [← z,pLt_sto.irr] at hf;cases hf
     ·rw [pLt_sto.asym z] at hf;cases hf
  by_cases e:low=(vOf ms a).2.1
  ·rw [← e];exact lowlt
  ·exact pLt_sto.tr _ _ _ (pLt_sto.tri _ _ e nlow) lowlt
 have right:∀ a∈bs.drop n,pLt v.2.1 (vOf ms a).2.1=true:=λ a ha=>by
  rw [t2] at ha
  have hf:=(List.mem_filter.mp ha).2
  cases o with
  | none=>cases hf
  | some h =>
   have hf:(!pLt (vOf ms a).2.1 h)=true:=hf
   have hf2:pLt (vOf ms a).2.1 h=false:=by
    cases e:pLt (vOf ms a).2.1 h with
    | false=>rfl
    | true=>rw [e] at hf;cases hf
   have h1:pLt v.2.1 h=true:=by rw [hv];exact zdk (w:=mk.1) (c:=mk.2) (zjf hl h rfl)
   by_cases e:(vOf ms a).2.1=h
   ·rw [e];exact h1
   ·exact pLt_sto.tr _ _ _ h1 (pLt_sto.tri _ _ e hf2)
 have e:cs=bs.take n++mk::bs.drop n:=by
  refine ztf nn pc pwc ?_ (λ k=>?_) ?_
  ·refine List.perm_middle.nodup_iff.mpr (List.nodup_cons.mpr ⟨?_,?_⟩)
   ·rw [← es];exact nkb
   ·rw [← es];exact ndb
  ·have hk1:k∈bs.take n++mk::bs.drop n↔k=mk ∨ k∈bs:=by
    conv=>rhs;rw [es]
    rw [List.mem_append,List.mem_cons,List.mem_append]
    constructor
    ·rintro (h | h | h)
     ·exact .inr (.inl h)
     ·exact .inl h
     ·exact .inr (.inr h)
    ·rintro (h | h | h)
     ·exact .inr (.inl h)
     ·exact .inl h
     ·exact .inr (.inr h)
   rw [hk1]
   constructor
   ·rintro (rfl | h)
    ·refine ⟨v,by rw [hlk,if_pos rfl],?_⟩
     unfold zjg
     rw [hv]
     cases low with
     | nil=>rfl
     | cons _ _=>rfl
    ·obtain ⟨u,h1,h2⟩:=(zkc nm k).mp (pb.mem_iff.mp h)
     exact ⟨u,by rw [lk k h];exact h1,h2⟩
   ·rintro ⟨u,h1,h2⟩
    rw [hlk] at h1
    by_cases e:mk=k
    ·exact .inl e.symm
    ·rw [if_neg e] at h1
     exact .inr (pb.mem_iff.mpr ((zkc nm k).mpr ⟨u,h1,h2⟩))
  ·rw [es,List.pairwise_append] at pwb
   obtain ⟨p1,p2,p3⟩:=pwb
   have tk:∀ {k},k∈bs.take n→k∈bs:=List.mem_of_mem_take
   have dk:∀ {k},k∈bs.drop n→k∈bs:=List.mem_of_mem_drop
   refine List.pairwise_append.mpr ⟨p1.imp_of_mem fun {x y} hx hy g=>by rw [zpd (lk x (tk hx)) (lk y (tk hy))];exact g,List.pairwise_cons.mpr ⟨λ y hy=>?_,p2.imp_of_mem fun {x y} hx hy g=>by rw [zpd (lk x (dk hx)) (lk y (dk hy))];exact g⟩,λ x hx y hy=>?_⟩
   ·refine zmq ?_
    rw [evm,zcd (lk y (dk hy))]
    exact right y hy
   ·rcases List.mem_cons.mp hy with rfl | hy
    ·refine zmq ?_
     rw [evm,zcd (lk x (tk hx))]
     exact left x hx
    ·rw [zpd (lk x (tk hx)) (lk y (dk hy))]
     exact p3 x hx y hy
 rw [e,List.map_append,List.map_cons,List.append_assoc]
 have h1:(bs.take n).map (lnD ns)=(bs.take n).map (lnD ms):=List.map_congr_left λ k h=>zdg (lk k (List.mem_of_mem_take h))
 have h2:(bs.drop n).map (lnD ns)=(bs.drop n).map (lnD ms):=List.map_congr_left λ k h=>zdg (lk k (List.mem_of_mem_drop h))
 have h3:lnD ns mk = .tuple [markD mk,.str v.2.2]:=by unfold lnD;rw [evm]
 rw [h1,h2,h3]
 rfl
theorem ztj (f:Mark→Option Ver) (g:Giv) (k:Mark):zrh f [g] k=if g.1=k then g.2 else f k:=rfl
theorem zrj {ms:Sh} {g:Giv} {k:Mark} (h:zrh (look ms) [g] k≠none):k∈g.1::mks ms:=by
 rw [ztj] at h
 by_cases e:g.1=k
 ·rw [e];exact List.mem_cons_self
 ·rw [if_neg e] at h
  exact List.mem_cons_of_mem _ (Classical.byContradiction λ z=>h (zwh z))
theorem zt5 {K:W.Frag} {H:Hp} {m:Mark} {v:Ver} {t q:Addr} {y:V} (h:SqT K H t [.ref q,y]) (hm:SqT K H q (mkV m)) (hy:DV K H (ver v) y):DV K H (prD (m,v)) (.ref t) :=
 ⟨t,_,rfl,h,_,_,rfl,⟨q,_,rfl,hm,_,_,rfl,rfl,_,_,rfl,rfl,rfl⟩,_,_,rfl,hy,rfl⟩
theorem zo7 {K:W.Frag} {H:Hp} {o:Option (List Stp)} {v:V} (h:DV K H (hiD o) v):HV K H o v:=by
 cases o with
 | none=>exact h
 | some r=>exact h
theorem zbl {ms:Sh} (sh:shrt ms) (m:Mark):(vOf ms m).2.1.length≤100:=by
 unfold vOf
 cases e:look ms m with
 | none=>exact Nat.zero_le _
 | some v=>exact sh _ (zqb e)
theorem zyp {ms:Sh} (sh:shrt ms) {bo:Option Mark} {low:List Stp} (h:zth ms bo=some low):low.length≤100:=by
 cases bo with
 | none =>
  obtain rfl:[]=low:=Option.some.inj h
  exact Nat.zero_le _
 | some m =>
  have h':(if hasB ms m=true then some (vOf ms m).2.1 else none)=some low:=h
  by_cases hb:hasB ms m=true
  ·rw [if_pos hb] at h'
   obtain rfl:(vOf ms m).2.1=low:=Option.some.inj h'
   exact zbl sh m
  ·rw [if_neg hb] at h'
   cases h'
theorem zmv (p:Mark×Ver):ltDs [markD p.1,ver p.2] [markD p.1,ver p.2]=some false:=by
 rw [ltDs,zzf,decide_eq_true rfl,if_pos rfl,ltDs,zjv,decide_eq_true rfl,if_pos rfl,ltDs]
theorem zg4 {K:W.Frag} {H:Hp} {l:Addr} {ws:List V} {p:Mark×Ver} {Q:VK} (ok:okV p.2) (hl:H l=some (.lst ws)) (hw:DVs K H ([p].map prD) ws)
  (q:∀ (l2:Addr) (w2:List V),H l2=none→DVs K H ([p].map prD) w2→Q (.ref l2) (upd H l2 (.lst w2))):zxx K [.ref l] H Q:=by
 refine ⟨Unit,[()],(λ _=>[markD p.1,ver p.2]),(λ _ _=>false),.tup,l,ws,rfl,SqL.of hl,hw,⟨⟨λ _=>rfl,λ _ _ _ h=>absurd h (by decide),λ _ _ h=>absurd rfl h⟩,by decide,by simp,λ _ _ _ _=>zmv p,λ _ _=>⟨_,_,rfl,⟨_,rfl⟩⟩,λ _ _=>zvd ok⟩,λ l2 bs w2 h2 pm _ hd=>q l2 w2 h2 ?_⟩
 rw [List.perm_singleton.mp pm] at hd
 exact hd
noncomputable def zgx (K:W.Frag) (ND:Addr):Sp:=λ vs H Q E=>Plain H∧∃ (a b:Addr) (xs ys:List V) (es:List (List Chg)),vs=[.ref a,.ref b]∧H a=some (.lst xs)∧H b=some (.lst ys)∧a≠b∧EnL K [a,b] H xs es∧okEs es∧ys.length<300 ∧
 (∀ es' d xs' y,es=es'++[d]→xs=xs'++[y]→∀ x zs H',H x=none→H' x=some (.lst zs)→H' a=some (.lst xs')→H' b=some (.lst (ys++[y]))→But [a,b] H H'→DVs K H' (d.map chD) zs→Plain H'→Q (.ref x) H') ∧
 (es=[]→∀ H',Same H H'→Plain H'→E (.ref ND) none H')
noncomputable def zox (C:Addr):Sp:=λ vs H Q _=>Plain H∧∃ (p dx:Addr),vs=[.ref p]∧H p=some (.ins C dx [])∧∀ S U H',H S=none→H U=none→LogK C H' p S U [] []→But [p] H H'→Plain H'→Q .non H'
noncomputable def zzp (C:Addr):Sp:=λ vs H Q _=>Plain H∧∃ (p S U:Addr) (xs ys:List V),vs=[.ref p]∧LogK C H p S U xs ys∧∀ W H',H W=none→LogK C H' p S W xs []→But [p] H H'→Plain H'→Q .non H'
noncomputable def zgt (C:Addr):Sp:=λ vs H Q _=>Plain H∧∃ (p S U:Addr) (xs ys:List V),vs=[.ref p]∧LogK C H p S U xs ys∧∀ Z W H',H Z=none→H W=none→LogK C H' p Z W [] []→But [p] H H'→Plain H'→Q .non H'
noncomputable def zx3 (K:W.Frag) (C:Addr):Sp:=λ vs H Q _=>Plain H∧∃ (p S U e:Addr) (xs ys zs:List V),vs=[.ref p,.ref e]∧LogK C H p S U xs ys∧SqL K H e zs∧xs.length<300∧∀ l W H',H l=none→H W=none→l≠W→LogK C H' p S W (xs++[.ref l]) []→H' l=some (.lst zs)→But [p,S] H H'→Plain H'→Q .non H'
noncomputable def zqr (K:W.Frag) (C ND:Addr) (b:Bool):Sp:=λ vs H Q E=>Plain H∧∃ (p S U:Addr) (xs ys:List V) (es:List (List Chg)),vs=[.ref p]∧(if b then LogK C H p S U xs ys else LogK C H p U S ys xs)∧EnL K [S,U] H xs es∧okEs es∧ys.length<300 ∧
 (∀ es' d xs' y,es=es'++[d]→xs=xs'++[y]→∀ x zs H',H x=none→H' x=some (.lst zs)→H' S=some (.lst xs')→H' U=some (.lst (ys++[y]))→But [S,U] H H'→DVs K H' (d.map chD) zs→Plain H'→Q (.ref x) H') ∧
 (es=[]→∀ H',Same H H'→Plain H'→E (.ref ND) none H')
noncomputable def zdx (K:W.Frag):Sp:=λ vs H Q _=>∃ (a:Addr) (ns:List Int) (k:Int),vs=[.ref a,.int k]∧SqL K H a (ns.map V.int)∧0≤k∧∀ z:Int,Q (.int z) H
noncomputable def zzu (C:Addr):Sp:=λ vs H Q _=>Plain H∧∃ (p S U:Addr) (ys:List V),vs=[.ref p]∧LogK C H p S U [] ys∧∀ l H',Same H H'→H' l=some (.lst [])→Plain H'→Q (.ref l) H'
theorem zqd {H:Hp} {a:Addr} {x y:HO}:upd (upd H a x) a y=upd H a y:=by
 funext b
 unfold upd
 split <;> rfl
structure WinK (P:Program) (w:World) (K:W.Frag) (A:Adr) (H:Hp) (p lg S U:Addr) (n b:Int) (B:V) (D:Addr) (ms:Sh) (c:Int) (xs ys:List V) (st:List (List Chg)):Prop where
 o:∃ dx,H p=some (.ins A.Window dx (wf (.int n) (.int b) B (.ref D) (.int c) (.ref lg)))
 l:LogK A.Log H lg S U xs ys
 e:EnL K [S,U] H xs st
 d:ShAt P w K A.Sheet H D ms
noncomputable def zbt (A:Adr) (r:Int→Int→Addr→Int→V):Sp:=λ vs H Q _=>∃ (p dx D lg:Addr) (n b c:Int) (B:V),vs=[.ref p]∧H p=some (.ins A.Window dx (wf (.int n) (.int b) B (.ref D) (.int c) (.ref lg)))∧Q (r n b D c) H
noncomputable def zq5 (P:Program) (w:World) (K:W.Frag) (A:Adr):Sp:=λ vs H Q _=>Plain H∧∃ (p dx D lg:Addr) (n b c:Int) (B:V) (ms:Sh),vs=[.ref p]∧H p=some (.ins A.Window dx (wf (.int n) (.int b) B (.ref D) (.int c) (.ref lg)))∧ShAt P w K A.Sheet H D ms∧∀ (H':Hp) (l:Addr) (bs:List Mark) (ws:List V),H l=none→Same H H'→Plain H'→H' l=some (.lst ws)→bs.Perm (zhd ms)→bs.Pairwise (λ a b=>lnLt ms a b=true)→DVs K H' (bs.map (lnD ms)) ws→Q (.ref l) H'
noncomputable def zb1 (A:Adr):Sp:=λ vs H Q _=>Plain H∧∃ (p dx D lg S U:Addr) (n b c:Int) (B:V) (ys:List V),vs=[.ref p]∧H p=some (.ins A.Window dx (wf (.int n) (.int b) B (.ref D) (.int c) (.ref lg)))∧LogK A.Log H lg S U [] ys∧∀ l H',Same H H'→H' l=some (.lst [])→Plain H'→Q (.ref l) H'
noncomputable def zi0 (P:Program) (w:World) (K:W.Frag) (A:Adr):Sp:=λ vs H Q _=>Plain H∧∃ (p dx D lg l:Addr) (n b c:Int) (B:V) (ms:Sh) (ws:List V) (gs:List Giv) (Vm:List Mark),vs=[.ref p,.ref l]∧H p=some (.ins A.Window dx (wf (.int n) (.int b) B (.ref D) (.int c) (.ref lg)))∧ShAt P w K A.Sheet H D ms∧H l=some (.lst ws)∧DVs K H (gs.map givD) ws∧okGs gs∧inBx (mks ms)∧gs.length<64∧Vm.length<64∧(∀ k,zrh (look ms) gs k≠none→k∈Vm) ∧
 ∀ (x m:Addr) (ns:Sh) (zs:List V) (H':Hp),H m=none→But [p] H H'→Plain H'→H' p=some (.ins A.Window dx (wf (.int n) (.int b) B (.ref x) (.int c) (.ref lg)))→ShAt P w K A.Sheet H' x ns→(∀ k,look ns k=zrh (look ms) gs k)→H' m=some (.lst zs)→DVs K H' (gs.map λ g=>L2.markD g.1) zs→Q (.ref m) H'
noncomputable def zy4 (A:Adr):Sp:=λ vs H Q _=>Plain H∧∃ (p dx D lg D':Addr) (n b c b':Int) (B:V),vs=[.ref p,.int b',.ref D']∧H p=some (.ins A.Window dx (wf (.int n) (.int b) B (.ref D) (.int c) (.ref lg)))∧∀ H',But [p] H H'→Plain H'→H' p=some (.ins A.Window dx (wf (.int n) (.int b') (.ref D') (.ref D') (.int c) (.ref lg)))→Q .non H'
noncomputable def zyz (A:Adr):Sp:=λ vs H Q _=>Plain H∧∃ (p dx D lg S U D':Addr) (n b c b':Int) (B:V) (xs ys:List V),vs=[.ref p,.int b',.ref D']∧p≠lg∧H p=some (.ins A.Window dx (wf (.int n) (.int b) B (.ref D) (.int c) (.ref lg)))∧LogK A.Log H lg S U xs ys∧∀ Z W H',H Z=none→H W=none→But [p,lg] H H'→Plain H'→H' p=some (.ins A.Window dx (wf (.int n) (.int b') (.ref D') (.ref D') (.int c) (.ref lg)))→LogK A.Log H' lg Z W [] []→Q .non H'
noncomputable def zi1 (A:Adr):Sp:=λ vs H Q _=>Plain H∧∃ (p dx D:Addr) (n b c:Int),vs=[.ref p,.int n,.int b,.ref D,.int c]∧H p=some (.ins A.Window dx [])∧∀ lg S U H',But [p] H H'→Plain H'→p≠lg→H' p=some (.ins A.Window dx (wf (.int n) (.int b) (.ref D) (.ref D) (.int c) (.ref lg)))→LogK A.Log H' lg S U [] []→Q .non H'
theorem zlf {α β:Type} {R:α→β→Prop} {x:α} {y:β}:∀ {xs:List α} {ys:List β},Paired R xs ys→R x y→Paired R (xs++[x]) (ys++[y])
 | _,_,.nil,h=>.cons h .nil
 | _,_,.cons r rr,h=>.cons r (zlf rr h)
noncomputable def DAt (K:W.Frag) (H:Hp) (ms:Sh) (d:Addr) (b:Int) (mk:Mark) (T:Mark→Ver→Prop):Prop :=
 (∃ (q:Addr) (m:Mark),SqT K H d [.str "take",.ref q]∧SqT K H q (mkV m)∧hasB ms m=true∧T m (b,[], "")) ∨
 (∃ (bo:Option Mark) (bv:V) (z:Str),SqT K H d [.str "put",bv,.str z]∧markV K H bo bv∧PyData.strOk z=true∧zpb z=true∧zth ms bo≠none∧∀ low o,zth ms bo=some low→zdo (zwe ms low []) o→T mk (newV b low o mk z)) ∨
 (∃ (q:Addr) (m:Mark) (z:Str),SqT K H d [.str "write",.ref q,.str z]∧SqT K H q (mkV m)∧PyData.strOk z=true∧zpb z=true∧hasB ms m=true∧T m (b,(vOf ms m).2.1,z))
noncomputable def ziz (P:Program) (w:World) (K:W.Frag) (A:Adr):Sp:=λ vs H Q _=>Plain H∧∃ (p lg S U d:Addr) (n b c beat:Int) (B:V) (D:Addr) (ms:Sh) (xs ys:List V) (st:List (List Chg)) (T:Mark→Ver→Prop),vs=[.ref p,.ref d,.int beat]∧p≠lg∧WinK P w K A H p lg S U n b B D ms c xs ys st∧shrt ms∧inBx (mks ms)∧xs.length<300∧DAt K H ms d beat (n,c+1) T∧(∀ m v,T m v→okV v∧smM m∧(m∈mks ms ∨ ms.length≤62)) ∧
 ∀ m v,T m v→∀ (x r W:Addr) (ns:Sh) (zs:List V) (l:Addr) (H':Hp),H r=none→H W=none→H l=none→But [p,lg,S] H H'→Plain H'→WinK P w K A H' p lg S W n b B x ns (c+1) (xs++[.ref l]) [] (st++[[(m,look ms m,some v)]])→(∀ k,look ns k=if m=k then some v else look ms k)→H' r=some (.lst zs)→DVs K H' [L2.markD m] zs→Q (.ref r) H'
noncomputable def zn3 (P:Program) (w:World) (K:W.Frag) (A:Adr):Sp:=λ vs H Q E=>Plain H∧∃ (p lg S U:Addr) (n b c:Int) (B:V) (D:Addr) (ms:Sh) (xs ys:List V) (st:List (List Chg)),vs=[.ref p]∧p≠lg∧WinK P w K A H p lg S U n b B D ms c xs ys st∧inBx (mks ms)∧okEs st∧ys.length<300 ∧
 (∀ st' e xs' y,st=st'++[e]→xs=xs'++[y]→(∃ Vm:List Mark,Vm.length<64∧∀ k,zrh (look ms) (e.map λ c=>(c.1,c.2.1)) k≠none→k∈Vm)∧∀ (x r:Addr) (ns:Sh) (H':Hp),But [p,S,U] H H'→Plain H'→WinK P w K A H' p lg S U n b B x ns c xs' (ys++[y]) st'→(∀ k,look ns k=zrh (look ms) (e.map λ c=>(c.1,c.2.1)) k)→Q (.ref r) H') ∧
 (st=[]→∀ H',Same H H'→Plain H'→E (.ref A.NoDeed) none H')
noncomputable def zr2 (A:Adr):Sp:=λ vs H Q E=>Plain H∧∃ (p dx D lg S U:Addr) (n b c:Int) (B:V) (xs:List V),vs=[.ref p]∧H p=some (.ins A.Window dx (wf (.int n) (.int b) B (.ref D) (.int c) (.ref lg)))∧LogK A.Log H lg S U xs []∧xs.length<300∧∀ H',Same H H'→Plain H'→E (.ref A.NoDeed) none H'
structure FV (i:Nat) (c:Int) (m:Mark) (v:Ver):Prop where
 mb:(m.1=1∧1≤m.2∧m.2≤c) ∨ (m.1=2∧1≤m.2∧m.2≤(i:Int))
 ok:okV v
 wb:zpb v.2.2=true
 wl:v.2.2.length≤13+i
 pl:v.2.1.length≤i+1
 ps:v.2.1≠[]→∃ r x,v.2.1=r++[(x,m)]
structure FG (i:Nat) (c:Int) (Um:List Mark) (f:Mark→Option Ver):Prop where
 v:∀ m v,f m=some v→FV i c m v
 u:∀ m,f m≠none→m∈Um
noncomputable def Stk (G:(Mark→Option Ver)→Prop) (f0:Mark→Option Ver):List (List Chg)→(Mark→Option Ver)→Prop
 | [],f=>G f∧∀ k,f k=f0 k
 | e::r,f=>∃ m v f',e=[(m,f' m,some v)]∧Stk G f0 r f'∧G f∧∀ k,f k=if m=k then some v else f' k
theorem Stk.top {G:(Mark→Option Ver)→Prop} {f0 f:Mark→Option Ver}:∀ {r:List (List Chg)},Stk G f0 r f→G f
 | [],h=>h.1
 | _::_,h=>let ⟨_,_,_,_,_,h,_⟩:=h;h
theorem Stk.mono {G G':(Mark→Option Ver)→Prop} (g:∀ f,G f→G' f) {f0:Mark→Option Ver}:∀ {r:List (List Chg)} {f:Mark→Option Ver},Stk G f0 r f→Stk G' f0 r f
 | [],_,h=>⟨g _ h.1,h.2⟩
 | _::_,_,h=>let ⟨m,v,f',e,h1,h2,h3⟩:=h; ⟨m,v,f',e,Stk.mono g h1,g _ h2,h3⟩
structure LSt (P:Program) (w:World) (K:W.Frag) (A:Adr) (N:List Addr) (H:Hp) (p:Addr) (i:Nat) (b c:Int) (z:Bool) (st:List (List Chg)) (f0 f:Mark→Option Ver):Prop where
 ex:∃ lg S U B D ms xs ys Um,p≠lg∧WinK P w K A H p lg S U 1 b B D ms c xs ys st∧Stk (FG i c Um) f0 st.reverse f∧(∀ k,look ms k=f k)∧Um.length≤i∧st.length+ys.length≤i∧(z=true→ys=[])∧∀ a∈N,a≠S∧a≠U
 sl:st.length≤i
 c0:0≤c
 cl:c≤1000000000000+(i:Int)
structure Kp (K:W.Frag) (N:List Addr) (H H':Hp):Prop where
 n:∀ a∈N,∀ xs,H a=some (.lst xs)→H' a=some (.lst xs)
 e:∀ a φ,H a=some (.ext φ)→H' a=some (.ext φ)
 t:∀ a xs,SqT K H a xs→SqT K H' a xs
theorem Kp.of {K:W.Frag} {N:List Addr} {H H':Hp} (s:Same H H'):Kp K N H H':=⟨λ _ _ _ h=>s _ _ h,λ _ _ h=>s _ _ h,λ _ _ h=>s.seqT h⟩
theorem Kp.trans {K:W.Frag} {N:List Addr} {H H1 H2:Hp} (a:Kp K N H H1) (b:Kp K N H1 H2):Kp K N H H2:=⟨λ x hx o h=>b.n x hx o (a.n x hx o h),λ x o h=>b.e x o (a.e x o h),λ x xs h=>b.t x xs (a.t x xs h)⟩
theorem Kp.but {K:W.Frag} {N M:List Addr} {H H':Hp} (k:But M H H') (mu:Mu M H) (hN:∀ a∈N,∀ xs,H a=some (.lst xs)→a∉M):Kp K N H H':=by
 refine ⟨λ a ha xs h=>k _ _ (hN a ha xs h) h,λ a φ h=>k _ _ (λ z=>?_) h,λ a xs h=>zoe k mu.noT h⟩
 rcases mu a z with ⟨xs,e⟩ | ⟨C,dx,fs,e,_⟩
 ·rw [h] at e;cases e
 ·rw [h] at e;cases e
mutual
theorem Kp.dv {K:W.Frag} {N:List Addr} {H H':Hp} (k:Kp K N H H'):∀ (d:PyData) (v:V),noL d=true→DV K H d v→DV K H' d v
 | .none,v,_,h=>h
 | .bool b,v,_,h=>h
 | .int i,v,_,h=>h
 | .str x,v,_,h=>h
 | .list xs,v,n',_=>by cases n'
 | .tuple xs,v,n',⟨a,vs,h1,h2,h3⟩=>⟨a,vs,h1,k.t _ _ h2,k.dvs xs vs n' h3⟩
 | .dict _,v,_,h=>h.elim
theorem Kp.dvs {K:W.Frag} {N:List Addr} {H H':Hp} (k:Kp K N H H'):∀ (ds:List PyData) (vs:List V),noLs ds=true→DVs K H ds vs→DVs K H' ds vs
 | [],vs,_,h=>h
 | d::ds,vs,n',⟨v,r,h1,h2,h3⟩=>by
  have n':noL d=true∧noLs ds=true:=by rw [noLs,Bool.and_eq_true] at n';exact n'
  exact ⟨v,r,h1,k.dv d v n'.1 h2,k.dvs ds r n'.2 h3⟩
end
noncomputable def zk1 (P:Program) (w:World) (K:W.Frag) (A:Adr):Sp:=λ vs H Q _=>Plain H∧∃ (p:Addr) (N:List Addr) (i:Nat) (b c:Int) (z bk:Bool) (st:List (List Chg)) (f0 f:Mark→Option Ver),vs=[.ref p,.bl bk]∧LSt P w K A N H p i b c z st f0 f∧i≤63∧(bk=false→z=true) ∧
 (bk=false ∨ st=[]→∀ H',Same H H'→Plain H'→Q (.bl true) H') ∧
 (bk=true→∀ st' e,st=st'++[e]→∀ f' H',LSt P w K A N H' p i b c false st' f0 f'→Kp K N H H'→Plain H'→Q (.bl false) H')
theorem WinK.same {P:Program} {w:World} {K:W.Frag} {A:Adr} {H H':Hp} {p lg S U:Addr} {n b:Int} {B:V} {D:Addr} {ms:Sh} {c:Int} {xs ys:List V} {st:List (List Chg)} (h:WinK P w K A H p lg S U n b B D ms c xs ys st) (s:Same H H'):WinK P w K A H' p lg S U n b B D ms c xs ys st:=⟨h.o.imp λ _ e=>s _ _ e,h.l.same s,h.e.same s,h.d.same s⟩
theorem LSt.same {P:Program} {w:World} {K:W.Frag} {A:Adr} {N:List Addr} {H H':Hp} {p:Addr} {i:Nat} {b c:Int} {z:Bool} {st:List (List Chg)} {f0 f:Mark→Option Ver} (h:LSt P w K A N H p i b c z st f0 f) (s:Same H H'):LSt P w K A N H' p i b c z st f0 f:=by
 obtain ⟨lg,S,U,B,D,ms,xs,ys,Um,h1,h2,h3⟩:=h.ex
 exact ⟨⟨lg,S,U,B,D,ms,xs,ys,Um,h1,h2.same s,h3⟩,h.sl,h.c0,h.cl⟩
theorem FV.more {i:Nat} {c:Int} {m:Mark} {v:Ver} (h:FV i c m v):FV (i+1) (c+1) m v:=⟨by have:=h.mb;rw [show ((i+1:Nat):Int)=(i:Int)+1 by omega];omega,h.ok,h.wb,by have:=h.wl;omega,by have:=h.pl;omega,h.ps⟩
theorem FV.sm {i:Nat} {c:Int} {m:Mark} {v:Ver} (h:FV i c m v) (hi:i≤63) (hc:c≤1000000000000+(i:Int)):smM m:=by
 unfold smM
 have:=h.mb
 omega
theorem zdv {i:Nat} {c:Int} {Um:List Mark} {f0:Mark→Option Ver}:∀ {r:List (List Chg)} {f:Mark→Option Ver},Stk (FG i c Um) f0 r f→∀ e∈r,okEn e
 | e::r,f,⟨m,v,f',he,h1,h2,h3⟩,e',hm=>by
  rcases List.mem_cons.mp hm with rfl | hm
  ·rw [he]
   refine ⟨λ x hx=>?_,by simp,by show 1≤3;decide⟩
   rw [List.mem_singleton.mp hx]
   exact ⟨λ u hu=>(h1.top.v m u hu).ok,λ u hu=>by cases hu;exact (h2.v m v (by rw [h3,if_pos rfl])).ok⟩
  ·exact zdv h1 e' hm
theorem zdi {α:Type} (l:List α) (a:α):(l++[a]).reverse=a::l.reverse:=by simp
noncomputable def zay (P:Program) (w:World) (K:W.Frag) (A:Adr):Sp:=λ vs H Q _=>Plain H∧∃ (p:Addr) (N:List Addr) (i:Nat) (b c:Int) (z:Bool) (st:List (List Chg)) (f0 f:Mark→Option Ver) (k cell:Int),vs=[.ref p,.int k,.int cell]∧LSt P w K A N H p i b c z st f0 f∧i≤62∧(∀ a∈N,H a≠none) ∧
 ∀ st' f' c' H',LSt P w K A N H' p (i+1) b c' true st' f0 f'→st'.length=st.length+1→Kp K N H H'→Plain H'→Q (.bl true) H'
theorem zpq {α:Type} {g:α→Bool}:∀ {bs:List α} {n:Nat},n≤bs.length→(∀ j x,bs[j]? = some x→(g x=true↔j<n))→(bs.filter g).length=n
 | [],n,h,_=>by
  have:n=0:=by simpa using h
  rw [this];rfl
 | x::bs,0,_,h=>by
  rw [List.filter_eq_nil_iff.mpr λ y hy e=>by
   obtain ⟨j,hj⟩:=List.getElem?_of_mem hy
   exact Nat.not_lt_zero _ ((h j y hj).mp e)]
  rfl
 | x::bs,n+1,hn,h=>by
  rw [List.filter_cons_of_pos ((h 0 x rfl).mpr (Nat.succ_pos _)),List.length_cons,zpq (n:=n) (by simpa using hn) λ j y hj=>(h (j+1) y (by simpa using hj)).trans (by omega)]
theorem zvx:∀ n:Nat,n<14→PyData.strOk (Txt.slice "mine and more" (some (n:Int)) none)=true∧zpb (Txt.slice "mine and more" (some (n:Int)) none)=true∧(Txt.slice "mine and more" (some (n:Int)) none).length≤13:=by decide +kernel
theorem zrn {ms:Sh} {i:Nat} {c:Int} (nd:(mks ms).Nodup) (G:∀ m v,look ms m=some v→FV i c m v) {bs:List Mark} (pm:bs.Perm (zhd ms)) (pw:bs.Pairwise λ a b=>lnLt ms a b=true):(∀ m∈bs,∃ v,look ms m=some v∧vOf ms m=v∧v.2.1≠[])∧bs.Pairwise λ a b=>pLt (vOf ms a).2.1 (vOf ms b).2.1=true:=by
 have h1:∀ m∈bs,∃ v,look ms m=some v∧vOf ms m=v∧v.2.1≠[]:=λ m hm=>by
  obtain ⟨v,e1,e2⟩:=(zkc nd m).mp (pm.mem_iff.mp hm)
  refine ⟨v,e1,by unfold vOf;rw [e1];rfl,λ z=>?_⟩
  unfold zjg at e2
  rw [decide_eq_true z] at e2
  cases e2
 refine ⟨h1,List.Pairwise.imp_of_mem (fun {a b} ha hb h=>?_) pw⟩
 rcases zrr h with e | e
 ·obtain ⟨va,a1,a2,a3⟩:=h1 a ha
  obtain ⟨vb,b1,b2,b3⟩:=h1 b hb
  obtain ⟨ra,xa,ea⟩:=(G a va a1).ps a3
  obtain ⟨rb,xb,eb⟩:=(G b vb b1).ps b3
  rw [a2,b2,ea,eb] at e
  have:=(List.append_inj' e rfl).2
  have hab:a=b:=(Prod.mk.inj (List.cons.inj this).1).2
  subst hab
  rw [(zsf ms).irr] at h
  cases h
 ·exact e
noncomputable def bAt (bs:List Mark) (n:Nat) (bo:Option Mark):Prop:=(n=0∧bo=none) ∨ ∃ m,0<n∧bs[n - 1]? = some m∧bo=some m
theorem zbi (ms:Sh):∀ bs:List Mark,noLs (bs.map (lnD ms))=true
 | []=>rfl
 | b::bs=>by
  show (noL (lnD ms b) && noLs (bs.map (lnD ms)))=true
  rw [zbi ms bs]
  rfl
noncomputable def lowD (ms:Sh):Option Mark→List Stp
 | none=>[]
 | some m=>(vOf ms m).2.1
theorem zuu {ms:Sh} {bs:List Mark} (h1:∀ m∈bs,∃ v,look ms m=some v∧vOf ms m=v∧v.2.1≠[]) {n:Nat} {bo:Option Mark} (hb:bAt bs n bo):zth ms bo=some (lowD ms bo):=by
 rcases hb with ⟨_,rfl⟩ | ⟨m,_,hm,rfl⟩
 ·rfl
 ·obtain ⟨v,e1,e2,e3⟩:=h1 m (List.mem_of_getElem? hm)
  have hB:hasB ms m=true:=by
   unfold hasB
   rw [e1]
   show (!decide (v.2.1=[]))=true
   rw [decide_eq_false e3]
   rfl
  show (if hasB ms m=true then some (vOf ms m).2.1 else none)=_
  rw [if_pos hB]
  rfl
theorem zlu {ms:Sh} {bs:List Mark} (nd:(mks ms).Nodup) (pm:bs.Perm (zhd ms)) (h1:∀ m∈bs,∃ v,look ms m=some v∧vOf ms m=v∧v.2.1≠[]) (h2:bs.Pairwise λ a b=>pLt (vOf ms a).2.1 (vOf ms b).2.1=true) {n:Nat} (hn:n≤bs.length) {bo:Option Mark} (hb:bAt bs n bo) {low:List Stp} (hl:zth ms bo=some low) {o:Option (List Stp)} (ho:zdo (zwe ms low []) o):(bs.filter (ahd ms o)).length=n:=by
 have hlow:=(zuu h1 hb).symm.trans hl
 have ix:∀ j x,bs[j]? = some x→(pLt low (vOf ms x).2.1=true↔n≤j):=λ j x hj=>by
  have hx:=List.mem_of_getElem? hj
  obtain ⟨hj1,hj2⟩:=List.getElem?_eq_some_iff.mp hj
  rcases hb with ⟨rfl,rfl⟩ | ⟨m,hn0,hm,rfl⟩
  ·obtain rfl:[]=low:=Option.some.inj hlow
   obtain ⟨v,e1,e2,e3⟩:=h1 x hx
   refine ⟨λ _=>Nat.zero_le _,λ _=>?_⟩
   rw [e2]
   cases e:v.2.1 with
   | nil=>exact absurd e e3
   | cons a r=>rfl
  ·obtain rfl:(vOf ms m).2.1=low:=Option.some.inj hlow
   obtain ⟨hm1,hm2⟩:=List.getElem?_eq_some_iff.mp hm
   constructor
   ·intro h
    refine Classical.byContradiction λ z=>?_
    rcases Nat.lt_or_eq_of_le (show j≤n - 1 by omega) with hlt | heq
    ·have:=List.pairwise_iff_getElem.mp h2 j (n - 1) hj1 hm1 hlt
     rw [hj2,hm2] at this
     rw [pLt_sto.asym this] at h
     cases h
    ·subst heq
     rw [hj] at hm
     cases hm
     rw [pLt_sto.irr] at h
     cases h
   ·intro h
    have:=List.pairwise_iff_getElem.mp h2 (n - 1) j hm1 hj1 (by omega)
    rw [hj2,hm2] at this
    exact this
 have hi:∀ j x,bs[j]? = some x→n≤j→(vOf ms x).2.1∈zwe ms low []:=λ j x hj hle=>by
  refine List.mem_map.mpr ⟨x,List.mem_filter.mpr ⟨zom (pm.mem_iff.mp (List.mem_of_getElem? hj)),?_⟩,rfl⟩
  unfold zpk
  rw [(ix j x hj).mpr hle]
  rfl
 refine zpq hn λ j x hj=>?_
 obtain ⟨hj1,hj2⟩:=List.getElem?_eq_some_iff.mp hj
 cases o with
 | none =>
  have ho:zwe ms low []=[]:=ho
  refine ⟨λ _=>Classical.byContradiction λ z=>?_,λ _=>rfl⟩
  have:=hi j x hj (by omega)
  rw [ho] at this
  cases this
 | some h =>
  obtain ⟨g1,g2⟩:=(show h∈zwe ms low []∧∀ q∈zwe ms low [],h=q ∨ pLt h q=true from ho)
  obtain ⟨k,hk,rfl⟩:=List.mem_map.mp g1
  obtain ⟨k1,k2⟩:=List.mem_filter.mp hk
  obtain ⟨jk,hjk⟩:=List.getElem?_of_mem (pm.mem_iff.mpr (zht nd k1 k2))
  obtain ⟨hk1,hk2⟩:=List.getElem?_eq_some_iff.mp hjk
  have hle:n≤jk:=(ix jk k hjk).mp (by
   unfold zpk at k2
   rw [Bool.and_eq_true] at k2
   exact k2.2)
  show pLt (vOf ms x).2.1 (vOf ms k).2.1=true↔j<n
  constructor
  ·intro hlt
   refine Classical.byContradiction λ z=>?_
   rcases g2 _ (hi j x hj (by omega)) with e | e
   ·rw [e,pLt_sto.irr] at hlt
    cases hlt
   ·rw [pLt_sto.asym hlt] at e
    cases e
  ·intro hlt
   have:=List.pairwise_iff_getElem.mp h2 j jk hj1 hk1 (by omega)
   rw [hj2,hk2] at this
   exact this
theorem zmk {ms ns:Sh} (nm:(mks ms).Nodup) (nn:(mks ns).Nodup) {bs cs:List Mark} {i:Nat} (hi:i<bs.length) {b:Int} {z:Str} (hlk:∀ k,look ns k=if bs[i]=k then some ((b,(vOf ms bs[i]).2.1,z):Ver) else look ms k)
  (pb:bs.Perm (zhd ms)) (pwb:bs.Pairwise λ x y=>lnLt ms x y=true) (pc:cs.Perm (zhd ns)) (pwc:cs.Pairwise λ x y=>lnLt ns x y=true):cs.map (lnD ns)=(bs.take i).map (lnD ms)++[.tuple [markD bs[i],.str z]]++(bs.drop (i+1)).map (lnD ms):=by
 have ndb:bs.Nodup:=pb.nodup_iff.mpr (zde nm)
 have es:bs=bs.take i++bs[i]::bs.drop (i+1):=by rw [← List.drop_eq_getElem_cons hi,List.take_append_drop]
 have pl:∀ k,(vOf ns k).2.1=(vOf ms k).2.1:=λ k=>by
  by_cases e:bs[i]=k
  ·have:vOf ns k=(b,(vOf ms bs[i]).2.1,z):=by unfold vOf;rw [hlk,if_pos e];rfl
   rw [this,e]
  ·rw [zcd (a:=ns) (b:=ms) (by rw [hlk,if_neg e])]
 have lt:∀ x y,lnLt ns x y=lnLt ms x y:=λ x y=>by unfold lnLt;rw [pl,pl]
 have e:cs=bs:=by
  refine ztf nn pc pwc ndb (λ k=>?_) (pwb.imp fun {x y} g=>by rw [lt];exact g)
  rw [pb.mem_iff,zkc nm]
  by_cases e:bs[i]=k
  ·obtain ⟨v,h1,h2⟩:=(zkc nm bs[i]).mp (pb.mem_iff.mp (List.getElem_mem hi))
   rw [← e]
   refine ⟨λ _=>⟨_,by rw [hlk,if_pos rfl],?_⟩,λ _=>⟨v,h1,h2⟩⟩
   have:vOf ms bs[i]=v:=by unfold vOf;rw [h1];rfl
   unfold zjg at h2 ⊢
   rw [this]
   exact h2
  ·rw [hlk,if_neg e]
 rw [e]
 have nin:bs[i]∉bs.take i++bs.drop (i+1):=λ z=>by
  rw [es] at ndb
  exact (List.nodup_cons.mp (List.perm_middle.nodup_iff.mp ndb)).1 z
 have lk:∀ k∈bs.take i++bs.drop (i+1),lnD ns k=lnD ms k:=λ k hk=>zdg (by rw [hlk,if_neg λ e=>nin (by rw [e];exact hk)])
 have hm:bs.map (lnD ns)=(bs.take i).map (lnD ns)++lnD ns bs[i]::(bs.drop (i+1)).map (lnD ns):=by
  conv=>lhs;rw [es]
  rw [List.map_append,List.map_cons]
 rw [hm,List.map_congr_left λ k h=>lk k (List.mem_append_left _ h),List.map_congr_left λ k h=>lk k (List.mem_append_right _ h),List.append_assoc]
 have h3:lnD ns bs[i] = .tuple [markD bs[i],.str z]:=by
  unfold lnD
  rw [show vOf ns bs[i]=(b,(vOf ms bs[i]).2.1,z) by unfold vOf;rw [hlk,if_pos rfl];rfl]
 rw [h3]
 rfl
theorem zc9 {α β γ:Type} {ok G:α→β→γ→Prop} {C:Prop} (h1:(∀ x y z,ok x y z→G x y z)→C) (h2:∀ x y z,ok x y z→G x y z):C:=h1 h2
theorem EnL.off {K:W.Frag} {N:List Addr} {H:Hp} {a:Addr}:∀ {vs:List V} {es:List (List Chg)},EnL K N H vs es→(∀ v∈vs,v ≠ .ref a)→EnL K (a::N) H vs es
 | _,_,.nil,_=>.nil
 | _,_,.cons r rr,h=>by
  obtain ⟨l,zs,e,nl,hl,q⟩:=r
  exact .cons ⟨l,zs,e,λ z=>(List.mem_cons.mp z).elim (λ z=>h _ List.mem_cons_self (by rw [e,z])) nl,hl,q⟩ (EnL.off rr λ v hv=>h v (List.mem_cons_of_mem _ hv))
theorem EnL.ne {K:W.Frag} {N:List Addr} {H:Hp} {a:Addr} (ha:H a=none):∀ {vs:List V} {es:List (List Chg)},EnL K N H vs es→∀ v∈vs,v ≠ .ref a
 | _,_,.cons r rr,v,hv=>by
  rcases List.mem_cons.mp hv with rfl | hv
  ·obtain ⟨l,zs,e,_,hl,_⟩:=r
   intro z
   rw [e] at z
   cases z
   rw [ha] at hl
   cases hl
  ·exact EnL.ne ha rr v hv
theorem WinK.put {P:Program} {w:World} {K:W.Frag} {A:Adr} {H:Hp} {p lg S U:Addr} {n b:Int} {B:V} {D:Addr} {ms:Sh} {c:Int} {xs ys:List V} {st:List (List Chg)} (h:WinK P w K A H p lg S U n b B D ms c xs ys st) {a:Addr} {ws ws':List V} (ha:H a=some (.lst ws)) (n1:a≠S) (n2:a≠U) (hx:∀ v∈xs,v ≠ .ref a):WinK P w K A (L2.upd H a (.lst ws')) p lg S U n b B D ms c xs ys st:=by
 have k:But [a] H (L2.upd H a (.lst ws')):=But.put (by simp)
 have mu:Mu [a] H:=Mu.nil.lst ha
 obtain ⟨dl,hlg⟩:=h.l.hp
 refine ⟨h.o.imp λ _ e=>k _ _ (λ z=>by rw [List.mem_singleton.mp z,ha] at e;cases e) e,h.l.but k (λ x hx z=>?_),EnL.less (EnL.but (EnL.off h.e hx) k mu.noT λ m hm=>.inl (by rw [List.mem_singleton.mp hm];simp)) (by simp),h.d.but k mu⟩
 rw [List.mem_singleton.mp z] at hx
 rcases List.mem_cons.mp hx with e | hx
 ·rw [← e,ha] at hlg;cases hlg
 rcases List.mem_cons.mp hx with e | hx
 ·exact n1 e
 ·exact n2 (List.mem_singleton.mp hx)
noncomputable def znw (P:Program) (w:World) (K:W.Frag) (A:Adr):Sp:=λ vs H Q _=>Plain H∧∃ (p:Addr) (N:List Addr) (i:Nat) (b c:Int) (z:Bool) (st:List (List Chg)) (f0 f:Mark→Option Ver) (k cell:Int),vs=[.ref p,.int k,.int cell]∧LSt P w K A N H p i b c z st f0 f∧i≤62∧(∀ a∈N,H a≠none)∧(∃ m v,f m=some v∧v.2.1≠[]) ∧
 ∀ st' f' c' H',LSt P w K A N H' p (i+1) b c' true st' f0 f'→st'.length=st.length+1→Kp K N H H'→Plain H'→Q (.bl true) H'
theorem addx {z:Str} {n:Nat} (h1:PyData.strOk z=true) (h2:zpb z=true) (h3:z.length≤n):PyData.strOk (z ++ "x")=true∧zpb (z ++ "x")=true∧(z ++ "x").length≤n+1:=by
 have e:(z ++ "x").cps=z.cps ++ #[120]:=rfl
 refine ⟨?_,?_,?_⟩
 ·show (z ++ "x").cps.all (λ c=>decide (c<0x110000))=true
  rw [e,Array.all_append,show z.cps.all (λ c=>decide (c<0x110000))=true from h1]
  decide +kernel
 ·rw [zkp] at h2 ⊢
  rw [e,Array.toList_append]
  simp only [Bool.and_eq_true,Bool.not_eq_true',decide_eq_false_iff_not,List.mem_append,not_or] at h2 ⊢
  exact ⟨⟨h2.1,by decide⟩,h2.2,by decide⟩
 ·show (z ++ "x").cps.size≤n+1
  rw [e,Array.size_append]
  show z.cps.size+1≤n+1
  exact Nat.succ_le_succ h3
noncomputable def zww (P:Program) (w:World) (K:W.Frag) (A:Adr):Sp:=λ vs H Q _=>Plain H∧∃ (p:Addr) (N:List Addr) (i:Nat) (b c:Int) (z:Bool) (st:List (List Chg)) (f0 f:Mark→Option Ver) (cell:Int),vs=[.ref p,.int i,.int cell]∧LSt P w K A N H p i b c z st f0 f∧i≤62∧(∀ a∈N,H a≠none) ∧
 ∀ f' H',LSt P w K A N H' p (i+1) ((i:Int)+1) c true [] f' f'→Kp K N H H'→Plain H'→Q (.bl true) H'
theorem FV.moreI {i:Nat} {c:Int} {m:Mark} {v:Ver} (h:FV i c m v):FV (i+1) c m v:=⟨by have:=h.mb;rw [show ((i+1:Nat):Int)=(i:Int)+1 by omega];omega,h.ok,h.wb,by have:=h.wl;omega,by have:=h.pl;omega,h.ps⟩
theorem zco {b:Bool} (e:b=true) {A B:Prop} (h:B):if (!b)=true then A else B:=by subst e;exact h
theorem zpp {a c:Sh} (na:(mks a).Nodup) (nc:(mks c).Nodup) (e:∀ k,look a k=look c k):a.Perm c :=
 zdh (List.Pairwise.of_map (S:=λ x y=>x≠y) (λ x:Mark×Ver=>x.1) (λ _ _ h z=>h (by rw [z])) na) (List.Pairwise.of_map (S:=λ x y=>x≠y) (λ x:Mark×Ver=>x.1) (λ _ _ h z=>h (by rw [z])) nc) λ x=>⟨λ h=>zqb ((e x.1).symm.trans (zhb na h)),λ h=>zqb ((e x.1).trans (zhb nc h))⟩
theorem znr {b d:Sh} (p:b.Perm d) (pb:b.Pairwise λ x y=>mLt x.1 y.1=true) (pd:d.Pairwise λ x y=>mLt x.1 y.1=true):b=d :=
 uniq (r:=λ x y:Mark×Ver=>mLt x.1 y.1=true) (λ x y g1 g2=>by
  have g3:=mLt_sto.asym g1
  rw [g2] at g3
  cases g3) p pb pd
theorem zmw {ms:Sh} {b d:List Mark} (p:b.Perm d) (pb:b.Pairwise λ x y=>lnLt ms x y=true) (pd:d.Pairwise λ x y=>lnLt ms x y=true):b=d :=
 uniq (r:=λ x y:Mark=>lnLt ms x y=true) (λ x y g1 g2=>by
  have g3:=(zsf ms).asym g1
  rw [g2] at g3
  cases g3) p pb pd
theorem EnL.neE {K:W.Frag} {N:List Addr} {H:Hp} {a:Addr} (ha:∀ xs,H a≠some (.lst xs)):∀ {vs:List V} {es:List (List Chg)},EnL K N H vs es→∀ v∈vs,v ≠ .ref a
 | _,_,.cons r rr,v,hv=>by
  rcases List.mem_cons.mp hv with rfl | hv
  ·obtain ⟨l,zs,e,_,hl,_⟩:=r
   intro z
   rw [e] at z
   cases z
   exact ha _ hl
  ·exact EnL.neE ha rr v hv
theorem LSt.td {P:Program} {w:World} {K:W.Frag} {A:Adr} {N:List Addr} {H:Hp} {p:Addr} {i:Nat} {b c:Int} {z:Bool} {st:List (List Chg)} {f0 f:Mark→Option Ver} (h:LSt P w K A N H p i b c z st f0 f) {kd:Addr} {φ φ':Heap→Prop} (hk:H kd=some (.ext φ)) (nd:∀ d es o,H d=some (dO P w d es o)→d≠kd):LSt P w K A N (L2.upd H kd (.ext φ')) p i b c z st f0 f:=by
 obtain ⟨lg,S,U,B,D,ms,xs,ys,Um,h1,W,h3⟩:=h.ex
 have k:But [kd] H (L2.upd H kd (.ext φ')):=But.put (by simp)
 have n:NoT [kd] H:=λ m hm o e=>by rw [List.mem_singleton.mp hm,hk] at e;cases e;exact zpg _
 obtain ⟨dl,hlg⟩:=W.l.hp
 obtain ⟨dx,d,es,o,g1,g2,g3⟩:=W.d.ex
 refine ⟨⟨lg,S,U,B,D,ms,xs,ys,Um,h1,⟨W.o.imp λ _ e=>k _ _ (λ z=>by rw [List.mem_singleton.mp z,hk] at e;cases e) e,W.l.but k (λ x hx z=>?_),EnL.less (EnL.but (EnL.off W.e (EnL.neE (λ xs z=>by rw [hk] at z;cases z) W.e)) k n λ m hm=>.inl (by rw [List.mem_singleton.mp hm];simp)) (by simp),⟨⟨dx,d,es,o,by rw [zha (zxd g1 hk (by intro z;cases z))];exact g1,by rw [zha (nd d es o g2)];exact g2,g3.imp (λ _ _ q=>zoe k n q) λ v x q=>zis k n _ _ (zoh v) q⟩,W.d.nd,W.d.ok,W.d.few⟩⟩,h3⟩,h.sl,h.c0,h.cl⟩
 rw [List.mem_singleton.mp z] at hx
 rcases List.mem_cons.mp hx with e | hx
 ·rw [← e,hk] at hlg;cases hlg
 rcases List.mem_cons.mp hx with e | hx
 ·have:=W.l.hS;rw [← e,hk] at this;cases this
 ·have:=W.l.hU;rw [← List.mem_singleton.mp hx,hk] at this;cases this
structure Kq (K:W.Frag) (N:List Addr) (H H':Hp):Prop where
 n:∀ a∈N,∀ xs,H a=some (.lst xs)→H' a=some (.lst xs)
 t:∀ a xs,SqT K H a xs→SqT K H' a xs
theorem Kp.q {K:W.Frag} {N:List Addr} {H H':Hp} (k:Kp K N H H'):Kq K N H H':=⟨k.n,k.t⟩
theorem Kq.trans {K:W.Frag} {N:List Addr} {H H1 H2:Hp} (a:Kq K N H H1) (b:Kq K N H1 H2):Kq K N H H2:=⟨λ x hx o h=>b.n x hx o (a.n x hx o h),λ x xs h=>b.t x xs (a.t x xs h)⟩
theorem Kq.td {K:W.Frag} {N:List Addr} {H:Hp} {kd:Addr} {φ φ':Heap→Prop} (hk:H kd=some (.ext φ)):Kq K N H (L2.upd H kd (.ext φ')):=⟨λ a _ xs e=>by rw [zha (zxd e hk (by intro z;cases z))];exact e,λ a xs h=>zag hk (zpg _) h⟩
noncomputable def kvK (n:Int) (v:V):List (Str×V):=[("stand",.int n),("pairs",v)]
theorem kv_s (n:Int) (v:V):vAt (kvK n v) "stand" = some (.int n):=rfl
theorem kv_p (n:Int) (v:V):vAt (kvK n v) "pairs" = some v:=by
 unfold vAt kvK
 rw [List.find?_cons,show decide ((Str.ofString "stand")=Str.ofString "pairs")=false by decide +kernel,List.find?_cons]
 rfl
theorem zp4 (n m:Int) (v:V):setV (kvK n v) "stand" (.int m)=kvK m v:=by
 unfold setV kvK
 rw [List.map_cons,List.map_cons,if_pos rfl,if_neg (show ¬ (Str.ofString "pairs")=Str.ofString "stand" by decide +kernel)]
 rfl
theorem zw6 (n:Int) (v u:V):setV (kvK n v) "pairs" u=kvK n u:=by
 unfold setV kvK
 rw [List.map_cons,List.map_cons,if_neg (show ¬ (Str.ofString "stand")=Str.ofString "pairs" by decide +kernel),if_pos rfl]
 rfl
noncomputable def zfz (P:Program) (w:World) (K:W.Frag) (A:Adr):Sp:=λ vs H Q _=>Plain H∧∃ (p kd:Addr) (N:List Addr) (i:Nat) (b c:Int) (z:Bool) (st:List (List Chg)) (f0 f:Mark→Option Ver) (pv:V),vs=[.ref p,.ref kd]∧LSt P w K A N H p i b c z st f0 f∧i≤62∧H kd=some (tdO P w kd (kvK st.length pv)) ∧
 ∀ z' st' f' H',LSt P w K A N H' p i b c z' st' f0 f'→H' kd=some (tdO P w kd (kvK st'.length pv))→Kq K N H H'→Plain H'→Q (.bl true) H'
theorem zy0 (n:Int) (v:V):((kvK n v).any λ e=>decide (e.1 = "stand"))=true:=by
 unfold kvK
 rw [List.any_cons,decide_eq_true rfl]
 rfl
theorem zq6 (n:Int) (v:V):((kvK n v).any λ e=>decide (e.1 = "pairs"))=true:=by
 unfold kvK
 rw [List.any_cons,List.any_cons,decide_eq_true (p:=(Str.ofString "pairs")=Str.ofString "pairs") rfl,Bool.true_or,Bool.or_true]
noncomputable def zwx (P:Program) (w:World) (K:W.Frag) (A:Adr):Sp:=λ vs H Q _=>Plain H∧∃ (p kd sl:Addr) (i:Nat) (b c:Int) (z:Bool) (st:List (List Chg)) (f0 f:Mark→Option Ver) (pl:Addr) (ws:List V) (bs:Sh) (cell:Int),vs=[.ref p,.ref kd,.int i,.int cell]∧LSt P w K A [sl,pl] H p i b c z st f0 f∧i≤62∧(∃ cs,H sl=some (.lst cs))∧H kd=some (tdO P w kd (kvK st.length (.ref pl)))∧H pl=some (.lst ws)∧DVs K H (bs.map prD) ws∧bs.Pairwise (λ a b=>mLt a.1 b.1=true)∧(∀ m∈bs,okV m.2)∧(∀ k,look bs k=f0 k) ∧
 ∀ b' c' z' st' f0' f' pl' ws' bs' H',LSt P w K A [sl,pl'] H' p (i+1) b' c' z' st' f0' f'→H' kd=some (tdO P w kd (kvK st'.length (.ref pl')))→H' pl'=some (.lst ws')→DVs K H' (bs'.map prD) ws'→bs'.Pairwise (λ a b=>mLt a.1 b.1=true)→(∀ m∈bs',okV m.2)→(∀ k,look bs' k=f0' k)→Kq K [sl] H H'→Plain H'→Q (.bl true) H'
noncomputable def zc4:Sp:=λ vs H Q _=>∃ (c k:Int),vs=[.int c,.int k]∧0≤k∧k<100∧∀ z:Int,Q (.int z) H
theorem LSt.up {P:Program} {w:World} {K:W.Frag} {A:Adr} {N:List Addr} {H:Hp} {p:Addr} {i:Nat} {b c:Int} {z:Bool} {st:List (List Chg)} {f0 f:Mark→Option Ver} (h:LSt P w K A N H p i b c z st f0 f):LSt P w K A N H p (i+1) b c z st f0 f:=by
 obtain ⟨lg,S,U,B,D,ms,xs,ys,Um,h1,W,sk,hms,hUm,hyl,hzy,hN⟩:=h.ex
 exact ⟨⟨lg,S,U,B,D,ms,xs,ys,Um,h1,W,sk.mono (λ g hg=>⟨λ m v e=>(hg.v m v e).moreI,hg.u⟩),hms,by omega,by omega,hzy,hN⟩,by have:=h.sl;omega,h.c0,by have:=h.cl;rw [show ((i+1:Nat):Int)=(i:Int)+1 by omega];omega⟩
theorem LSt.newN {P:Program} {w:World} {K:W.Frag} {A:Adr} {N M:List Addr} {H H':Hp} {p:Addr} {i:Nat} {b c:Int} {z:Bool} {st:List (List Chg)} {f0 f:Mark→Option Ver} (h:LSt P w K A N H p i b c z st f0 f) (s:Same H H') (hM:∀ x∈M,x∈N ∨ H x=none):LSt P w K A M H' p i b c z st f0 f:=by
 obtain ⟨lg,S,U,B,D,ms,xs,ys,Um,h1,W,sk,hms,hUm,hyl,hzy,hN⟩:=h.ex
 exact ⟨⟨lg,S,U,B,D,ms,xs,ys,Um,h1,W.same s,sk,hms,hUm,hyl,hzy,λ x hx=>(hM x hx).elim (hN x) λ e=>⟨λ z=>(by rw [z,W.l.hS] at e;cases e),λ z=>(by rw [z,W.l.hU] at e;cases e)⟩⟩,h.sl,h.c0,h.cl⟩
mutual
theorem Kq.dv {K:W.Frag} {N:List Addr} {H H':Hp} (k:Kq K N H H'):∀ (d:PyData) (v:V),noL d=true→DV K H d v→DV K H' d v
 | .none,v,_,h=>h
 | .bool b,v,_,h=>h
 | .int i,v,_,h=>h
 | .str x,v,_,h=>h
 | .list xs,v,n',_=>by cases n'
 | .tuple xs,v,n',⟨a,vs,h1,h2,h3⟩=>⟨a,vs,h1,k.t _ _ h2,k.dvs xs vs n' h3⟩
 | .dict _,v,_,h=>h.elim
theorem Kq.dvs {K:W.Frag} {N:List Addr} {H H':Hp} (k:Kq K N H H'):∀ (ds:List PyData) (vs:List V),noLs ds=true→DVs K H ds vs→DVs K H' ds vs
 | [],vs,_,h=>h
 | d::ds,vs,n',⟨v,r,h1,h2,h3⟩=>by
  have n':noL d=true∧noLs ds=true:=by rw [noLs,Bool.and_eq_true] at n';exact n'
  exact ⟨v,r,h1,k.dv d v n'.1 h2,k.dvs ds r n'.2 h3⟩
end
theorem zkv {K:W.Frag} {N:List Addr} {H H':Hp} (k:Kq K N H H') {bs:Sh} {ws:List V} (h:DVs K H (bs.map prD) ws):DVs K H' (bs.map prD) ws:=k.dvs _ _ (zpj bs) h
theorem zxv {α:Type} {ok G:α→Prop} {C:Prop} (h1:(∀ x,ok x→G x)→C) (h2:∀ x,ok x→G x):C:=h1 h2
theorem zo4 {K:W.Frag} {H:Hp} {kd:Addr} {φ φ':Heap→Prop} (hk:H kd=some (.ext φ)) {bs:Sh} {ws:List V} (h:DVs K H (bs.map prD) ws):DVs K (L2.upd H kd (.ext φ')) (bs.map prD) ws :=
 zlb (M:=[kd]) (But.put (by simp)) (λ m hm o e=>by rw [List.mem_singleton.mp hm,hk] at e;cases e;exact zpg _) _ _ (zpj bs) h
noncomputable def LW (P:Program) (w:World) (K:W.Frag) (A:Adr) (H:Hp) (p kd c1:Addr) (i:Nat):Prop:=∃ (b c:Int) (z:Bool) (st:List (List Chg)) (f0 f:Mark→Option Ver) (pl:Addr) (ws:List V) (bs:Sh),LSt P w K A [c1,pl] H p i b c z st f0 f∧H kd=some (tdO P w kd (kvK st.length (.ref pl)))∧H pl=some (.lst ws)∧DVs K H (bs.map prD) ws∧bs.Pairwise (λ a b=>mLt a.1 b.1=true)∧(∀ m∈bs,okV m.2)∧∀ k,look bs k=f0 k
section
variable (P:Program) (w:World) (K:W.Frag) (mg:Str→Option Value) (B:Heap) (A:Adr)
noncomputable abbrev zxw:Prop:=FnOk P w K mg B (CX1 P w B) 1 A.f_q40 A.d_q40 ["text"] zw5
noncomputable abbrev zov:Prop:=FnOk P w K mg B (CX1 P w B) 1 A.f_q35 A.d_q35 ["low", "high"] (zc7 K)
noncomputable abbrev zly:Prop:=FnOk P w K mg B (CX1 P w B) 2 A.f_q43 A.d_q43 ["low", "high", "window", "count"] (zr7 K A)
noncomputable abbrev zfy:Prop:=FnOk P w K mg B (CX1 P w B) 1 A.f_q25 A.d_q25 ["beat"] (zr3 K)
noncomputable abbrev zcs:Prop:=FnOk P w K mg B (CX1 P w B) 1 A.f_q44 A.d_q44 ["version"] (zn7 K)
noncomputable abbrev zur:Prop:=FnOk P w K mg B (CX1 P w B) 2 A.f_q26 A.d_q26 ["words"] (za5 A)
noncomputable abbrev zzy:Prop:=FnOk P w K mg B (CX1 P w B) 1 A.f_q2 A.d_q2 ["self", "pairs"] (zi2 P w K A.Sheet A.NoSheet)
noncomputable abbrev zfp:Prop:=FnOk P w K mg B (CX1 P w B) 1 A.f_q13 A.d_q13 ["self"] (zdz P w K A.Sheet)
noncomputable abbrev zck:Prop:=FnOk P w K mg B (CX1 P w B) 2 A.f_q18 A.d_q18 ["self"] (zl1 P w K A.Sheet)
noncomputable abbrev zwy:Prop:=FnOk P w K mg B (CX1 P w B) 1 A.f_q6 A.d_q6 ["self", "mark"] (zg5 P w K A.Sheet)
noncomputable abbrev zav:Prop:=FnOk P w K mg B (CX1 P w B) 2 A.f_q30 A.d_q30 ["self", "mark"] (zk4 P w K A.Sheet)
noncomputable abbrev zsp:Prop:=FnOk P w K mg B (CX1 P w B) 3 A.f_q14 A.d_q14 ["self", "mark"] (zj3 P w K A)
noncomputable abbrev ze6:Prop:=FnOk P w K mg B (CX1 P w B) 1 A.f_q0 A.d_q0 ["self", "low", "aside"] (zd9 P w K A)
noncomputable abbrev zuw:Prop:=FnOk P w K mg B (CX1 P w B) 4 A.f_q28 A.d_q28 ["self", "behind", "aside"] (zgz P w K A)
noncomputable abbrev zhy:Prop:=FnOk P w K mg B (CX1 P w B) 3 A.f_q15 A.d_q15 ["self", "pairs"] (zh0 P w K A)
noncomputable abbrev zny:Prop:=FnOk P w K mg B (CX1 P w B) 5 A.f_q22 A.d_q22 ["sheet", "behind", "aside", "maker"] (zg2 P w K A)
noncomputable abbrev zdw:Prop:=FnOk P w K mg B (CX1 P w B) 6 A.f_q36 A.d_q36 ["sheet", "behind", "words", "beat", "maker"] (zx4 P w K A)
noncomputable abbrev zgw:Prop:=FnOk P w K mg B (CX1 P w B) 7 A.f_put A.d_put ["sheet", "deed", "beat", "maker"] (zpz P w K A)
noncomputable abbrev zux:Prop:=FnOk P w K mg B (CX1 P w B) 4 A.f_q46 A.d_q46 ["sheet", "deed", "beat", "maker"] (zr0 P w K A)
noncomputable abbrev zby:Prop:=FnOk P w K mg B (CX1 P w B) 4 A.f_q45 A.d_q45 ["sheet", "deed", "beat", "maker"] (zx1 P w K A)
noncomputable abbrev zlx:Prop:=FnOk P w K mg B (CX1 P w B) 8 A.f_q47 A.d_q47 ["sheet", "deed", "beat", "window", "count"] (ze4 P w K A)
noncomputable abbrev zpt:Prop:=FnOk P w K mg B (CX1 P w B) 1 A.f_q37 A.d_q37 ["entries", "others"] (zgx K A.NoDeed)
noncomputable abbrev zm6:Prop:=FnOk P w K mg B (CX1 P w B) 1 A.f_q7 A.d_q7 ["self"] (zox A.Log)
noncomputable abbrev zyr:Prop:=FnOk P w K mg B (CX1 P w B) 1 A.f_q27 A.d_q27 ["self"] (zzp A.Log)
noncomputable abbrev zlv:Prop:=FnOk P w K mg B (CX1 P w B) 2 A.f_q32 A.d_q32 ["self"] (zgt A.Log)
noncomputable abbrev zjw:Prop:=FnOk P w K mg B (CX1 P w B) 2 A.f_q41 A.d_q41 ["self", "entry"] (zx3 K A.Log)
noncomputable abbrev zws:Prop:=FnOk P w K mg B (CX1 P w B) 2 A.f_q39 A.d_q39 ["self"] (zqr K A.Log A.NoDeed true)
noncomputable abbrev zes:Prop:=FnOk P w K mg B (CX1 P w B) 2 A.f_q31 A.d_q31 ["self"] (zqr K A.Log A.NoDeed false)
noncomputable abbrev zvw:Prop:=FnOk P w K mg B (CX1 P w B) 1 A.f_q17 A.d_q17 ["self"] (zzu A.Log)
noncomputable abbrev zn6:Prop:=FnOk P w K mg B (CX1 P w B) 3 A.f_q1 A.d_q1 ["self", "number", "base", "sheet", "count"] (zi1 A)
noncomputable abbrev zts:Prop:=FnOk P w K mg B (CX1 P w B) 1 A.f_q24 A.d_q24 ["self"] (zbt A λ _ b _ _=>.int b)
noncomputable abbrev zwz:Prop:=FnOk P w K mg B (CX1 P w B) 1 A.f_q3 A.d_q3 ["self"] (zbt A λ _ _ _ c=>.int c)
noncomputable abbrev zdp:Prop:=FnOk P w K mg B (CX1 P w B) 1 A.f_q12 A.d_q12 ["self"] (zbt A λ _ _ D _=>.ref D)
noncomputable abbrev znm:Prop:=FnOk P w K mg B (CX1 P w B) 3 A.f_q11 A.d_q11 ["self"] (zq5 P w K A)
noncomputable abbrev zb5:Prop:=FnOk P w K mg B (CX1 P w B) 2 A.f_q4 A.d_q4 ["self"] (zb1 A)
noncomputable abbrev zyy:Prop:=FnOk P w K mg B (CX1 P w B) 4 A.f_q8 A.d_q8 ["self", "pairs"] (zi0 P w K A)
noncomputable abbrev zwr:Prop:=FnOk P w K mg B (CX1 P w B) 9 A.f_q20 A.d_q20 ["self", "deed", "beat"] (ziz P w K A)
noncomputable abbrev zgy:Prop:=FnOk P w K mg B (CX1 P w B) 5 A.f_q21 A.d_q21 ["self"] (zn3 P w K A)
noncomputable abbrev zy6:Prop:=FnOk P w K mg B (CX1 P w B) 5 A.f_q9 A.d_q9 ["self"] (zr2 A)
noncomputable abbrev zk6:Prop:=FnOk P w K mg B (CX1 P w B) 1 A.f_q5 A.d_q5 ["self", "save", "sheet"] (zy4 A)
noncomputable abbrev zuy:Prop:=FnOk P w K mg B (CX1 P w B) 3 A.f_q10 A.d_q10 ["self", "save", "sheet"] (zyz A)
noncomputable abbrev zhv:Prop:=FnOk P w K mg B (CX1 P w B) 1 A.f_q16 A.d_q16 ["_law_script", "_law_k"] (zdx K)
noncomputable abbrev zop:Prop:=FnOk P w K mg B (CX1 P w B) 6 A.f_q19 A.d_q19 ["_law_window", "_law_back_here"] (zk1 P w K A)
noncomputable abbrev zbx:Prop:=FnOk P w K mg B (CX1 P w B) 7 A.f_q29 A.d_q29 ["_law_window", "_law_k", "_law_cell"] (zww P w K A)
noncomputable abbrev zbv:Prop:=FnOk P w K mg B (CX1 P w B) 10 A.f_q42 A.d_q42 ["_law_window", "_law_k", "_law_cell"] (zay P w K A)
noncomputable abbrev zzx:Prop:=FnOk P w K mg B (CX1 P w B) 10 A.f_q23 A.d_q23 ["_law_window", "_law_k", "_law_cell"] (znw P w K A)
noncomputable abbrev znx:Prop:=FnOk P w K mg B (CX1 P w B) 7 A.f_q34 A.d_q34 ["_law_window", "_law_kept"] (zfz P w K A)
noncomputable abbrev zex:Prop:=FnOk P w K mg B (CX1 P w B) 11 A.f_q38 A.d_q38 ["_law_window", "_law_kept", "_law_k", "_law_cell"] (zwx P w K A)
noncomputable abbrev ztv:Prop:=FnOk P w K mg B (CX1 P w B) 1 A.f_q33 A.d_q33 ["_law_cell", "_law_k"] zc4
noncomputable abbrev zn4:Prop:=FnOk P w K mg B (CX1 P w B) 12 A.f_law A.d_law ["_law_script"] (sp_law K)
end
set_option maxHeartbeats 4000000
section
variable {P:Program} {w:World} {K:W.Frag} {mg:Str→Option Value} {B:Heap} {A:Adr}
theorem zx5:FnScope ["text"] ["text"] (zea zq3):=by walk_at "sc"
theorem zn2 (T:Txt w K mg A)  : zxw P w K mg B A:=by
 refine FnOk.pure (T.F_q40.okN zx5 (λ vs H Q E h=>?_) (λ _ _ _ _ H vs Q E hr h=>?_))
 ·obtain ⟨_,a,rfl,_⟩:=h
  rfl
 ·obtain ⟨hp,z,rfl,q⟩:=h
  refine ⟨_,(zfa (zla (zme (zmb zee zbb (pv 0) (by rfl)) (zxe (zmb zee zbb (pv 0) (by rfl)))))),?_⟩
  refine ⟨_,rfl,_,_,rfl,rfl,_,rfl,?_⟩
  refine zy7 (λ h1=>?_) (λ h1=>?_)
  ·refine ⟨_,rfl,_,_,rfl,rfl,?_⟩
   exact q _ _ (congrArg V.bl (by unfold zpb hasS;rw [h1,Bool.true_and])) (Same.refl _)
  ·exact q _ _ (congrArg V.bl (by unfold zpb hasS;rw [h1,Bool.false_and])) (Same.refl _)
theorem zh1:FnScope ["low", "high"] ["low", "high"] (zea ze3):=by walk_at "sc"
theorem zb4 (T:Txt w K mg A)  : zov P w K mg B A:=by
 refine T.F_q35.okN zh1 (λ vs H Q E h=>?_) (λ _ _ _ _ H vs Q E hr h=>?_)
 ·obtain ⟨_,a,⟨x,y,rfl,_⟩,_⟩:=h
  rfl
 ·obtain ⟨hp,⟨low,high⟩,⟨x,y,hv,hx,hy,hr2⟩,q,_⟩:=h
  obtain rfl:vs=[x,y]:=hv
  dsimp only at *
  obtain ⟨p,xs,rfl,hq,hds⟩:=id hx
  have hxl:xs.length=low.length:=by rw [hds.length,List.length_map]
  refine ⟨_,(zba (zce (PW.pt (zrw (zqa zot (pv 1) zxg (zsa _)) (zus (zqa (zgk hr.units) (zac zkl (pv 1) zpc (zsc (zkb zeb rfl T.n_len (by decide +kernel) (zaa (pv 0) zda)))) (pv 0) (zsa _))))) (zfa (zla zia)) zxa)
   (zfa (zla (zta zfo (zkd zae (zkd zae (pv 1) (zkb zeb rfl T.n_len (by decide +kernel) (zaa (pv 0) zda)) (λ _ _=>rfl)) zia (λ _ _=>rfl)) zia)))),?_⟩
  cases high with
  | none =>
   obtain rfl:y = .non:=hy
   refine ⟨_,rfl,rfl,_,rfl,zj6 rfl (iteT ?_)⟩
   exact q _ _ rfl (Same.refl _) hp
  | some h =>
   obtain ⟨ph,ys,rfl,hqh,hdh⟩:=id hy
   have hyl:ys.length=h.length:=by rw [hdh.length,List.length_map]
   have hpl:pLt low h=true:=hr2 h rfl
   refine ⟨_,rfl,rfl,_,rfl,zu6 (by intro z;cases z) ?_⟩
   refine ⟨_,rfl,_,rfl,p,_,rfl,.inr hq,_,rfl,ph,ys,rfl,hqh,λ p1 G1 g1 s1 pg1=>?_⟩
   have PG1:=pg1 hp
   rw [zfi (by omega),Int.toNat_natCast,hxl] at g1
   have d1:DV K G1 (plc (h.take low.length)) (.ref p1):=⟨p1,_,rfl,g1,by rw [List.map_take];exact (DVs.same s1 _ _ hdh).take _⟩
   refine ⟨_,rfl,plc (h.take low.length),plc low,d1,DV.same s1 _ _ hx,znb _,znb _,_,rfl,?_⟩
   rw [zwi]
   refine zj7 (λ hne=>?_) (λ heq=>?_)
   ·have e0:zeo low (some h)=0:=if_neg hne
    exact q _ _ (by rw [e0]) s1 PG1
   ·obtain ⟨s0,r0,eh⟩:=zvu hpl heq
    have e0:zeo low (some h)=s0.1 - 1:=by
     show (if h.take low.length=low then ((h[low.length]?).getD (0,0,0)).1 - 1 else 0)=s0.1 - 1
     rw [if_pos heq,eh]
     simp
    obtain ⟨t0,ht0,hq0⟩:=zfn (DVs.same s1 _ _ hdh) (i:=low.length) (by rw [eh];simp)
    have es:h[low.length]'(by rw [eh];simp)=s0:=by simp [eh]
    rw [es] at hq0
    refine ⟨_,rfl,_,rfl,p,_,rfl,.inr (s1.seqT hq),zj0 (s1.seqT hqh) (by omega) (by rw [Int.toNat_natCast,hxl];exact ht0) ⟨_,_,_,_,rfl,rfl,hq0,rfl,_,_,rfl,rfl,q _ _ (by rw [e0]) s1 PG1⟩⟩
theorem zu0:FnScope ["low", "high", "window", "count"] ["low", "high", "window", "count"] (zea zx2):=by walk_at "sc"
theorem zw4 (T:Txt w K mg A) (G_q35:zov P w K mg B A):zly P w K mg B A:=by
 have B_q35:=T.b_q35
 refine T.F_q43.okX zu0 (λ vs H Q E h=>?_) (λ _ _ _ _ H vs Q E hr h=>?_)
 ·obtain ⟨_,a,⟨x,y,rfl,_⟩,_⟩:=h
  rfl
 ·obtain ⟨hp,⟨low,high,w1,c1⟩,⟨x,y,hv,hx,hy,hl⟩,q,qe⟩:=h
  obtain rfl:vs=[x,y,.int w1,.int c1]:=hv
  dsimp only at *
  obtain ⟨p,xs,rfl,hq,hds⟩:=id hx
  have hxl:xs.length=low.length:=by rw [hds.length,List.length_map]
  refine ⟨_,(zba (zce (PW.pt (zgs (zqa zpl (pv 1) zxg (zsa _)) (zsn (zqa (za0 hr.u100) (pv 0) (pv 1) (zsa _))))) (zfa (zrd T.x_NoRoom zna rfl rfl T.g_NoRoom (zaa zbb zda))) zxa)
   (zfa (zla (zta zcw (pv 0) (zya (zaa (zya (zaa (zpa G_q35 (hr.mono (by decide)) rfl T.g_q35 T.k_q35 B_q35 .nil zva (zaa (pv 0) (zaa (pv 1) zda))) (zaa (pv 2) (zaa (pv 3) zda)))) zda)))))),?_⟩
  apply zd8 (G:=zpy low high→_)
  ·intro R
   have hcase:high=none ∨ ∃ h,high=some h:=by cases high with | none=>exact .inl rfl | some h=>exact .inr ⟨h,rfl⟩
   rcases hcase with hn | ⟨h,hn⟩
   ·have hy0:y = .non:=by rw [hn] at hy;exact hy
    refine ⟨_,rfl,rfl,_,rfl,zv6 hy0 (iteF ?_)⟩
    exact R (λ h e=>by rw [hn] at e;cases e)
   ·have hy':DV K H (plc h) y:=by rw [hn] at hy;exact hy
    have hy0:y ≠ .non:=by obtain ⟨ph,ys,e,_⟩:=hy';rw [e];intro z;cases z
    refine ⟨_,rfl,rfl,_,rfl,zf6 hy0 ?_⟩
    refine ⟨_,rfl,_,rfl,low,h,hx,hy',_,rfl,?_⟩
    cases hpl:pLt low h with
    | false=>exact iteT ⟨by decide,qe _ _ ⟨rfl,λ g=>by rw [g h hn] at hpl;cases hpl⟩ (Same.refl _) hp⟩
    | true=>exact iteF (R (λ h' e=>by rw [hn] at e;cases e;exact hpl))
  intro hroom
  refine ⟨_,rfl,_,rfl,_,rfl,hp,(low,high),⟨_,_,rfl,hx,hy,hroom⟩,λ v H1 hv hs1 hp1'=>?_,λ _ _ h=>h.elim⟩
  subst hv
  refine ⟨_,rfl,_,rfl,sz_3,λ t1 hp2=>?_⟩
  generalize hH2:upd H1 t1 (HO.tup _)=H2
  have s2:Same H1 H2:=hH2 ▸ zga hp2
  have P2:Plain H2:=hH2 ▸ hp1'.tup
  have h2:=(congrFun hH2 t1).symm.trans upd_same
  refine ⟨sz_1,λ t2 hp3=>?_⟩
  generalize hH3:upd H2 t2 (HO.tup _)=H3
  have s3:Same H2 H3:=hH3 ▸ zga hp3
  have P3:Plain H3:=hH3 ▸ P2.tup
  have h3:=(congrFun hH3 t2).symm.trans upd_same
  have S3:=(hs1.trans s2).trans s3
  refine ⟨p,t2,_,_,rfl,rfl,S3.seqT hq,SqT.of h3,sm1 ((by show _+1≤1000;omega)),λ p4 G4 g4 s4 pg4=>q _ _ ⟨hroom,p4,rfl,p4,_,rfl,g4,?_⟩ (S3.trans s4) (pg4 P3)⟩
  rw [List.map_append]
  exact (DVs.same (S3.trans s4) _ _ hds).append ⟨_,_,rfl,zmt (s:=(zeo low high,w1,c1)) (SqT.of ((s3.trans s4) _ _ h2)),rfl⟩
theorem za3:FnScope ["beat"] ["beat"] (zea zd3):=by walk_at "sc"
theorem zm0 (T:Txt w K mg A)  : zfy P w K mg B A:=by
 refine T.F_q25.okN za3 (λ vs H Q E h=>?_) (λ _ _ _ _ H vs Q E hr h=>?_)
 ·obtain ⟨_,b,rfl,_⟩:=h
  rfl
 ·obtain ⟨hP,b,rfl,q⟩:=h
  refine ⟨_,(zfa (zla (zya (zaa (pv 0) (zaa (zya zda) (zaa zbb zda)))))),?_⟩
  refine ⟨_,rfl,sz_0,λ te hp2=>?_⟩
  generalize hH2:upd H te (HO.tup _)=H2
  have s2:Same H H2:=hH2 ▸ zga hp2
  have P2:Plain H2:=hH2 ▸ hP.tup
  have h2:=(congrFun hH2 te).symm.trans upd_same
  refine ⟨sz_3,λ t hp3=>?_⟩
  generalize hH3:upd H2 t (HO.tup _)=H3
  have s3:Same H2 H3:=hH3 ▸ zga hp3
  have P3:Plain H3:=hH3 ▸ P2.tup
  have h3:=(congrFun hH3 t).symm.trans upd_same
  exact q _ _ (s2.trans s3) P3 (zss (v:=(b,[], "")) (SqT.of h3) (DV.same s3 _ _ (zul h2)))
theorem zu1:FnScope ["version"] ["version"] (zea zsz):=by walk_at "sc"
theorem zw0 (T:Txt w K mg A)  : zcs P w K mg B A:=by
 refine T.F_q44.okN zu1 (λ vs H Q E h=>?_) (λ _ _ _ _ H vs Q E hr h=>?_)
 ·obtain ⟨_,a,⟨x,rfl,_⟩,_⟩:=h
  rfl
 ·obtain ⟨hp,v,⟨x,hv,hx⟩,q,_⟩:=h
  obtain rfl:vs=[x]:=hv
  obtain ⟨t,pa,rfl,hq,hd⟩:=zzh hx
  refine ⟨_,(zfa (zla (zmb (zgk hr.units) (zkd zae (pv 0) zia (λ _ _=>rfl)) (zya zda) (zsa _)))),?_⟩
  refine ⟨_,rfl,_,_,_,_,rfl,rfl,hq,rfl,sz_0,λ te hp1=>?_⟩
  generalize hH1:upd H te (HO.tup _)=H1
  have s1:Same H H1:=hH1 ▸ zga hp1
  have P1:Plain H1:=hH1 ▸ hp.tup
  have h1:=(congrFun hH1 te).symm.trans upd_same
  refine ⟨plc v.2.1,plc [],DV.same s1 _ _ hd,zul h1,znb _,znb _,q _ _ ?_ s1 P1⟩
  rw [zwi]
theorem zt1:FnScope ["words"] ["words"] (zea zs0):=by walk_at "sc"
theorem zg0 (T:Txt w K mg A) (G_q40:zxw P w K mg B A):zur P w K mg B A:=by
 have B_q40:=T.b_q40
 refine T.F_q26.okX zt1 (λ vs H Q E h=>?_) (λ _ _ _ _ H vs Q E hr h=>?_)
 ·obtain ⟨_,z,rfl,_⟩:=h
  rfl
 ·obtain ⟨hP,z,rfl,q,qe⟩:=h
  refine ⟨_,(zfa (zce (zds (zji (zpa G_q40 (hr.mono (by decide)) rfl T.g_q40 T.k_q40 B_q40 .nil zva (zaa (pv 0) zda)))) (zfa (zrd T.x_NoWords zna rfl rfl T.g_NoWords (zaa zbb zda))) zxa)),?_⟩
  refine ⟨_,rfl,hP,z,rfl,λ v hv=>?_⟩
  subst hv
  refine ⟨_,rfl,?_⟩
  cases hb:zpb z with
  | false=>exact iteT ⟨sz_1,qe hb _ (Same.refl _) hP⟩
  | true=>exact iteF (q hb _ (Same.refl _) hP)
theorem ze9:FnScope ["self", "pairs"] ["self", "pairs"] (zea s_q2):=by walk_at "sc"
theorem zr8 (T:Txt w K mg A)  : zzy P w K mg B A:=by
 refine T.F_q2.okX ze9 (λ vs H Q E h=>?_) (λ _ _ _ _ H vs Q E hr h=>?_)
 ·obtain ⟨_,p,dx,l,ws,ms,rfl,_⟩:=h
  rfl
 ·obtain ⟨hP,p,dx,l,ws,ms,rfl,hp,hl,hd,hok,few,q,qe⟩:=h
  refine ⟨_,(zba (zhc (pv 0) (zfc (zqm rfl hr.u100) rfl T.n_dict (by decide +kernel) (zaa (pv 1) zda)) rfl)
   (zfa (zce (zqa zaz (zkb ztp rfl T.n_len (by decide +kernel) (zaa (zcb (pv 0) rfl) zda)) (zkb zeb rfl T.n_len (by decide +kernel) (zaa (pv 1) zda)) (zsa _)) (zfa (zrd T.x_NoSheet zna rfl rfl T.g_NoSheet (zaa zbb zda))) zxa))),?_⟩
  obtain ⟨ps,h1,h2⟩:=znl hd
  have hpl:ps.length=ws.length:=Paired.length h1
  have hpm:ps.length=ms.length:=Paired.length h2
  have emk:=zjb h2
  refine ⟨_,rfl,l,ws,ps,rfl,hl,h1,by omega,λ d o hd0=>?_⟩
  have npd:p≠d:=zca hp hd0
  refine ⟨_,rfl,p,A.Sheet,dx,[],rfl,(by rw [zha npd];exact hp),T.cl_Sheet,T.na_Sheet_versions,(by show 0<1000;decide),?_⟩
  have keep:∀ b o',b≠p→H b=some o'→(upd (upd H d (dO P w d (zrb [] ps) o)) p (.ins A.Sheet dx (putF "versions" (.ref d) []))) b=some o':=λ b o' hb e=>by
   rw [zha hb,zha (zca e hd0)];exact e
  have P2:Plain (upd (upd H d (dO P w d (zrb [] ps) o)) p (.ins A.Sheet dx (putF "versions" (.ref d) []))):=Plain.ins (Plain.ext hP)
  have hp2:(upd (upd H d (dO P w d (zrb [] ps) o)) p (.ins A.Sheet dx (putF "versions" (.ref d) []))) p=some (.ins A.Sheet dx [("versions",.ref d)]):=upd_same
  have hd2:(upd (upd H d (dO P w d (zrb [] ps) o)) p (.ins A.Sheet dx (putF "versions" (.ref d) []))) d=some (dO P w d (zrb [] ps) o):=by rw [zha npd.symm];exact upd_same
  have hl2:SqL K (upd (upd H d (dO P w d (zrb [] ps) o)) p (.ins A.Sheet dx (putF "versions" (.ref d) []))) l ws:=by
   rcases hl with (z | ⟨o',z⟩) | z
   ·exact .inl (.inl (keep _ _ (zxd z hp (by intro z;cases z)) z))
   ·exact .inl (.inr ⟨o',keep _ _ (zxd z hp (by intro z;cases z)) z⟩)
   ·exact .inr z
  have he2:EnS K (upd (upd H d (dO P w d (zrb [] ps) o)) p (.ins A.Sheet dx (putF "versions" (.ref d) []))) ps ms:=by
   have sd:Same H (upd H d (dO P w d (zrb [] ps) o)):=zga hd0
   have hpd:(upd H d (dO P w d (zrb [] ps) o)) p=some (.ins A.Sheet dx []):=sd _ _ hp
   refine (h2.imp (H':=upd H d (dO P w d (zrb [] ps) o)) (λ _ _ q=>sd.seqT q) λ _ _ q=>DV.same sd _ _ q).imp (λ a m q=>zxq hpd q) λ v x q=>zey hpd _ _ (zoh v) q
  refine ⟨_,rfl,p,A.Sheet,dx,_,_,rfl,hp2,T.cl_Sheet,T.na_Sheet_versions,rfl,d,_,o,rfl,hd2,_,rfl,l,ws,rfl,.inl hl2,rfl,_,rfl,?_⟩
  by_cases nd:(ms.map (·.1)).Nodup
  ·have e:zrb [] ps=ps:=zqh ps [] (by rw [List.nil_append,emk];exact nd)
   refine zv6 (by rw [e,hpl]) ?_
   exact q nd _ keep ⟨⟨dx,d,ps,o,hp2,hd2.trans (by rw [e]),he2⟩,nd,hok,few⟩ P2
  ·have e:=zof ps [] List.nodup_nil (by rw [List.nil_append,emk];exact nd)
   rw [List.length_nil] at e
   refine zf6 (λ z=>by have:=V.int.inj z;omega) ?_
   exact ⟨sz_1,qe nd _ keep P2⟩
theorem zn5:FnScope ["self"] ["self"] (zea zn0):=by walk_at "sc"
theorem zz2 (T:Txt w K mg A)  : zfp P w K mg B A:=by
 refine T.F_q13.okN zn5 (λ vs H Q E h=>?_) (λ _ _ _ _ H vs Q E hr h=>?_)
 ·obtain ⟨_,p,ms,rfl,_⟩:=h
  rfl
 ·obtain ⟨hP,p,ms,rfl,S,q⟩:=h
  refine ⟨_,(zfa (zla (zkb (zyh rfl hr.u100) rfl T.n_sorted (by decide +kernel) (zaa (zql (zcb (pv 0) rfl)) zda)))),?_⟩
  obtain ⟨dx,d,es,o,hp,hd,he⟩:=S.ex
  refine ⟨_,rfl,p,A.Sheet,dx,_,_,rfl,hp,T.cl_Sheet,T.na_Sheet_versions,rfl,d,es,o,rfl,hd,λ v hv=>?_⟩
  have sv:Same H (upd H v (zsh v d)):=zga hv
  have emk:=zjb he
  have hpm:es.length=ms.length:=Paired.length he
  refine ⟨v,d,es,o,λ m=>vdat (look ms m),rfl,upd_same,sv _ _ hd,λ e h=>sv.seqT (zec he e h).1,λ e h=>?_,λ e h=>?_,by rw [emk];exact S.nd,by have:=S.few;omega,λ H' l bs ws s' p' hl pm pw hw=>?_⟩
  ·obtain ⟨_,x,h1,h2⟩:=zec he e h
   dsimp only
   rw [zhb S.nd h1]
   exact DV.same sv _ _ h2
  ·obtain ⟨_,x,h1,h2⟩:=zec he e h
   show SeqAt.shaped (.tuple [markD e.1,vdat (look ms e.1)])=true
   rw [zhb S.nd h1]
   exact zvd (m:=(e.1,x)) (S.ok _ h1)
  ·rw [emk] at pm
   rw [zmm S.nd pm] at hw
   exact q _ l _ ws ((sv.trans s').free hl) ((sv.trans s').trans (zga hl)) (p' (Plain.ext hP)).lst upd_same (zhq S.nd pm) (zyu pw) (DVs.same (zga hl) _ _ hw)
theorem sc_q18:FnScope ["self", "inside"] ["self"] (zea zi3):=by walk_at "sc"
theorem zb3 (T:Txt w K mg A) (G_q44:zcs P w K mg B A):zck P w K mg B A:=by
 have B_q44:=T.b_q44
 refine T.F_q18.okN sc_q18 (λ vs H Q E h=>?_) (λ _ _ _ _ H vs Q E hr h=>?_)
 ·obtain ⟨_,p,ms,rfl,_⟩:=h
  rfl
 ·obtain ⟨hP,p,ms,rfl,S,q⟩:=h
  refine ⟨_,(zba (zmr ["mark", "version"] 2 [] (i:=1) sc_q18.nd rfl (Or.inl rfl) rfl (zkm (zcb (pv 0) rfl)) gk2 (λ _ _ _ _ _=>zbd rfl (zka (zma (i:=0) (show List.Nodup (["mark", "version"]:List Str) by decide +kernel) rfl (Or.inl rfl)) (zka (zma (i:=1) (show List.Nodup (["mark", "version"]:List Str) by decide +kernel) rfl (Or.inl rfl)) zub))) (λ _ _ _ _ _=>zsr (zji (zpa G_q44 (hr.mono (by decide)) rfl T.g_q44 T.k_q44 B_q44 .nil zva (zaa (pv 1) zda)))) (λ _ _ _ _ _=>(zya (zaa (zkd (zhj (K:=K) rfl) (pv 1) zia (λ _ _=>rfl)) (zaa (pv 0) (zaa (zkd (zhj (K:=K) rfl) (pv 1) zia (λ _ _=>rfl)) zda))))))
   (zfa (zla (zjh ["place", "mark", "words"] 3 [] rfl (zsd (zkb (zke hr.u100) rfl T.n_sorted (by decide +kernel) (zaa (pv 1) zda))) gk3 (λ _ _ _ _ _=>zbd rfl (zka (zma (i:=0) (show List.Nodup (["place", "mark", "words"]:List Str) by decide +kernel) rfl (Or.inl rfl)) (zka (zma (i:=1) (show List.Nodup (["place", "mark", "words"]:List Str) by decide +kernel) rfl (Or.inl rfl)) (zka (zma (i:=2) (show List.Nodup (["place", "mark", "words"]:List Str) by decide +kernel) rfl (Or.inl rfl)) zub)))) (λ _ _ _ _ _=>zmh) (λ _ _ _ _ _=>(zya (zaa (pv 1) (zaa (pv 2) zda)))))))),?_⟩
  obtain ⟨dx,d,es,o,hp,hd,he⟩:=S.ex
  have hpm:es.length=ms.length:=Paired.length he
  have few:=S.few
  refine ⟨_,rfl,p,A.Sheet,dx,_,_,rfl,hp,T.cl_Sheet,T.na_Sheet_versions,rfl,d,es,o,rfl,hd,λ v hv D hD=>?_⟩
  have sv:Same H (upd H v (zsh v d)):=zga hv
  have P1:Plain (upd H v (zsh v d)):=Plain.ext hP
  refine zlh (λ e=>zjg (vOf ms e.1)) (λ e y H=>DV K H (.tuple (enL ms e.1)) y) hD P1 (sv _ _ hd) (sm1 ((by omega))) (λ e y Ha Hb h k hz=>DV.mono k hz _ _ (zsx ms e.1) h) ?_ ?_
  ·intro i e H2 T' Tt Tf hei P2 S2 hT ht hf
   obtain ⟨hk,x,hx,hv2⟩:=zec he e (List.mem_of_getElem? hei)
   have ex:vOf ms e.1=x:=zkn S.nd hx
   have s3:Same H (upd H2 T' (.tup [.ref e.2.1,e.2.2])):=(sv.trans S2).trans (zga hT)
   refine ⟨T',_,rfl,SqT.of upd_same,rfl,_,_,rfl,_,_,rfl,rfl,?_⟩
   refine ⟨_,rfl,P2.tup,x,⟨_,rfl,DV.same s3 _ _ hv2⟩,λ r H5 hr5 s5 P5=>⟨_,hr5,?_⟩,λ _ _ h=>h.elim⟩
   have hk5:=(s3.trans s5).seqT hk
   have hv5:=DV.same (s3.trans s5) _ _ hv2
   obtain ⟨tv,pvv,e5,hq5,hd5⟩:=zzh hv5
   cases hb:zjg x with
   | true =>
    rw [show (!decide (x.2.1=[]))=true from hb]
    refine iteT ?_
    refine ⟨_,rfl,tv,_,_,_,e5,rfl,hq5,rfl,_,rfl,_,rfl,tv,_,_,_,e5,rfl,hq5,rfl,sz_3,λ t h6=>?_⟩
    refine ht (by rw [ex];exact hb) _ _ ?_ (((zga hT).trans s5).trans (zga h6)) P5.tup
    have s6:=zga (o:=HO.tup [pvv,.ref e.2.1,.str x.2.2]) h6
    show DV K (upd H5 t (.tup [pvv,.ref e.2.1,.str x.2.2])) (.tuple (enL ms e.1)) (.ref t)
    unfold enL
    rw [ex]
    exact ⟨t,_,rfl,SqT.of upd_same,_,_,rfl,DV.same s6 _ _ hd5,_,_,rfl,zjd (s6.seqT hk5),_,_,rfl,rfl,rfl⟩
   | false =>
    rw [show (!decide (x.2.1=[]))=false from hb]
    exact iteF (hf (by rw [ex];exact hb) _ ((zga hT).trans s5) P5)
  ·intro ys H2 hys hD2 S2 P2
   have hdv:DVs K H2 ((zhd ms).map λ m=>.tuple (enL ms m)) ys:=by
    have:=zfe (f:=λ (e:Ent)=>PyData.tuple (enL ms e.1)) hys
    rw [show ((es.filter λ e=>zjg (vOf ms e.1)).map λ (e:Ent)=>PyData.tuple (enL ms e.1))=(zhd ms).map λ m=>.tuple (enL ms m) by rw [← zxp he S.nd,List.map_map];rfl] at this
    exact this
   refine ⟨_,rfl,Mark,zhd ms,enL ms,lnLt ms,.tup,D,ys,rfl,SqL.of hD2,hdv,zld S.nd S.ok S.few,λ l bs ws hl pm pw hw=>?_⟩
   have s3:Same H2 (upd H2 l (.lst ws)):=zga hl
   have P3:Plain (upd H2 l (.lst ws)):=P2.lst
   have h3:SqL K (upd H2 l (.lst ws)) l ws:=SqL.of upd_same
   have hw3:=DVs.same s3 _ _ hw
   have hbl:bs.length≤63:=by rw [pm.length_eq];exact Nat.le_of_lt_succ (zld S.nd S.ok S.few).few
   have hwl:ws.length=bs.length:=by rw [hw3.length,List.length_map]
   generalize upd H2 l (.lst ws)=H3 at s3 P3 h3 hw3 ⊢
   refine ⟨l,rfl,⟨_,h3⟩,λ D2 hD3=>zwf (λ i=>ws.getD i .non) (λ i y H=>∃ m,bs[i]? = some m∧DV K H (lnD ms m) y) hD3 P3 (sm1 ((by omega))) (ziq h3) ?_ ?_ ?_⟩
   ·rintro i y Ha Hb ⟨m,hm,hy⟩ k hz
    exact ⟨m,hm,DV.mono k hz _ _ (by show (noL (markD m) && (noL (.str (vOf ms m).2.2) && true))=true;rfl) hy⟩
   ·intro i H4 R hi P4 S4 hR
    have hib:i<bs.length:=by omega
    obtain ⟨y,hy,hyd⟩:=hw3.get (i:=i) (d := .tuple (enL ms bs[i])) (by rw [List.getElem?_map,List.getElem?_eq_getElem hib];rfl)
    obtain ⟨t,pv0,q0,ey,hq,hm⟩:=zo3 hyd
    have eg:ws.getD i .non = .ref t:=by rw [List.getD_eq_getElem?_getD,hy,ey];rfl
    rw [eg]
    refine ⟨t,_,rfl,S4.seqT hq,rfl,_,_,rfl,_,_,rfl,_,_,rfl,rfl,?_⟩
    refine ⟨_,rfl,_,rfl,sz_2,λ t2 h2=>?_⟩
    refine hR _ _ ⟨bs[i],List.getElem?_eq_getElem hib,t2,_,rfl,SqT.of upd_same,_,_,rfl,zjd ((S4.trans (zga h2)).seqT hm),_,_,rfl,rfl,rfl⟩ (zga h2) P4.tup
   ·intro zs H4 hzl hzs hD4 S4 P4
    refine q H4 D2 bs zs (((sv.trans S2).trans s3).free hD3) (((sv.trans S2).trans s3).trans S4) P4 hD4 pm pw ?_
    refine DVs.of (f:=lnD ms) (by omega) λ i v m hv hm=>?_
    obtain ⟨m',h1,h2⟩:=hzs i v hv
    rw [hm] at h1
    cases h1
    exact h2
theorem zm8:FnScope ["self", "mark"] ["self", "mark"] (zea s_q6):=by walk_at "sc"
theorem za7 (T:Txt w K mg A)  : zwy P w K mg B A:=by
 refine T.F_q6.okN zm8 (λ vs H Q E h=>?_) (λ _ _ _ _ H vs Q E hr h=>?_)
 ·obtain ⟨_,p,q0,m,ms,rfl,_⟩:=h
  rfl
 ·obtain ⟨hP,p,q0,m,ms,rfl,S,hm,q⟩:=h
  refine ⟨_,(zfa (zla (zpx (zxz hr) (zcb (pv 0) rfl) (pv 1)))),?_⟩
  obtain ⟨dx,d,es,o,hp,hd,he⟩:=S.ex
  have D:DM P w K H d es:=⟨⟨o,hd⟩,λ e h=>(zec he e h).1⟩
  exact ⟨_,rfl,p,A.Sheet,dx,_,_,rfl,hp,T.cl_Sheet,T.na_Sheet_versions,rfl,d,es,rfl,D,_,rfl,q0,m,rfl,D,hm,q _ (zzi he m)⟩
theorem sc_q30:FnScope ["self", "mark", "version"] ["self", "mark"] (zea zc5):=by walk_at "sc"
theorem zd6 (T:Txt w K mg A) (G_q44:zcs P w K mg B A) (G_q6:zwy P w K mg B A):zav P w K mg B A:=by
 have B_q44:=T.b_q44
 have B_q6:=T.b_q6
 refine T.F_q30.okN sc_q30 (λ vs H Q E h=>?_) (λ _ _ _ _ H vs Q E hr h=>?_)
 ·obtain ⟨_,p,q0,m,ms,rfl,_⟩:=h
  rfl
 ·obtain ⟨hP,p,q0,m,ms,rfl,S,hm,q⟩:=h
  refine ⟨_,(zba (zra (i:=2) sc_q30.nd rfl (Or.inl rfl) (zza (pv 0) T.cl_Sheet T.m_q6 G_q6 (hr.mono (by decide)) B_q6 .nil zva (zaa (pv 1) zda)))
   (zfa (zla (zme (zmb zpl (pv 2) zxg (zsa _)) (zxe (zpa G_q44 (hr.mono (by decide)) rfl T.g_q44 T.k_q44 B_q44 .nil zva (zaa (pv 2) zda))))))),?_⟩
  obtain ⟨dx,d,es,o,hp,hd,he⟩:=S.ex
  refine ⟨_,rfl,p,dx,_,rfl,hp,rfl,_,rfl,hP,p,q0,m,ms,rfl,S,hm,λ x hx=>?_⟩
  unfold hasB at q
  cases e:look ms m with
  | none =>
   rw [e] at hx q
   cases (show x = .non from hx)
   exact ⟨_,rfl,rfl,_,rfl,iteF (q _ (Same.refl _) hP)⟩
  | some v =>
   rw [e] at hx q
   obtain ⟨t,pv,rfl,_⟩:=zzh (show DV K H (ver v) x from hx)
   exact ⟨_,rfl,rfl,_,rfl,iteT ⟨_,rfl,hP,v,⟨_,rfl,hx⟩,λ y H' hy s' P'=>by rw [hy];exact q _ s' P',λ _ _ h=>h.elim⟩⟩
theorem zlz:FnScope ["self", "mark"] ["self", "mark"] (zea zv2):=by walk_at "sc"
theorem zj4 (T:Txt w K mg A) (G_q6:zwy P w K mg B A) (G_q30:zav P w K mg B A):zsp P w K mg B A:=by
 have B_q6:=T.b_q6
 have B_q30:=T.b_q30
 refine T.F_q14.okX zlz (λ vs H Q E h=>?_) (λ _ _ _ _ H vs Q E hr h=>?_)
 ·obtain ⟨_,p,q0,m,ms,rfl,_⟩:=h
  rfl
 ·obtain ⟨hP,p,q0,m,ms,rfl,S,hm,q,qe⟩:=h
  refine ⟨_,(zba (zce (zds (zji (zza (pv 0) T.cl_Sheet T.m_q30 G_q30 (hr.mono (by decide)) B_q30 .nil zva (zaa (pv 1) zda)))) (zfa (zrd T.x_NoPiece zna rfl rfl T.g_NoPiece (zaa zbb zda))) zxa)
   (zfa (zla (zza (pv 0) T.cl_Sheet T.m_q6 G_q6 (hr.mono (by decide)) B_q6 .nil zva (zaa (pv 1) zda))))),?_⟩
  obtain ⟨dx,d,es,o,hp,hd,he⟩:=S.ex
  refine ⟨_,rfl,p,dx,_,rfl,hp,rfl,_,rfl,hP,p,q0,m,ms,rfl,S,hm,λ H1 s1 P1=>⟨_,rfl,?_⟩⟩
  cases hb:hasB ms m with
  | false=>exact iteT ⟨sz_1,qe hb _ s1 P1⟩
  | true =>
   refine iteF ⟨_,rfl,p,dx,_,rfl,s1 _ _ hp,rfl,_,rfl,P1,p,q0,m,ms,rfl,S.same s1,s1.seqT hm,λ x hx=>?_⟩
   unfold hasB at hb
   cases e:look ms m with
   | none=>rw [e] at hb;cases hb
   | some v =>
    rw [e] at hx
    have ev:vOf ms m=v:=by unfold vOf;rw [e];rfl
    refine q (by unfold hasB;exact hb) x H1 s1 P1 ?_
    rw [ev]
    exact hx
theorem sc_q0:FnScope ["self", "low", "aside", "left", "places"] ["self", "low", "aside"] (zea s_q0):=by walk_at "sc"
theorem zu8 (T:Txt w K mg A)  : ze6 P w K mg B A:=by
 refine T.F_q0.okN sc_q0 (λ vs H Q E h=>?_) (λ _ _ _ _ H vs Q E hr h=>?_)
 ·obtain ⟨_,p,ms,low,lv,a,ys,as,rfl,_⟩:=h
  rfl
 ·obtain ⟨hP,p,ms,low,lv,a,ys,as,rfl,S,hlow,ha,has,few,q⟩:=h
  refine ⟨_,(zba (zra (i:=3) sc_q0.nd rfl (Or.inr rfl) (zfc (zwp rfl) rfl T.n_set (by decide +kernel) (zaa (pv 2) zda)))
   (zba (zmr ["mark", "version", "low", "left"] 2 [1,3] (i:=4) sc_q0.nd rfl (Or.inl rfl) rfl (zkm (zcb (pv 0) rfl)) gk2 (λ _ _ _ _ _=>zbd rfl (zka (zma (i:=0) (show List.Nodup (["mark", "version", "low", "left"]:List Str) by decide +kernel) rfl (Or.inl rfl)) (zka (zma (i:=1) (show List.Nodup (["mark", "version", "low", "left"]:List Str) by decide +kernel) rfl (Or.inl rfl)) zub))) (λ _ _ _ _ _=>zsr (PW.pt (zgs (zqa (zrm (K:=K) rfl hr.u100) (pv 0) (pv 3) (by rfl)) (zsn (zqa (zfx (K:=K) rfl hr.u100) (zkd (zhj (K:=K) rfl) (pv 1) zia (λ _ _=>rfl)) (pv 2) (zsa _)))))) (λ _ _ _ _ _=>(zkd (zhj (K:=K) rfl) (pv 1) zia (λ _ _=>rfl))))
   (zfa (zla (zps (znp rfl hr.u100) rfl T.n_min (by decide +kernel) (zaa (pv 4) zda)))))),?_⟩
  obtain ⟨dx,d,es,o,hp,hd,he⟩:=S.ex
  obtain rfl:as=[]:=List.length_eq_zero_iff.mp (by omega)
  cases (show ys=[] from has)
  refine ⟨_,rfl,a,rfl,ha,λ sa hsa=>?_⟩
  have s1:Same H (upd H sa (zuh sa)):=zga hsa
  have P1:Plain (upd H sa (zuh sa)):=hP.upd trivial
  have X1:(upd H sa (zuh sa)) sa=some (zuh sa):=upd_same
  generalize upd H sa (zuh sa)=H1 at s1 P1 X1 ⊢
  have hpm:es.length=ms.length:=Paired.length he
  have few2:=S.few
  refine ⟨_,rfl,p,A.Sheet,dx,_,_,rfl,s1 _ _ hp,T.cl_Sheet,T.na_Sheet_versions,rfl,d,es,o,rfl,s1 _ _ hd,λ v hv D hD=>?_⟩
  have sv:Same H1 (upd H1 v (zsh v d)):=zga hv
  have P2:Plain (upd H1 v (zsh v d)):=Plain.ext P1
  generalize upd H1 v (zsh v d)=H2 at sv P2 hD ⊢
  have S2:=s1.trans sv
  refine zlh (λ e=>zpk ms low [] e.1) (λ e y H=>DV K H (plc (vOf ms e.1).2.1) y) hD P2 (S2 _ _ hd) (sm1 ((by omega))) (λ e y Ha Hb h k hz=>DV.mono k hz _ _ (zgm _) h) ?_ ?_
  ·intro i e H3 T' Tt Tf hei P3 S3 hT ht hf
   obtain ⟨hk,x,hx,hv2⟩:=zec he e (List.mem_of_getElem? hei)
   have ex:vOf ms e.1=x:=zkn S.nd hx
   have s3:Same H (upd H3 T' (.tup [.ref e.2.1,e.2.2])):=(S2.trans S3).trans (zga hT)
   have s13:Same H1 (upd H3 T' (.tup [.ref e.2.1,e.2.2])):=(sv.trans S3).trans (zga hT)
   refine ⟨T',_,rfl,SqT.of upd_same,rfl,_,_,rfl,_,_,rfl,rfl,?_⟩
   have P4:Plain (upd H3 T' (.tup [.ref e.2.1,e.2.2])):=P3.tup
   have S34:Same H3 (upd H3 T' (.tup [.ref e.2.1,e.2.2])):=zga hT
   generalize upd H3 T' (.tup [.ref e.2.1,e.2.2])=H4 at s3 s13 P4 S34 ⊢
   obtain ⟨tv,pvv,e5,hq5,hd5⟩:=zzh (DV.same s3 _ _ hv2)
   refine ⟨_,rfl,_,rfl,e.1,e.2.1,sa,rfl,s3.seqT hk,rfl,s13 _ _ X1,_,rfl,?_⟩
   refine iteT ⟨_,rfl,tv,_,_,_,e5,rfl,hq5,rfl,_,rfl,plc x.2.1,plc low,_,hd5,DV.same s3 _ _ hlow,znb _,znb _,zzn _ _,_,rfl,?_⟩
   have hB:zpk ms low [] e.1=pLt low x.2.1:=by
    unfold zpk
    rw [ex]
    rfl
   cases hlt:pLt low x.2.1 with
   | true=>exact iteT ⟨_,rfl,tv,_,_,_,e5,rfl,hq5,rfl,ht (by rw [hB];exact hlt) _ _ (by rw [ex];exact hd5) S34 P4⟩
   | false=>exact iteF (hf (by rw [hB];exact hlt) _ S34 P4)
  ·intro zs H3 hzs hD3 S3 P3
   have hdv:DVs K H3 ((zwe ms low []).map plc) zs:=by
    have:=zfe (f:=λ (e:Ent)=>plc (vOf ms e.1).2.1) hzs
    rw [show ((es.filter λ e=>zpk ms low [] e.1).map λ (e:Ent)=>plc (vOf ms e.1).2.1)=(zwe ms low []).map plc by rw [← zns he low [],List.map_map];rfl] at this
    exact this
   refine ⟨_,rfl,D,zwe ms low [],zs,rfl,SqL.of hD3,hdv,λ e0=>?_,λ i r v hr hv hle=>?_⟩
   ·exact q none .non H3 (S2.trans S3) P3 e0 rfl
   ·obtain ⟨v',hv',hd'⟩:=hdv.get (i:=i) (d:=plc r) (by rw [List.getElem?_map,hr];rfl)
    rw [hv] at hv'
    cases hv'
    exact q (some r) v H3 (S2.trans S3) P3 ⟨List.mem_of_getElem? hr,hle⟩ hd'
theorem sc_q28:FnScope ["self", "behind", "aside", "low"] ["self", "behind", "aside"] (zea zt2):=by walk_at "sc"
theorem zv3 (T:Txt w K mg A) (G_q14:zsp P w K mg B A) (G_q0:ze6 P w K mg B A):zuw P w K mg B A:=by
 have B_q14:=T.b_q14
 have B_q0:=T.b_q0
 refine T.F_q28.okX sc_q28 (λ vs H Q E h=>?_) (λ _ _ _ _ H vs Q E hr h=>?_)
 ·obtain ⟨_,p,ms,bo,bv,a,ys,as,rfl,_⟩:=h
  rfl
 ·obtain ⟨hP,p,ms,bo,bv,a,ys,as,rfl,S,hb,ha,has,few,q,qe⟩:=h
  refine ⟨_,(zba (zra (i:=3) sc_q28.nd rfl (Or.inl rfl) (zut (zqa zot (pv 1) zxg (zsa _)) (zya zda) (zkd zae (zza (pv 0) T.cl_Sheet T.m_q14 G_q14 (hr.mono (by decide)) B_q14 .nil (Wants.passes zna) (zaa (pv 1) zda)) zia (λ _ _=>rfl))))
   (zfa (zla (zya (zaa (pv 3) (zaa (zza (pv 0) T.cl_Sheet T.m_q0 G_q0 (hr.mono (by decide)) B_q0 .nil zva (zaa (pv 3) (zaa (pv 2) zda))) zda)))))),?_⟩
  obtain ⟨dx,d,es,o,hp,hd,he⟩:=S.ex
  have tail:∀ (low:List Stp) (lv:V) (H1:Hp),zth ms bo=some low→Same H H1→Plain H1→DV K H1 (plc low) lv→True:=λ _ _ _ _ _ _ _=>trivial
  cases bo with
  | none =>
   cases (show bv = .non from hb)
   refine ⟨_,rfl,rfl,_,rfl,zqn (λ _=>?_) (λ h=>absurd rfl h)⟩
   refine ⟨sz_0,λ te hp1=>?_⟩
   generalize hH1:upd H te (HO.tup _)=H1
   have s1:Same H H1:=hH1 ▸ zga hp1
   have P1:Plain H1:=hH1 ▸ hP.tup
   have h1:=(congrFun hH1 te).symm.trans upd_same
   have hlow:DV K H1 (plc []) (.ref te):=⟨te,[],rfl,SqT.of h1,rfl⟩
   refine ⟨_,rfl,_,rfl,p,dx,_,rfl,s1 _ _ hp,rfl,_,rfl,_,rfl,P1,p,ms,[],_,a,ys,as,rfl,S.same s1,hlow,s1.seq ha,DVs.same s1 _ _ has,few,λ o v H2 s2 P2 hl hv=>?_⟩
   refine ⟨sz_2,λ t ht=>?_⟩
   have s3:Same H2 (upd H2 t (.tup [.ref te,v])):=zga ht
   exact q [] rfl o _ _ ((s1.trans s2).trans s3) P2.tup hl ⟨t,_,rfl,SqT.of upd_same,_,_,rfl,DV.same (s2.trans s3) _ _ hlow,_,_,rfl,DV.same s3 _ _ hv,rfl⟩
  | some m =>
   obtain ⟨q0,rfl,hm⟩:=hb
   refine ⟨_,rfl,rfl,_,rfl,zqn (λ h=>by cases h) (λ _=>?_)⟩
   refine ⟨_,rfl,p,dx,_,rfl,hp,rfl,_,rfl,hP,p,q0,m,ms,rfl,S,hm,λ hB x H1 s1 P1 hx=>?_,λ hB=>qe (by show (if hasB ms m=true then _ else _)=_;rw [if_neg (by rw [hB];decide)])⟩
   obtain ⟨tv,pvv,rfl,hq5,hlow⟩:=zzh hx
   refine ⟨tv,_,_,_,rfl,rfl,hq5,rfl,?_⟩
   refine ⟨_,rfl,_,rfl,p,dx,_,rfl,s1 _ _ hp,rfl,_,rfl,_,rfl,P1,p,ms,(vOf ms m).2.1,_,a,ys,as,rfl,S.same s1,hlow,s1.seq ha,DVs.same s1 _ _ has,few,λ o v H2 s2 P2 hl hv=>?_⟩
   refine ⟨sz_2,λ t ht=>?_⟩
   have s3:Same H2 (upd H2 t (.tup [pvv,v])):=zga ht
   exact q _ (by show (if hasB ms m=true then _ else _)=_;rw [if_pos hB]) o _ _ ((s1.trans s2).trans s3) P2.tup hl ⟨t,_,rfl,SqT.of upd_same,_,_,rfl,DV.same (s2.trans s3) _ _ hlow,_,_,rfl,DV.same s3 _ _ hv,rfl⟩
theorem sc_q15:FnScope ["self", "pairs", "versions", "mark", "version"] ["self", "pairs"] (zea zp5):=by walk_at "sc"
theorem zu4 (T:Txt w K mg A) (G_q2:zzy P w K mg B A):zhy P w K mg B A:=by
 have B_q2:=T.b_q2
 refine T.F_q15.okX sc_q15 (λ vs H Q E h=>?_) (λ _ _ _ _ H vs Q E hr h=>?_)
 ·obtain ⟨_,p,l,ms,ws,gs,U,rfl,_⟩:=h
  rfl
 ·obtain ⟨hP,p,l,ms,ws,gs,U,rfl,S,hl,hw,okg,bmx,few,fu,hU,q⟩:=h
  have bm:za6 (mks ms):=λ _ _=>trivial
  have bg:za6 (gmk gs):=λ _ _=>trivial
  refine ⟨_,(zba (zra (i:=2) sc_q15.nd rfl (Or.inl rfl) (zfc zun rfl T.n_dict (by decide +kernel) (zaa (zcb (pv 0) rfl) zda)))
   (zba (zhu PassesOwn.leaving rfl (zsd (pv 1)) (zbd rfl (zka (zma (i:=3) sc_q15.nd rfl (Or.inl rfl)) (zka (zma (i:=4) sc_q15.nd rfl (Or.inl rfl)) zub))) (zfa (zce (zqa zot (pv 4) zxg (zsa _)) (zfa (zvb (toE (zhs (zxz hr) (pv 2) (pv 3)) (show _=zg6 P w K _ _ _ from rfl)))) (zfa (toS (zfw (zxz hr) (pv 2) (pv 3) (pv 4) rfl) (show _=zl6 P w K _ _ _ from rfl))))))
   (zfa (zla (zbj T.mk_Sheet G_q2 (hr.mono (by decide)) rfl T.g_Sheet B_q2 .nil (Wants.passes zna) (zaa (zfc (zlm rfl) rfl T.n_list (by decide +kernel) (zaa (zql (pv 2)) zda)) zda)))))),?_⟩
  obtain ⟨dx,d,es,o,hp,hd,he⟩:=S.ex
  have fm:=S.few
  have hpm:es.length=ms.length:=Paired.length he
  have emk:=zjb he
  have hwl:ws.length=gs.length:=by rw [hw.length,List.length_map]
  have hnd:(es.map λ e=>zrf (L2.markD e.1)).Nodup:=by
   have:=zdl S.nd bmx
   rw [← emk,List.map_map] at this
   exact this
  refine ⟨_,rfl,p,A.Sheet,dx,_,_,rfl,hp,T.cl_Sheet,T.na_Sheet_versions,rfl,d,es,o,rfl,hd,(λ e h=>(zec he e h).1),by omega,hnd,λ d2 o2 hd2=>?_⟩
  have s1:Same H (upd H d2 (dO P w d2 es o2)):=zga hd2
  have P1:Plain (upd H d2 (dO P w d2 es o2)):=Plain.ext hP
  have h1:(upd H d2 (dO P w d2 es o2)) d2=some (dO P w d2 es o2):=upd_same
  refine ⟨_,rfl,l,rfl,⟨_,s1.seq hl⟩,ztr (K:=K) (a:=l) (xs:=ws) (λ i σ H2=>∃ (o3 o4:Option V) (es:List Ent) (ob:Obj) (ns:Sh),σ=[some (.ref p),some (.ref l),some (.ref d2),o3,o4]∧Plain H2∧Same H H2∧H2 d2=some (dO P w d2 es ob)∧EnS K H2 es ns∧okSh ns∧za6 (mks ns)∧ns.length≤ms.length+i∧∀ k,look ns k=zrh (look ms) (gs.take i) k)
   ⟨_,_,es,o2,ms,rfl,P1,s1,h1,ziu s1 he,⟨S.ok,S.nd⟩,bm,Nat.le_refl _,λ k=>rfl⟩ (λ i σ H2 _ ⟨_,_,_,_,_,_,_,s,_⟩=>s.seq hl) ?_ ?_⟩
  ·rintro i y σ H2 hy ⟨o3,o4,es2,ob,ns,rfl,P2,S2,hd3,he2,okn,bn,hnl,hlk⟩
   have hi:i<gs.length:=by have:=(List.getElem?_eq_some_iff.mp hy).1;omega
   obtain ⟨y',hy',hyd⟩:=(DVs.same S2 _ _ hw).get (i:=i) (d:=givD gs[i]) (by rw [List.getElem?_map,List.getElem?_eq_getElem hi];rfl)
   rw [hy] at hy'
   cases hy'
   obtain ⟨t,q1,x,rfl,ht,hq1,hx⟩:=zp2 hyd
   have ky:∀ e∈es2,SqT K H2 e.2.1 (mkV e.1):=λ e h=>(zec he2 e h).1
   have hel:es2.length=ns.length:=Paired.length he2
   have em2:=zjb he2
   have hok:=okg _ (List.getElem_mem hi)
   have hbx:True:=bg _ (List.mem_map_of_mem (f:=λ g:Giv=>g.1) (List.getElem_mem hi))
   have htk:zrh (look ms) (gs.take (i+1))=λ k=>if gs[i].1=k then gs[i].2 else zrh (look ms) (gs.take i) k:=by rw [List.take_succ_eq_append_getElem hi,zym]
   refine ⟨t,_,rfl,ht,rfl,_,_,rfl,_,_,rfl,rfl,?_⟩
   refine ⟨_,rfl,rfl,_,rfl,?_⟩
   cases eg:gs[i].2 with
   | none =>
    rw [eg] at hx htk
    refine zj6 (show x = .non from hx) ?_
    refine ⟨_,rfl,d2,es2,rfl,⟨⟨ob,hd3⟩,ky⟩,_,rfl,q1,gs[i].1,rfl,⟨⟨ob,hd3⟩,ky⟩,hq1,by omega,λ v hv o'=>?_,λ hn=>⟨rfl,?_⟩⟩
    ·refine ⟨_,_,zqq es2 gs[i].1,o',ns.filter λ n => !decide (n.1=gs[i].1),rfl,Plain.ext P2,λ b z e=>by rw [zha (zca e hd2)];exact S2 _ _ e,upd_same,znq hd3 (zjl gs[i].1 he2),⟨λ y hy=>okn.1 y (List.mem_filter.mp hy).1,List.Nodup.sublist ((List.filter_sublist (l:=ns)).map (λ x:Mark×Ver=>x.1)) okn.2⟩,λ k hk=>?_,?_,λ k=>?_⟩
     ·obtain ⟨z,hz,rfl⟩:=List.mem_map.mp hk
      exact bn _ (List.mem_map_of_mem (f:=λ x:Mark×Ver=>x.1) (List.mem_filter.mp hz).1)
     ·have:=List.length_filter_le (λ n:Mark×Ver => !decide (n.1=gs[i].1)) ns
      omega
     ·rw [zbf,htk,hlk]
    ·refine ⟨_,_,es2,ob,ns,rfl,P2,S2,hd3,he2,okn,bn,by omega,λ k=>?_⟩
     rw [htk,hlk]
     show _=if gs[i].1=k then none else _
     by_cases e:gs[i].1=k
     ·rw [if_pos e,← hlk,← e]
      refine zwh λ z=>?_
      have:=zod (es:=es2) (m:=gs[i].1) (by rw [em2];exact z)
      rw [hn] at this
      cases this
     ·rw [if_neg e]
   | some v =>
    rw [eg] at hx htk
    have okv:okV v:=hok v eg
    obtain ⟨tv,pvv,rfl,_⟩:=zzh (show DV K H2 (ver v) x from hx)
    refine zu6 (λ z=>by cases z) ?_
    refine ⟨_,rfl,_,rfl,_,rfl,d2,es2,q1,gs[i].1,rfl,⟨⟨ob,hd3⟩,ky⟩,rfl,hq1,zrc (by omega),λ o'=>?_⟩
    refine ⟨_,_,putM es2 gs[i].1 q1 (.ref tv),o',putS ns gs[i].1 v,rfl,Plain.ext P2,λ b z e=>by rw [zha (zca e hd2)];exact S2 _ _ e,upd_same,znq hd3 (zjt he2 hq1 hx),⟨ziw okn.1 _ okv,zyv okn.2 _ _⟩,λ k hk=>?_,?_,λ k=>?_⟩
    ·rcases zgu hk with rfl | hk
     ·exact hbx
     ·exact bn _ hk
    ·have:=zvr ns gs[i].1 v
     omega
    ·rw [zlo,htk,hlk]
  rintro σ H2 ⟨o3,o4,es2,ob,ns,rfl,P2,S2,hd3,he2,okn,bn,hnl,hlk⟩
  rw [hwl,List.take_length] at hlk
  have hel:es2.length=ns.length:=Paired.length he2
  have nfw:ns.length<64:=by
   have:=zne (U:=U) okn.2 λ k hk=>hU k (by rw [← hlk];exact λ z=>zxc z hk)
   unfold mks at this
   rw [List.length_map] at this
   omega
  have em2:=zjb he2
  refine ⟨_,rfl,d2,es2,ob,rfl,hd3,λ v hv=>?_⟩
  have sv:Same H2 (upd H2 v (zsh v d2)):=zga hv
  refine ⟨v,d2,es2,ob,λ m=>vdat (look ns m),rfl,upd_same,sv _ _ hd3,λ e h=>sv.seqT (zec he2 e h).1,λ e h=>?_,by omega,?_⟩
  ·obtain ⟨_,x,h1,h2⟩:=zec he2 e h
   dsimp only
   rw [zhb okn.2 h1]
   exact DV.same sv _ _ h2
  intro H3 l3 ws3 s3 p3 hl3 hw3
  have P3:Plain H3:=p3 (Plain.ext P2)
  rw [em2,zmm okn.2 (List.Perm.refl _),zxi okn.2] at hw3
  have S3:Same H (upd H3 l3 (.lst ws3)):=((S2.trans sv).trans s3).trans (zga hl3)
  have P4:Plain (upd H3 l3 (.lst ws3)):=P3.lst
  have h4:(upd H3 l3 (.lst ws3)) l3=some (.lst ws3):=upd_same
  have hw4:DVs K (upd H3 l3 (.lst ws3)) (ns.map prD) ws3:=DVs.same (zga hl3) _ _ hw3
  generalize upd H3 l3 (.lst ws3)=H4 at S3 P4 h4 hw4 ⊢
  intro x dx4 nx ndx nex
  have sx:Same H4 (upd (upd H4 dx4 (.own x)) x (.ins A.Sheet dx4 [])):=λ b o e=>by
   rw [zha (zca e nx),zha (zca e ndx)]
   exact e
  refine ⟨Plain.ins (P4.upd trivial),x,dx4,l3,ws3,ns,rfl,upd_same,SqL.of (sx _ _ h4),DVs.same sx _ _ hw4,okn.1,by omega,λ _ H5 k5 Sh5 P5=>⟨rfl,?_⟩,λ h=>absurd okn.2 h⟩
  have s5:Same H4 H5:=λ b o e=>k5 b o (zca e nx) (sx b o e)
  exact q x ns H5 (S3.free nx) (S3.trans s5) P5 Sh5 hlk
theorem sc_q22:FnScope ["sheet", "behind", "aside", "maker", "low", "high"] ["sheet", "behind", "aside", "maker"] (zea zhz):=by walk_at "sc"
theorem zd1 (T:Txt w K mg A) (G_q43:zly P w K mg B A) (G_q28:zuw P w K mg B A):zny P w K mg B A:=by
 have B_q43:=T.b_q43
 have B_q28:=T.b_q28
 refine T.F_q22.okX sc_q22 (λ vs H Q E h=>?_) (λ _ _ _ _ H vs Q E hr h=>?_)
 ·obtain ⟨_,p,ms,bo,bv,a,ys,as,k,mk,rfl,_⟩:=h
  rfl
 ·obtain ⟨hP,p,ms,bo,bv,a,ys,as,k,mk,rfl,S,sh,hb,ha,has,few,hk,q,qe⟩:=h
  refine ⟨_,(zba (zum (zza (pv 0) T.cl_Sheet T.m_q28 G_q28 (hr.mono (by decide)) B_q28 .nil (Wants.passes zna) (zaa (pv 1) (zaa (pv 2) zda))) (zbd rfl (zka (zma (i:=4) sc_q22.nd rfl (Or.inl rfl)) (zka (zma (i:=5) sc_q22.nd rfl (Or.inl rfl)) zub))))
   (zfa (zla (zpa G_q43 (hr.mono (by decide)) rfl T.g_q43 T.k_q43 B_q43 .nil (Wants.passes zna) (zaa (pv 4) (zaa (pv 5) (zaa (zkd zae (pv 3) zia (λ _ _=>rfl)) (zaa (zkd zae (pv 3) zia (λ _ _=>rfl)) zda)))))))),?_⟩
  obtain ⟨dx,d,es,o0,hp,hd,he⟩:=S.ex
  refine ⟨_,rfl,p,dx,_,rfl,hp,rfl,_,rfl,_,rfl,hP,p,ms,bo,bv,a,ys,as,rfl,S,hb,ha,has,few,λ low hlow o t H1 s1 P1 hl ht=>?_,qe⟩
  obtain ⟨tt,xs,rfl,htt,v1,vr,rfl,hv1,v2,vr2,rfl,hv2,rfl⟩:=ht
  refine ⟨tt,_,rfl,htt,rfl,_,_,rfl,_,_,rfl,rfl,?_⟩
  have rm:=zjf hl
  refine ⟨_,rfl,_,rfl,_,rfl,k,_,_,_,rfl,rfl,s1.seqT hk,rfl,_,rfl,k,_,_,_,rfl,rfl,s1.seqT hk,rfl,P1,(low,o,mk.1,mk.2),⟨_,_,rfl,hv1,zo7 hv2,zyp sh hlow⟩,λ v H2 ⟨_,t,e,hd2⟩ s2 P2=>?_,λ C H2 ⟨_,hn⟩=>absurd rm hn⟩
  exact q low o hlow hl v H2 (s1.trans s2) P2 hd2
theorem zmz:FnScope ["sheet", "behind", "words", "beat", "maker"] ["sheet", "behind", "words", "beat", "maker"] (zea ztz):=by walk_at "sc"
theorem zk3 (T:Txt w K mg A) (G_q22:zny P w K mg B A):zdw P w K mg B A:=by
 have B_q22:=T.b_q22
 refine T.F_q36.okX zmz (λ vs H Q E h=>?_) (λ _ _ _ _ H vs Q E hr h=>?_)
 ·obtain ⟨_,p,ms,bo,bv,z,b,k,mk,rfl,_⟩:=h
  rfl
 ·obtain ⟨hP,p,ms,bo,bv,z,b,k,mk,rfl,S,sh,hb,hk,q,qe⟩:=h
  refine ⟨_,(zfa (zla (zya (zaa (pv 4) (zaa (zya (zaa (pv 3) (zaa (zpa G_q22 (hr.mono (by decide)) rfl T.g_q22 T.k_q22 B_q22 .nil (Wants.passes zna) (zaa (pv 0) (zaa (pv 1) (zaa (zbc zda) (zaa (pv 4) zda))))) (zaa (pv 2) zda)))) zda))))),?_⟩
  refine ⟨_,rfl,_,rfl,_,rfl,_,rfl,sz_0,λ a ha=>?_⟩
  have s1:Same H (upd H a (.lst [])):=zga ha
  have P1:Plain (upd H a (.lst [])):=hP.lst
  refine ⟨_,rfl,P1,p,ms,bo,bv,a,[],[],k,mk,rfl,S.same s1,sh,hb.same s1,SqL.of upd_same,rfl,Nat.one_pos,s1.seqT hk,λ low o hlow hl t H2 s2 P2 ht=>?_,λ hn H' s' P'=>qe hn H' (s1.trans s') P'⟩
  refine ⟨_,rfl,sz_3,λ t3 hp3=>?_⟩
  generalize hH3:upd H2 t3 (HO.tup _)=H3;obtain ⟨s3,P3,h3⟩:=nwT hH3 hp3 P2
  refine ⟨sz_2,λ t4 hp4=>?_⟩
  generalize hH4:upd H3 t4 (HO.tup _)=H4;obtain ⟨s4,P4,h4⟩:=nwT hH4 hp4 P3
  have sa:=((s1.trans s2).trans s3).trans s4
  exact q low o hlow hl _ _ sa P4 (zt5 (SqT.of h4) (sa.seqT hk) (zss (v:=newV b low o mk z) (s4.seqT (SqT.of h3)) (DV.same (s3.trans s4) _ _ ht)))
theorem sc_put:FnScope ["sheet", "deed", "beat", "maker", "behind", "words"] ["sheet", "deed", "beat", "maker"] (zea zt0):=by walk_at "sc"
theorem zc1 (T:Txt w K mg A) (G_q26:zur P w K mg B A) (G_q36:zdw P w K mg B A):zgw P w K mg B A:=by
 have B_q26:=T.b_q26
 have B_q36:=T.b_q36
 refine T.F_put.okX sc_put (λ vs H Q E h=>?_) (λ _ _ _ _ H vs Q E hr h=>?_)
 ·obtain ⟨_,p,ms,d,bo,bv,z,b,k,mk,rfl,_⟩:=h
  rfl
 ·obtain ⟨hP,p,ms,d,bo,bv,z,b,k,mk,rfl,S,sh,hd,hb,hk,q,qw,qe⟩:=h
  refine ⟨_,(zba (zum (zac zkl (pv 1) (zsc zia) zpc) (zbd rfl (zka (zma (i:=4) sc_put.nd rfl (Or.inl rfl)) (zka (zma (i:=5) sc_put.nd rfl (Or.inl rfl)) zub))))
   (zba (zvb (zpa G_q26 (hr.mono (by decide)) rfl T.g_q26 T.k_q26 B_q26 .nil (Wants.passes zna) (zaa (pv 5) zda)))
   (zfa (zla (zbc (zaa (zpa G_q36 (hr.mono (by decide)) rfl T.g_q36 T.k_q36 B_q36 .nil (Wants.passes zna) (zaa (pv 0) (zaa (pv 4) (zaa (pv 5) (zaa (pv 2) (zaa (pv 3) zda)))))) zda)))))),?_⟩
  refine ⟨_,rfl,1,rfl,d,_,rfl,hd,λ pc H1 h1 s1 pg1=>?_⟩
  have P1:=pg1 hP
  have h1:SqT K H1 pc [bv,.str z]:=h1
  refine ⟨pc,_,rfl,h1,rfl,_,_,rfl,_,_,rfl,rfl,?_⟩
  refine ⟨_,rfl,P1,z,rfl,λ hz H2 s2 P2=>?_,λ hz H' s' P'=>qw hz H' (s1.trans s') P'⟩
  have sa:=s1.trans s2
  refine ⟨_,rfl,_,rfl,_,rfl,_,rfl,_,rfl,P2,p,ms,bo,bv,z,b,k,mk,rfl,S.same sa,sh,hb.same sa,sa.seqT hk,λ low o hlow hl t H3 s3 P3 ht=>?_,λ hn H' s' P'=>qe hz hn H' (sa.trans s') P'⟩
  refine ⟨sz_1,λ l hp4=>?_⟩
  exact q hz low o hlow hl l _ _ ((sa.trans s3).free hp4) ((sa.trans s3).trans (zga hp4)) P3.lst upd_same ⟨_,_,rfl,DV.same (zga hp4) _ _ ht,rfl⟩
theorem sc_q46:FnScope ["sheet", "deed", "beat", "maker", "mark"] ["sheet", "deed", "beat", "maker"] (zea zn1):=by walk_at "sc"
theorem zzz (T:Txt w K mg A) (G_q25:zfy P w K mg B A) (G_q14:zsp P w K mg B A):zux P w K mg B A:=by
 have B_q25:=T.b_q25
 have B_q14:=T.b_q14
 refine T.F_q46.okX sc_q46 (λ vs H Q E h=>?_) (λ _ _ _ _ H vs Q E hr h=>?_)
 ·obtain ⟨_,p,ms,d,q0,m,b,k,rfl,_⟩:=h
  rfl
 ·obtain ⟨hP,p,ms,d,q0,m,b,k,rfl,S,hd,hm,q,qe⟩:=h
  refine ⟨_,(zba (zra (i:=4) sc_q46.nd rfl (Or.inl rfl) (zkd zae (pv 1) zia (λ _ _=>rfl)))
   (zba (zvb (zza (pv 0) T.cl_Sheet T.m_q14 G_q14 (hr.mono (by decide)) B_q14 .nil (Wants.passes zna) (zaa (pv 4) zda)))
   (zfa (zla (zbc (zaa (zya (zaa (pv 4) (zaa (zpa G_q25 (hr.mono (by decide)) rfl T.g_q25 T.k_q25 B_q25 .nil zva (zaa (pv 2) zda)) zda))) zda)))))),?_⟩
  obtain ⟨dx,d0,es,o0,hp,hd0,he⟩:=S.ex
  refine ⟨_,rfl,d,_,_,_,rfl,rfl,hd,rfl,?_⟩
  refine ⟨_,rfl,p,dx,_,rfl,hp,rfl,_,rfl,hP,p,q0,m,ms,rfl,S,hm,λ hB x H1 s1 P1 hx=>?_,qe⟩
  refine ⟨_,rfl,_,rfl,P1,b,rfl,λ y H2 s2 P2 hy=>?_⟩
  refine ⟨sz_2,λ t3 hp3=>?_⟩
  generalize hH3:upd H2 t3 (HO.tup _)=H3;obtain ⟨s3,P3,h3⟩:=nwT hH3 hp3 P2
  refine ⟨sz_1,λ l hp4=>?_⟩
  have s4:Same H3 (upd H3 l (.lst [.ref t3])):=zga hp4
  have sa:=(s1.trans s2).trans s3
  exact q hB l _ _ (sa.free hp4) (sa.trans s4) P3.lst upd_same ⟨_,_,rfl,zt5 (s4.seqT (SqT.of h3)) ((sa.trans s4).seqT hm) (DV.same (s3.trans s4) _ _ hy),rfl⟩
theorem sc_q45:FnScope ["sheet", "deed", "beat", "maker", "mark", "words", "place"] ["sheet", "deed", "beat", "maker"] (zea zoz):=by walk_at "sc"
theorem zd2 (T:Txt w K mg A) (G_q26:zur P w K mg B A) (G_q14:zsp P w K mg B A):zby P w K mg B A:=by
 have B_q26:=T.b_q26
 have B_q14:=T.b_q14
 refine T.F_q45.okX sc_q45 (λ vs H Q E h=>?_) (λ _ _ _ _ H vs Q E hr h=>?_)
 ·obtain ⟨_,p,ms,d,q0,m,z,b,k,rfl,_⟩:=h
  rfl
 ·obtain ⟨hP,p,ms,d,q0,m,z,b,k,rfl,S,hd,hm,q,qw,qe⟩:=h
  refine ⟨_,(zba (zum (zac zkl (pv 1) (zsc zia) zpc) (zbd rfl (zka (zma (i:=4) sc_q45.nd rfl (Or.inl rfl)) (zka (zma (i:=5) sc_q45.nd rfl (Or.inl rfl)) zub))))
   (zba (zvb (zpa G_q26 (hr.mono (by decide)) rfl T.g_q26 T.k_q26 B_q26 .nil (Wants.passes zna) (zaa (pv 5) zda)))
   (zba (zra (i:=6) sc_q45.nd rfl (Or.inl rfl) (zkd zae (zza (pv 0) T.cl_Sheet T.m_q14 G_q14 (hr.mono (by decide)) B_q14 .nil (Wants.passes zna) (zaa (pv 4) zda)) zia (λ _ _=>rfl)))
   (zfa (zla (zbc (zaa (zya (zaa (pv 4) (zaa (zya (zaa (pv 2) (zaa (pv 6) (zaa (pv 5) zda)))) zda))) zda))))))),?_⟩
  refine ⟨_,rfl,1,rfl,d,_,rfl,hd,λ pc H1 h1 s1 pg1=>?_⟩
  have P1:=pg1 hP
  have h1:SqT K H1 pc [.ref q0,.str z]:=h1
  refine ⟨pc,_,rfl,h1,rfl,_,_,rfl,_,_,rfl,rfl,?_⟩
  refine ⟨_,rfl,P1,z,rfl,λ hz H2 s2 P2=>?_,λ hz H' s' P'=>qw hz H' (s1.trans s') P'⟩
  have S2:=s1.trans s2
  obtain ⟨dx,d0,es,o0,hp,hd0,he⟩:=(S.same S2).ex
  refine ⟨_,rfl,p,dx,_,rfl,hp,rfl,_,rfl,P2,p,q0,m,ms,rfl,S.same S2,S2.seqT hm,λ hB x H3 s3 P3 hx=>?_,λ hB H' s' P'=>qe hz hB H' (S2.trans s') P'⟩
  obtain ⟨tv,pvv,rfl,hq5,hpl⟩:=zzh hx
  refine ⟨tv,_,_,_,rfl,rfl,hq5,rfl,?_⟩
  have S3:=S2.trans s3
  refine ⟨_,rfl,_,rfl,_,rfl,_,rfl,sz_3,λ t5 hp5=>?_⟩
  generalize hH5:upd H3 t5 (HO.tup _)=H5;obtain ⟨s5,P5,h5⟩:=nwT hH5 hp5 P3
  refine ⟨sz_2,λ t6 hp6=>?_⟩
  generalize hH6:upd H5 t6 (HO.tup _)=H6;obtain ⟨s6,P6,h6⟩:=nwT hH6 hp6 P5
  refine ⟨sz_1,λ l hp7=>?_⟩
  have sa:=(S3.trans s5).trans s6
  have sl:Same H6 (upd H6 l (.lst [.ref t6])):=zga hp7
  exact q hz hB l _ _ (sa.free hp7) (sa.trans sl) P6.lst upd_same ⟨_,_,rfl,zt5 (sl.seqT (SqT.of h6)) ((sa.trans sl).seqT hm) (zss (v:=(b,(vOf ms m).2.1,z)) ((s6.trans sl).seqT (SqT.of h5)) (DV.same ((s5.trans s6).trans sl) _ _ hpl)),rfl⟩
theorem sc_q47:FnScope ["sheet", "deed", "beat", "window", "count", "doer"] ["sheet", "deed", "beat", "window", "count"] (zea zv0):=by walk_at "sc"
theorem zj5 (T:Txt w K mg A) (G_put:zgw P w K mg B A) (G_q46:zux P w K mg B A) (G_q45:zby P w K mg B A):zlx P w K mg B A:=by
 have B_put:=T.b_put
 have B_q46:=T.b_q46
 have B_q45:=T.b_q45
 refine T.F_q47.okX sc_q47 (λ vs H Q E h=>?_) (λ _ _ _ _ H vs Q E hr h=>?_)
 ·obtain ⟨_,p,ms,d,b,x,c,rfl,_⟩:=h
  rfl
 ·obtain ⟨hP,p,ms,d,b,x,c,rfl,S,sh,hc⟩:=h
  refine ⟨_,(zba (zra (i:=5) sc_q47.nd rfl (Or.inl rfl) (zkd (ix_G T.t_DEEDS) (zpv (v := .ref A.DEEDS) rfl T.g_DEEDS rfl) (zkd zae (pv 1) zia (λ _ _=>rfl)) (λ _ _=>rfl)))
   (zfa (zla (zkb (zke hr.u100) rfl T.n_sorted (by decide +kernel) (zaa (zst (k:=7) 5 (Cand.cons G_put (by decide) T.k_put B_put (Cand.cons G_q46 (by decide) T.k_q46 B_q46 (Cand.cons G_q45 (by decide) T.k_q45 B_q45 Cand.nil))) (hr.mono (by decide)) (Wants.passes zna) (zaa (pv 0) (zaa (pv 1) (zaa (pv 2) (zaa (zya (zaa (pv 3) (zaa (pv 4) zda))) zda))))) zda))))),?_⟩
  rcases hc with ⟨bo,bv,z,hd,hb,okz,q,qw,qe⟩ | ⟨q0,m,hd,hm,q,qe⟩ | ⟨q0,m,z,hd,hm,okz,q,qw,qe⟩
  ·refine ⟨_,rfl,d,_,_,_,rfl,rfl,hd,rfl,rfl,_,A.f_put,rfl,rfl,?_⟩
   refine ⟨_,List.mem_cons_self,rfl,_,rfl,_,rfl,_,rfl,_,rfl,_,rfl,sz_2,λ k hp1=>?_⟩
   generalize hH1:upd H k (HO.tup _)=H1;obtain ⟨s1,P1,h1⟩:=nwT hH1 hp1 hP
   refine ⟨P1,p,ms,d,bo,bv,z,b,k,(x,c),rfl,S.same s1,sh,s1.seqT hd,hb.same s1,SqT.of h1,λ hz low o hlow hl l ws H2 hl2 s2 P2 e2 hw=>?_,λ hz H' s' P'=>qw hz H' (s1.trans s') P',λ hz hn H' s' P'=>qe hz hn H' (s1.trans s') P'⟩
   refine zg4 (p:=((x,c),newV b low o (x,c) z)) okz e2 hw λ l3 w3 hl3 hw3=>?_
   exact q hz low o hlow hl l3 w3 _ ((s1.trans s2).free hl3) ((s1.trans s2).trans (zga hl3)) P2.lst upd_same (DVs.same (zga hl3) _ _ hw3)
  ·refine ⟨_,rfl,d,_,_,_,rfl,rfl,hd,rfl,rfl,_,A.f_q46,rfl,rfl,?_⟩
   refine ⟨_,List.mem_cons_of_mem _ List.mem_cons_self,rfl,_,rfl,_,rfl,_,rfl,_,rfl,_,rfl,sz_2,λ k hp1=>?_⟩
   generalize hH1:upd H k (HO.tup _)=H1;obtain ⟨s1,P1,h1⟩:=nwT hH1 hp1 hP
   refine ⟨P1,p,ms,d,q0,m,b,k,rfl,S.same s1,s1.seqT hd,s1.seqT hm,λ hB l ws H2 hl2 s2 P2 e2 hw=>?_,λ hB H' s' P'=>qe hB H' (s1.trans s') P'⟩
   refine zg4 (p:=(m,(b,[], ""))) (za4 "") e2 hw λ l3 w3 hl3 hw3=>?_
   exact q hB l3 w3 _ ((s1.trans s2).free hl3) ((s1.trans s2).trans (zga hl3)) P2.lst upd_same (DVs.same (zga hl3) _ _ hw3)
  ·refine ⟨_,rfl,d,_,_,_,rfl,rfl,hd,rfl,rfl,_,A.f_q45,rfl,rfl,?_⟩
   refine ⟨_,List.mem_cons_of_mem _ (List.mem_cons_of_mem _ List.mem_cons_self),rfl,_,rfl,_,rfl,_,rfl,_,rfl,_,rfl,sz_2,λ k hp1=>?_⟩
   generalize hH1:upd H k (HO.tup _)=H1;obtain ⟨s1,P1,h1⟩:=nwT hH1 hp1 hP
   refine ⟨P1,p,ms,d,q0,m,z,b,k,rfl,S.same s1,s1.seqT hd,s1.seqT hm,λ hz hB l ws H2 hl2 s2 P2 e2 hw=>?_,λ hz H' s' P'=>qw hz H' (s1.trans s') P',λ hz hB H' s' P'=>qe hz hB H' (s1.trans s') P'⟩
   refine zg4 (p:=(m,(b,(vOf ms m).2.1,z))) okz e2 hw λ l3 w3 hl3 hw3=>?_
   exact q hz hB l3 w3 _ ((s1.trans s2).free hl3) ((s1.trans s2).trans (zga hl3)) P2.lst upd_same (DVs.same (zga hl3) _ _ hw3)
theorem sc_q37:FnScope ["entries", "others", "entry"] ["entries", "others"] (zea zjz):=by walk_at "sc"
theorem zv5 (T:Txt w K mg A)  : zpt P w K mg B A:=by
 refine T.F_q37.okX sc_q37 (λ vs H Q E h=>?_) (λ _ _ _ _ H vs Q E hr h=>?_)
 ·obtain ⟨_,a,b,xs,ys,es,rfl,_⟩:=h
  rfl
 ·obtain ⟨hP,a,b,xs,ys,es,rfl,ha,hb,ne,he,ok,few,q,qe⟩:=h
  refine ⟨_,(zba (zce (zqa (zoi hr.units) (pv 0) (zbc zda) (zsa _)) (zfa (zrd T.x_NoDeed zna rfl rfl T.g_NoDeed (zaa zbb zda))) zxa)
   (zba (zra (i:=2) sc_q37.nd rfl (Or.inl rfl) (zz4 PySem.F.plainAttrs_list PySem.F.slot_list_pop PySem.F.type_list_pop zw2 (pv 0)))
   (zba (zvb (zx6 PySem.F.plainAttrs_list PySem.F.slot_list_append PySem.F.type_list_append zmd (pv 1) (zaa (pv 2) zda)))
   (zfa (zla (zfc zre rfl T.n_list (by decide +kernel) (zaa (pv 2) zda))))))),?_⟩
  refine ⟨_,rfl,Nat.zero_le _,λ l hp1=>?_⟩
  generalize hH1:upd H l (HO.lst _)=H1
  have s1:Same H H1:=hH1 ▸ zga hp1
  have P1:Plain H1:=hH1 ▸ hP.lst
  have h1:=(congrFun hH1 l).symm.trans upd_same
  have ha1:=s1 _ _ ha
  have hb1:=s1 _ _ hb
  refine ⟨.list (es.map eD),.list [],⟨a,xs,rfl,SqL.of ha1,DVs.same s1 _ _ he.dv⟩,⟨l,[],rfl,SqL.of h1,rfl⟩,zxo ok,rfl,_,rfl,?_⟩
  rcases List.eq_nil_or_concat es with e | ⟨es',d,e⟩
  ·subst e
   refine iteT ?_
   exact ⟨sz_1,qe rfl _ s1 P1⟩
  ·have e:es=es'++[d]:=by rw [e];simp
   subst e
   have hf:PyData.eqv (.list ((es'++[d]).map eD)) (.list [])=false:=by
    rw [List.map_append]
    cases es'.map eD <;> rfl
   rw [hf]
   refine iteF ?_
   obtain ⟨xs',y,rfl,he',⟨ye,yv,rfl,ny,hy,hyd,nly⟩⟩:=znf he
   refine ⟨_,rfl,.inl ⟨rfl,_,SqL.of ha1⟩,a,_,.ref ye,rfl,rfl,ha1,(by simp),?_⟩
   rw [List.dropLast_concat]
   have k2:But [a,b] H1 (upd H1 a (.lst xs')):=But.put (by simp)
   have hb2:(upd H1 a (.lst xs')) b=some (.lst ys):=by rw [zha ne.symm];exact hb1
   have ha2:(upd H1 a (.lst xs')) a=some (.lst xs'):=upd_same
   have P2:Plain (upd H1 a (.lst xs')):=P1.upd trivial
   generalize upd H1 a (.lst xs')=H2 at k2 hb2 ha2 P2 ⊢
   refine ⟨_,rfl,.inl ⟨rfl,_,SqL.of hb2⟩,_,rfl,b,ys,_,rfl,rfl,hb2,zrc (by omega),?_⟩
   have k3:But [a,b] H2 (upd H2 b (.lst (ys++[.ref ye]))):=But.put (by simp)
   have ha3:(upd H2 b (.lst (ys++[.ref ye]))) a=some (.lst xs'):=by rw [zha ne];exact ha2
   have hb3:(upd H2 b (.lst (ys++[.ref ye]))) b=some (.lst (ys++[.ref ye])):=upd_same
   have P3:Plain (upd H2 b (.lst (ys++[.ref ye]))):=P2.upd trivial
   generalize upd H2 b (.lst (ys++[.ref ye]))=H3 at k3 hb3 ha3 P3 ⊢
   have K3:But [a,b] H H3:=(But.of s1).trans (k2.trans k3)
   refine ⟨_,rfl,ye,yv,rfl,.inl (SqL.of (K3 _ _ ny hy)),λ x hp4=>?_⟩
   generalize hH4:upd H3 x (HO.lst _)=H4
   have s4:Same H3 H4:=hH4 ▸ zga hp4
   have P4:Plain H4:=hH4 ▸ P3.lst
   have h4:=(congrFun hH4 x).symm.trans upd_same
   have K4:=K3.trans (But.of s4)
   have nx:x∉[a,b]:=λ z=>by
    rcases List.mem_cons.mp z with rfl | z
    ·rw [ha3] at hp4;cases hp4
    ·rw [List.mem_singleton.mp z,hb3] at hp4;cases hp4
   exact q es' d xs' (.ref ye) rfl rfl x yv H4 (K3.free hp4 nx) h4 (s4 _ _ ha3) (s4 _ _ hb3) K4 (zlb K4 (zxu ha hb) _ _ nly hyd) P4
theorem zs7:FnScope ["self"] ["self"] (zea s_q7):=by walk_at "sc"
theorem zd7 (T:Txt w K mg A)  : zm6 P w K mg B A:=by
 refine T.F_q7.okN zs7 (λ vs H Q E h=>?_) (λ _ _ _ _ H vs Q E hr h=>?_)
 ·obtain ⟨_,p,dx,rfl,_⟩:=h
  rfl
 ·obtain ⟨hP,p,dx,rfl,hp,q⟩:=h
  refine ⟨_,(zba (zhc (pv 0) (zbc zda) rfl)
   (zfa (zhc (pv 0) (zbc zda) rfl))),?_⟩
  refine ⟨Nat.zero_le _,λ S hS=>?_⟩
  have npS:p≠S:=zca hp hS
  refine ⟨_,rfl,p,A.Log,dx,[],rfl,(by rw [zha npS];exact hp),T.cl_Log,T.na_Log_standing,(by show 0<1000;decide),Nat.zero_le _,λ U hU=>?_⟩
  have npU:p≠U:=zca upd_same hU
  have nUS:S≠U:=zca (show (upd (upd H S (.lst [])) p _) S=some (.lst []) by rw [zha npS.symm];exact upd_same) hU
  refine ⟨_,rfl,p,A.Log,dx,_,rfl,(by rw [zha npU];exact upd_same),T.cl_Log,T.na_Log_undone,(by show 1<1000;decide),?_⟩
  have hU0:H U=none:=by
   rw [zha npU.symm,zha nUS.symm] at hU
   exact hU
  refine q S U _ hS hU0 ⟨⟨dx,upd_same⟩,by rw [zha npS.symm,zha nUS,zha npS.symm];exact upd_same,by rw [zha npU.symm];exact upd_same,nUS⟩ (λ b o n e=>?_) (Plain.ins (Plain.ins hP.lst).lst)
  have nb:b≠p:=λ z=>n (by rw [z];simp)
  rw [zha nb,zha (zca e hU0),zha nb,zha (zca e hS)]
  exact e
theorem zd0:FnScope ["self"] ["self"] (zea zk2):=by walk_at "sc"
theorem zp1 (T:Txt w K mg A)  : zyr P w K mg B A:=by
 refine T.F_q27.okN zd0 (λ vs H Q E h=>?_) (λ _ _ _ _ H vs Q E hr h=>?_)
 ·obtain ⟨_,p,S,U,xs,ys,rfl,_⟩:=h
  rfl
 ·obtain ⟨hP,p,S,U,xs,ys,rfl,L,q⟩:=h
  refine ⟨_,(zfa (zhc (pv 0) (zbc zda) rfl)),?_⟩
  obtain ⟨dx,hp⟩:=L.hp
  refine ⟨Nat.zero_le _,λ W hW=>?_⟩
  have npW:p≠W:=zca hp hW
  have nSW:S≠W:=zca L.hS hW
  refine ⟨_,rfl,p,A.Log,dx,_,rfl,(by rw [zha npW];exact hp),T.cl_Log,T.na_Log_undone,(by rw [zou];show 2<1000;decide),?_⟩
  rw [zl0]
  refine q W _ hW ⟨⟨dx,upd_same⟩,by rw [zha L.nS.symm,zha nSW];exact L.hS,by rw [zha npW.symm];exact upd_same,nSW⟩ (λ b o n e=>?_) (Plain.ins hP.lst)
  rw [zha (λ z=>n (by rw [z];simp)),zha (zca e hW)]
  exact e
theorem zo2:FnScope ["self"] ["self"] (zea zvz):=by walk_at "sc"
theorem zj2 (T:Txt w K mg A) (G_q27:zyr P w K mg B A):zlv P w K mg B A:=by
 have B_q27:=T.b_q27
 refine T.F_q32.okN zo2 (λ vs H Q E h=>?_) (λ _ _ _ _ H vs Q E hr h=>?_)
 ·obtain ⟨_,p,S,U,xs,ys,rfl,_⟩:=h
  rfl
 ·obtain ⟨hP,p,S,U,xs,ys,rfl,L,q⟩:=h
  refine ⟨_,(zba (zhc (pv 0) (zbc zda) rfl)
   (zfa (zvb (zja (pv 0) T.cl_Log T.m_q27 G_q27 (hr.mono (by decide)) B_q27 .nil zva)))),?_⟩
  obtain ⟨dx,hp⟩:=L.hp
  refine ⟨Nat.zero_le _,λ Z hZ=>?_⟩
  have npZ:p≠Z:=zca hp hZ
  have nUZ:U≠Z:=zca L.hU hZ
  refine ⟨_,rfl,p,A.Log,dx,_,rfl,(by rw [zha npZ];exact hp),T.cl_Log,T.na_Log_standing,(by rw [zou];show 2<1000;decide),?_⟩
  rw [zow]
  have L2:LogK A.Log (upd (upd H Z (.lst [])) p (.ins A.Log dx (lf Z U))) p Z U [] ys:=⟨⟨dx,upd_same⟩,by rw [zha npZ.symm];exact upd_same,by rw [zha L.nU.symm,zha nUZ];exact L.hU,nUZ.symm⟩
  have k2:But [p] H (upd (upd H Z (.lst [])) p (.ins A.Log dx (lf Z U))):=λ b o n e=>by
   rw [zha (λ z=>n (by rw [z];simp)),zha (zca e hZ)]
   exact e
  have P2:Plain (upd (upd H Z (.lst [])) p (.ins A.Log dx (lf Z U))):=Plain.ins hP.lst
  generalize upd (upd H Z (.lst [])) p (.ins A.Log dx (lf Z U))=H2 at L2 k2 P2 ⊢
  obtain ⟨dx2,hp2⟩:=id L2.hp
  refine ⟨_,rfl,p,_,_,rfl,hp2,zmu _ _ (by decide +kernel) (by decide +kernel),P2,p,Z,U,_,_,rfl,L2,λ W H3 hW L3 k3 P3=>?_⟩
  exact q Z W H3 hZ (k2.free hW (λ z=>by rw [List.mem_singleton.mp z,hp2] at hW;cases hW)) L3 (k2.trans k3) P3
theorem zl4:FnScope ["self", "entry"] ["self", "entry"] (zea ze1):=by walk_at "sc"
theorem zh5 (T:Txt w K mg A) (G_q27:zyr P w K mg B A):zjw P w K mg B A:=by
 have B_q27:=T.b_q27
 refine T.F_q41.okN zl4 (λ vs H Q E h=>?_) (λ _ _ _ _ H vs Q E hr h=>?_)
 ·obtain ⟨_,p,S,U,e,xs,ys,zs,rfl,_⟩:=h
  rfl
 ·obtain ⟨hP,p,S,U,e,xs,ys,zs,rfl,L,hq,few,q⟩:=h
  refine ⟨_,(zba (zvb (zx6 PySem.F.plainAttrs_list PySem.F.slot_list_append PySem.F.type_list_append zmd (zcb (pv 0) rfl) (zaa (zfc zre rfl T.n_list (by decide +kernel) (zaa (pv 1) zda)) zda)))
   (zfa (zvb (zja (pv 0) T.cl_Log T.m_q27 G_q27 (hr.mono (by decide)) B_q27 .nil zva)))),?_⟩
  obtain ⟨dx,hp⟩:=L.hp
  refine ⟨_,rfl,p,A.Log,dx,_,_,rfl,hp,T.cl_Log,T.na_Log_standing,lf_s _ _,.inl ⟨rfl,_,SqL.of L.hS⟩,_,rfl,e,zs,rfl,.inl hq,λ l hp1=>?_⟩
  generalize hH1:upd H l (HO.lst _)=H1
  have s1:Same H H1:=hH1 ▸ zga hp1
  have P1:Plain H1:=hH1 ▸ hP.lst
  have h1:=(congrFun hH1 l).symm.trans upd_same
  have L1:=L.same s1
  refine ⟨S,xs,_,rfl,rfl,L1.hS,zrc (by omega),?_⟩
  have nlS:l≠S:=λ z=>by rw [z,L.hS] at hp1;cases hp1
  have L2:LogK A.Log (upd H1 S (.lst (xs++[.ref l]))) p S U (xs++[.ref l]) ys:=⟨⟨dx,by rw [zha L.nS];exact s1 _ _ hp⟩,upd_same,by rw [zha L.ne.symm];exact L1.hU,L.ne⟩
  have k2:But [p,S] H (upd H1 S (.lst (xs++[.ref l]))):=(But.of s1).trans (But.put (by simp))
  have h2:(upd H1 S (.lst (xs++[.ref l]))) l=some (.lst zs):=by rw [zha nlS];exact h1
  have P2:Plain (upd H1 S (.lst (xs++[.ref l]))):=P1.upd trivial
  generalize upd H1 S (.lst (xs++[.ref l]))=H2 at L2 k2 h2 P2 ⊢
  obtain ⟨dx2,hp2⟩:=id L2.hp
  refine ⟨_,rfl,p,_,_,rfl,hp2,zmu _ _ (by decide +kernel) (by decide +kernel),P2,p,S,U,_,_,rfl,L2,λ W H3 hW L3 k3 P3=>?_⟩
  have nW:W∉[p,S]:=λ z=>by
   rcases List.mem_cons.mp z with rfl | z
   ·rw [hp2] at hW;cases hW
   ·rw [List.mem_singleton.mp z,L2.hS] at hW;cases hW
  have nlp:l≠p:=λ z=>by rw [z,hp] at hp1;cases hp1
  exact q l W H3 hp1 (k2.free hW nW) (λ z=>by rw [← z,h2] at hW;cases hW) L3 (k3 _ _ (by simp [nlp]) h2) (k2.trans (k3.mono (by simp))) P3
theorem zt4:FnScope ["self"] ["self"] (zea zf2):=by walk_at "sc"
theorem zg3 (T:Txt w K mg A) (G_q37:zpt P w K mg B A):zws P w K mg B A:=by
 have B_q37:=T.b_q37
 refine T.F_q39.okX zt4 (λ vs H Q E h=>?_) (λ _ _ _ _ H vs Q E hr h=>?_)
 ·obtain ⟨_,p,S,U,xs,ys,es,rfl,_⟩:=h
  rfl
 ·obtain ⟨hP,p,S,U,xs,ys,es,rfl,L,he,ok,few,q,qe⟩:=h
  refine ⟨_,(zfa (zla (zpa G_q37 (hr.mono (by decide)) rfl T.g_q37 T.k_q37 B_q37 .nil (Wants.passes zna) (zaa (zcb (pv 0) rfl) (zaa (zcb (pv 0) rfl) zda))))),?_⟩
  have L:LogK A.Log H p S U xs ys:=L
  obtain ⟨dx,hp⟩:=id L.hp
  refine ⟨_,rfl,p,A.Log,dx,_,_,rfl,hp,T.cl_Log,T.na_Log_standing,lf_s _ _,_,rfl,p,A.Log,dx,_,_,rfl,hp,T.cl_Log,T.na_Log_undone,lf_u _ _,hP,S,U,xs,ys,es,rfl,L.hS,L.hU,L.ne,he,ok,few,q,qe⟩
theorem zf0:FnScope ["self"] ["self"] (zea zs2):=by walk_at "sc"
theorem zu5 (T:Txt w K mg A) (G_q37:zpt P w K mg B A):zes P w K mg B A:=by
 have B_q37:=T.b_q37
 refine T.F_q31.okX zf0 (λ vs H Q E h=>?_) (λ _ _ _ _ H vs Q E hr h=>?_)
 ·obtain ⟨_,p,S,U,xs,ys,es,rfl,_⟩:=h
  rfl
 ·obtain ⟨hP,p,S,U,xs,ys,es,rfl,L,he,ok,few,q,qe⟩:=h
  refine ⟨_,(zfa (zla (zpa G_q37 (hr.mono (by decide)) rfl T.g_q37 T.k_q37 B_q37 .nil (Wants.passes zna) (zaa (zcb (pv 0) rfl) (zaa (zcb (pv 0) rfl) zda))))),?_⟩
  have L:LogK A.Log H p U S ys xs:=L
  obtain ⟨dx,hp⟩:=id L.hp
  refine ⟨_,rfl,p,A.Log,dx,_,_,rfl,hp,T.cl_Log,T.na_Log_undone,lf_u _ _,_,rfl,p,A.Log,dx,_,_,rfl,hp,T.cl_Log,T.na_Log_standing,lf_s _ _,hP,S,U,xs,ys,es,rfl,L.hU,L.hS,L.ne.symm,he,ok,few,q,qe⟩
theorem zg1:FnScope ["self"] ["self"] (zea zc2):=by walk_at "sc"
theorem zz3 (T:Txt w K mg A)  : zvw P w K mg B A:=by
 refine T.F_q17.okN zg1 (λ vs H Q E h=>?_) (λ _ _ _ _ H vs Q E hr h=>?_)
 ·obtain ⟨_,p,S,U,ys,rfl,_⟩:=h
  rfl
 ·obtain ⟨hP,p,S,U,ys,rfl,L,q⟩:=h
  refine ⟨_,(zfa (zla (zkb (zki rfl) rfl T.n_sorted (by decide +kernel) (zaa (zzo ["entry"] 1 rfl (zsd (zcb (pv 0) rfl))) zda)))),?_⟩
  obtain ⟨dx,hp⟩:=L.hp
  refine ⟨_,rfl,p,A.Log,dx,_,_,rfl,hp,T.cl_Log,T.na_Log_standing,lf_s _ _,S,rfl,⟨_,SqL.of L.hS⟩,λ D hD=>⟨⟨[],SqL.of ?_,Nat.zero_le _⟩,?_⟩⟩
  ·rw [zha (zca L.hS hD)];exact L.hS
  ·have P1:Plain (upd H D (zuh D)):=hP.upd trivial
   refine ⟨D,rfl,upd_same,λ l hl=>?_⟩
   exact q l _ ((zga hD).trans (zga hl)) upd_same P1.lst
theorem zv7:FnScope ["self", "number", "base", "sheet", "count"] ["self", "number", "base", "sheet", "count"] (zea s_q1):=by walk_at "sc"
theorem zo8 (T:Txt w K mg A) (G_q7:zm6 P w K mg B A):zn6 P w K mg B A:=by
 have B_q7:=T.b_q7
 refine T.F_q1.okN zv7 (λ vs H Q E h=>?_) (λ _ _ _ _ H vs Q E hr h=>?_)
 ·obtain ⟨_,p,dx,D,n,b,c,rfl,_⟩:=h
  rfl
 ·obtain ⟨hP,p,dx,D,n,b,c,rfl,hp,q⟩:=h
  refine ⟨_,(zba (zhc (pv 0) (pv 1) rfl)
   (zba (zhc (pv 0) (pv 2) rfl)
   (zba (zhc (pv 0) (pv 3) rfl)
   (zba (zhc (pv 0) (pv 3) rfl)
   (zba (zhc (pv 0) (pv 4) rfl)
   (zfa (zhc (pv 0) (zxr T.mk_Log G_q7 (hr.mono (by decide)) rfl T.g_Log B_q7 .nil zva) rfl))))))),?_⟩
  refine ⟨_,rfl,_,rfl,p,A.Window,dx,_,rfl,hp,T.cl_Window,T.na_Window_number,(by show 0<1000;decide),?_⟩
  refine ⟨_,rfl,_,rfl,p,A.Window,dx,_,rfl,upd_same,T.cl_Window,T.na_Window_base_save,(by show 1<1000;decide),?_⟩
  refine ⟨_,rfl,_,rfl,p,A.Window,dx,_,rfl,upd_same,T.cl_Window,T.na_Window_base_sheet,(by show 2<1000;decide),?_⟩
  refine ⟨_,rfl,_,rfl,p,A.Window,dx,_,rfl,upd_same,T.cl_Window,T.na_Window_draft_sheet,(by show 3<1000;decide),?_⟩
  refine ⟨_,rfl,_,rfl,p,A.Window,dx,_,rfl,upd_same,T.cl_Window,T.na_Window_last_count,(by show 4<1000;decide),?_⟩
  rw [zqd,zqd,zqd,zqd]
  generalize hfs:putF "last_count" _ _=fs
  have k1:But [p] H (upd H p (.ins A.Window dx fs)):=But.put (by simp)
  have h1:(upd H p (.ins A.Window dx fs)) p=some (.ins A.Window dx fs):=upd_same
  have P1:Plain (upd H p (.ins A.Window dx fs)):=Plain.ins hP
  generalize upd H p (.ins A.Window dx fs)=H1 at k1 h1 P1 ⊢
  refine λ lg dl nlg ndl nel=>?_
  have s2:Same H1 (upd (upd H1 dl (.own lg)) lg (.ins A.Log dl [])):=λ b o e=>by
   rw [zha (zca e nlg),zha (zca e ndl)]
   exact e
  refine ⟨Plain.ins (P1.upd trivial),lg,dl,rfl,upd_same,λ S U H2 nS nU L k2 P2=>⟨rfl,?_⟩⟩
  have k12:But [lg] H1 H2:=(But.of s2).trans k2
  have npl:p≠lg:=zca h1 nlg
  have hp2:=k12 _ _ (by simp [npl]) h1
  refine ⟨_,rfl,p,A.Window,dx,_,rfl,hp2,T.cl_Window,T.na_Window_log,(by rw [← hfs];show 5<1000;decide),?_⟩
  subst hfs
  refine q lg S U _ (λ b o n e=>?_) (Plain.ins P2) npl upd_same (L.but (But.put (M:=[p]) (by simp)) λ a ha z=>?_)
  ·have e1:=k1 b o n e
   rw [zha (λ z=>n (by rw [z];simp))]
   exact k12 b o (λ z=>by rw [List.mem_singleton.mp z,nlg] at e1;cases e1) e1
  ·rw [List.mem_singleton.mp z] at ha
   rcases List.mem_cons.mp ha with e | ha
   ·exact npl e
   rcases List.mem_cons.mp ha with e | ha
   ·exact zxd hp2 L.hS (by intro z;cases z) e
   ·exact zxd hp2 L.hU (by intro z;cases z) (List.mem_singleton.mp ha)
theorem zf3:FnScope ["self"] ["self"] (zea zo1):=by walk_at "sc"
theorem zb0 (T:Txt w K mg A)  : zts P w K mg B A:=by
 refine T.F_q24.okN zf3 (λ vs H Q E h=>?_) (λ _ _ _ _ H vs Q E hr h=>?_)
 ·obtain ⟨p,dx,D,lg,n,b,c,B,rfl,_⟩:=h
  rfl
 ·obtain ⟨p,dx,D,lg,n,b,c,B,rfl,hp,q⟩:=h
  refine ⟨_,(zfa (zla (zcb (pv 0) rfl))),?_⟩
  exact ⟨_,rfl,p,A.Window,dx,_,_,rfl,hp,T.cl_Window,T.na_Window_base_save,wf_b,q⟩
theorem zb9:FnScope ["self"] ["self"] (zea s_q3):=by walk_at "sc"
theorem zv8 (T:Txt w K mg A)  : zwz P w K mg B A:=by
 refine T.F_q3.okN zb9 (λ vs H Q E h=>?_) (λ _ _ _ _ H vs Q E hr h=>?_)
 ·obtain ⟨p,dx,D,lg,n,b,c,B,rfl,_⟩:=h
  rfl
 ·obtain ⟨p,dx,D,lg,n,b,c,B,rfl,hp,q⟩:=h
  refine ⟨_,(zfa (zla (zcb (pv 0) rfl))),?_⟩
  exact ⟨_,rfl,p,A.Window,dx,_,_,rfl,hp,T.cl_Window,T.na_Window_last_count,wf_c,q⟩
theorem zc6:FnScope ["self"] ["self"] (zea zuz):=by walk_at "sc"
theorem ze2 (T:Txt w K mg A)  : zdp P w K mg B A:=by
 refine T.F_q12.okN zc6 (λ vs H Q E h=>?_) (λ _ _ _ _ H vs Q E hr h=>?_)
 ·obtain ⟨p,dx,D,lg,n,b,c,B,rfl,_⟩:=h
  rfl
 ·obtain ⟨p,dx,D,lg,n,b,c,B,rfl,hp,q⟩:=h
  refine ⟨_,(zfa (zla (zcb (pv 0) rfl))),?_⟩
  exact ⟨_,rfl,p,A.Window,dx,_,_,rfl,hp,T.cl_Window,T.na_Window_draft_sheet,wf_d,q⟩
theorem zq2:FnScope ["self"] ["self"] (zea zb2):=by walk_at "sc"
theorem zm4 (T:Txt w K mg A) (G_q18:zck P w K mg B A):znm P w K mg B A:=by
 have B_q18:=T.b_q18
 refine T.F_q11.okN zq2 (λ vs H Q E h=>?_) (λ _ _ _ _ H vs Q E hr h=>?_)
 ·obtain ⟨_,p,dx,D,lg,n,b,c,B,ms,rfl,_⟩:=h
  rfl
 ·obtain ⟨hP,p,dx,D,lg,n,b,c,B,ms,rfl,hp,S,q⟩:=h
  refine ⟨_,(zfa (zla (zja (zcb (pv 0) rfl) T.cl_Sheet T.m_q18 G_q18 (hr.mono (by decide)) B_q18 .nil zva))),?_⟩
  obtain ⟨dx2,_,_,_,hx,_⟩:=id S.ex
  exact ⟨_,rfl,p,A.Window,dx,_,_,rfl,hp,T.cl_Window,T.na_Window_draft_sheet,wf_d,D,dx2,_,rfl,hx,rfl,hP,D,ms,rfl,S,q⟩
theorem zw8:FnScope ["self"] ["self"] (zea s_q4):=by walk_at "sc"
theorem zx7 (T:Txt w K mg A) (G_q17:zvw P w K mg B A):zb5 P w K mg B A:=by
 have B_q17:=T.b_q17
 refine T.F_q4.okN zw8 (λ vs H Q E h=>?_) (λ _ _ _ _ H vs Q E hr h=>?_)
 ·obtain ⟨_,p,dx,D,lg,S,U,n,b,c,B,ys,rfl,_⟩:=h
  rfl
 ·obtain ⟨hP,p,dx,D,lg,S,U,n,b,c,B,ys,rfl,hp,L,q⟩:=h
  refine ⟨_,(zfa (zla (zja (zcb (pv 0) rfl) T.cl_Log T.m_q17 G_q17 (hr.mono (by decide)) B_q17 .nil zva))),?_⟩
  obtain ⟨dx2,hx⟩:=id L.hp
  exact ⟨_,rfl,p,A.Window,dx,_,_,rfl,hp,T.cl_Window,T.na_Window_log,wf_l,lg,dx2,_,rfl,hx,zmu _ _ (by decide +kernel) (by decide +kernel),hP,lg,S,U,ys,rfl,L,q⟩
theorem zq8:FnScope ["self", "pairs"] ["self", "pairs"] (zea s_q8):=by walk_at "sc"
theorem zz8 (T:Txt w K mg A) (G_q15:zhy P w K mg B A):zyy P w K mg B A:=by
 have B_q15:=T.b_q15
 refine T.F_q8.okN zq8 (λ vs H Q E h=>?_) (λ _ _ _ _ H vs Q E hr h=>?_)
 ·obtain ⟨_,p,dx,D,lg,l,n,b,c,B,ms,ws,gs,V,rfl,_⟩:=h
  rfl
 ·obtain ⟨hP,p,dx,D,lg,l,n,b,c,B,ms,ws,gs,V,rfl,hp,S,hl,hw,okg,bx,lg64,lV,hV,q⟩:=h
  refine ⟨_,(zba (zhc (pv 0) (zza (zcb (pv 0) rfl) T.cl_Sheet T.m_q15 G_q15 (hr.mono (by decide)) B_q15 .nil zva (zaa (pv 1) zda)) rfl)
   (zfa (zla (zjh ["mark", "version"] 2 [] rfl (zsd (pv 1)) gk2 (λ _ _ _ _ _=>zbd rfl (zka (zma (i:=0) (show List.Nodup (["mark", "version"]:List Str) by decide +kernel) rfl (Or.inl rfl)) (zka (zma (i:=1) (show List.Nodup (["mark", "version"]:List Str) by decide +kernel) rfl (Or.inl rfl)) zub))) (λ _ _ _ _ _=>zmh) (λ _ _ _ _ _=>(pv 0)))))),?_⟩
  obtain ⟨dx2,_,_,_,hx,_⟩:=id S.ex
  refine ⟨_,rfl,p,A.Window,dx,_,_,rfl,hp,T.cl_Window,T.na_Window_draft_sheet,wf_d,D,dx2,_,rfl,hx,rfl,_,rfl,hP,D,l,ms,ws,gs,V,rfl,S,SqL.of hl,hw,okg,bx,lg64,lV,hV,λ x ns H1 nx s1 P1 Sx lk=>?_⟩
  have hp1:=s1 _ _ hp
  refine ⟨_,rfl,p,A.Window,dx,_,rfl,hp1,T.cl_Window,T.na_Window_draft_sheet,zgl,?_⟩
  rw [zp6]
  have mu:Mu [p] H1:=Mu.nil.ins hp1 wf_v
  have k2:But [p] H1 (upd H1 p (.ins A.Window dx (wf (.int n) (.int b) B (.ref x) (.int c) (.ref lg)))):=But.put (by simp)
  have h2:(upd H1 p (.ins A.Window dx (wf (.int n) (.int b) B (.ref x) (.int c) (.ref lg)))) p=some (.ins A.Window dx (wf (.int n) (.int b) B (.ref x) (.int c) (.ref lg))):=upd_same
  have P2:Plain (upd H1 p (.ins A.Window dx (wf (.int n) (.int b) B (.ref x) (.int c) (.ref lg)))):=Plain.ins P1
  generalize upd H1 p (.ins A.Window dx (wf (.int n) (.int b) B (.ref x) (.int c) (.ref lg)))=H2 at k2 h2 P2 ⊢
  have S2:=Sx.but k2 mu
  have hl1:=s1 _ _ hl
  have nlp:l≠p:=zxd hl hp (by intro z;cases z)
  have hl2:=k2 _ _ (by simp [nlp]) hl1
  have noG:∀ gs:List Giv,noLs (gs.map givD)=true:=λ gs=>by
   induction gs with
   | nil=>rfl
   | cons g gs ih =>
    show (noL (givD g) && noLs (gs.map givD))=true
    rw [ih,zpn]
    rfl
  have hw2:=zlb k2 mu.noT _ _ (noG gs) (DVs.same s1 _ _ hw)
  have hwl:ws.length=gs.length:=by rw [hw.length,List.length_map]
  refine ⟨_,rfl,l,rfl,⟨_,SqL.of hl2⟩,λ m hm=>zwf (λ j=>ws.getD j .non) (λ j y H=>∀ g,gs[j]? = some g→DV K H (L2.markD g.1) y) hm P2 (n:=ws.length) (sm1 ((by omega))) (ziq (SqL.of hl2)) ?_ ?_ ?_⟩
  ·exact λ j y Ha Hb h k hz g eg=>DV.mono k hz _ _ rfl (h g eg)
  ·intro j H3 R hj P3 S3 hR
   have hjg:j<gs.length:=by omega
   obtain ⟨y,hy,hyd⟩:=hw2.get (i:=j) (d:=givD gs[j]) (by rw [List.getElem?_map,List.getElem?_eq_getElem hjg];rfl)
   obtain ⟨ty,yv,rfl,hty,y0,yr,rfl,hy0,y1,yr1,rfl,hy1,hy2⟩:=hyd
   cases (show yr1=[] from hy2)
   have eg:ws.getD j .non = .ref ty:=by rw [List.getD_eq_getElem?_getD,hy];rfl
   rw [eg]
   refine ⟨ty,_,rfl,S3.seqT hty,rfl,_,_,rfl,_,_,rfl,rfl,_,rfl,hR _ _ (λ g ge=>?_) (Same.refl _) P3⟩
   rw [List.getElem?_eq_getElem hjg] at ge
   cases ge
   exact DV.same S3 _ _ hy0
  intro zs H3 hzl hzs hm3 S3 P3
  refine q x m ns zs H3 ?_ (((But.of s1).trans k2).trans (But.of S3)) P3 (S3 _ _ h2) (S2.same S3) lk hm3 (DVs.of (f:=λ g:Giv=>L2.markD g.1) (by omega) λ j y g hy hg=>hzs j y hy g hg)
  exact ((But.of s1).trans k2).free hm (λ z=>by rw [List.mem_singleton.mp z,h2] at hm;cases hm)
theorem sc_q20:FnScope ["self", "deed", "beat", "count", "pairs"] ["self", "deed", "beat"] (zea zkz):=by walk_at "sc"
theorem zs5 (T:Txt w K mg A) (G_q6:zwy P w K mg B A) (G_q47:zlx P w K mg B A) (G_q41:zjw P w K mg B A) (G_q8:zyy P w K mg B A):zwr P w K mg B A:=by
 have B_q6:=T.b_q6
 have B_q47:=T.b_q47
 have B_q41:=T.b_q41
 have B_q8:=T.b_q8
 refine T.F_q20.okX sc_q20 (λ vs H Q E h=>?_) (λ _ _ _ _ H vs Q E hr h=>?_)
 ·obtain ⟨_,p,lg,S,U,d,n,b,c,beat,B,D,ms,xs,ys,st,T0,rfl,_⟩:=h
  rfl
 ·obtain ⟨hP,p,lg,S,U,d,n,b,c,beat,B,D,ms,xs,ys,st,T0,rfl,npl,W,sh,bx,few,hd,hT,q⟩:=h
  refine ⟨_,(zba (zra (i:=3) sc_q20.nd rfl (Or.inl rfl) (zta zxb (zcb (pv 0) rfl) zia))
   (zba (zra (i:=4) sc_q20.nd rfl (Or.inl rfl) (zpa G_q47 (hr.mono (by decide)) rfl T.g_q47 T.k_q47 B_q47 .nil (Wants.passes zna) (zaa (zcb (pv 0) rfl) (zaa (pv 1) (zaa (pv 2) (zaa (zcb (pv 0) rfl) (zaa (pv 3) zda)))))))
   (zba (zvb (zza (zcb (pv 0) rfl) T.cl_Log T.m_q41 G_q41 (hr.mono (by decide)) B_q41 .nil zva (zaa (zjh ["mark", "version", "self"] 2 [0] rfl (zsd (pv 4)) gk2 (λ _ _ _ _ _=>zbd rfl (zka (zma (i:=0) (show List.Nodup (["mark", "version", "self"]:List Str) by decide +kernel) rfl (Or.inl rfl)) (zka (zma (i:=1) (show List.Nodup (["mark", "version", "self"]:List Str) by decide +kernel) rfl (Or.inl rfl)) zub))) (λ _ _ _ _ _=>zmh) (λ _ _ _ _ _=>(zya (zaa (pv 0) (zaa (zza (zwv (K:=K) rfl (pv 2) rfl) T.cl_Sheet T.m_q6 G_q6 (hr.mono (by decide)) B_q6 .nil zva (zaa (pv 0) zda)) (zaa (pv 1) zda)))))) zda)))
   (zba (zhc (pv 0) (pv 3) rfl)
   (zfa (zla (zza (pv 0) T.cl_Window T.m_q8 G_q8 (hr.mono (by decide)) B_q8 .nil zva (zaa (pv 4) zda)))))))),?_⟩
  obtain ⟨dx,hp⟩:=W.o
  obtain ⟨dl,hlg⟩:=id W.l.hp
  refine ⟨_,rfl,p,A.Window,dx,_,_,rfl,hp,T.cl_Window,T.na_Window_last_count,wf_c,_,_,rfl,rfl,?_⟩
  dsimp only
  refine ⟨_,rfl,p,A.Window,dx,_,_,rfl,hp,T.cl_Window,T.na_Window_draft_sheet,wf_d,_,rfl,_,rfl,_,rfl,p,A.Window,dx,_,_,rfl,hp,T.cl_Window,T.na_Window_number,wf_n,_,rfl,hP,D,ms,d,beat,n,c+1,rfl,W.d,sh,?_⟩
  apply zq1 (α:=Mark) (β:=Ver) (ok:=T0)
  ·intro go
   rcases id hd with ⟨q0,m,h1,h2,h3,h4⟩ | ⟨bo,bv,z,h1,h2,h3,h4,h5,h6⟩ | ⟨q0,m,z,h1,h2,h3,h4,h5,h6⟩
   ·obtain ⟨v,hv⟩:∃ v:Ver,v=((beat,[], ""):Ver):=⟨(beat,[], ""),rfl⟩
    refine .inr (.inl ⟨q0,m,h1,h2,λ _=>?_,λ z=>by rw [h3] at z;cases z⟩)
    rw [← hv] at h4 ⊢
    exact go m v h4
   ·exact .inl ⟨bo,bv,z,h1,h2,h3,λ _ low o hlow hl=>go _ _ (h6 low o hlow hl),(λ z=>by rw [h4] at z;cases z),λ _ hn=>absurd hn h5⟩
   ·exact .inr (.inr ⟨q0,m,z,h1,h2,h3,λ _ _=>go _ _ h6,(λ z=>by rw [h4] at z;cases z),λ _ z=>by rw [h5] at z;cases z⟩)
  intro m v hTm l5 w5 H5 n5 s5 P5 h5 hw5
  obtain ⟨okv,smm,hmm⟩:=hT m v hTm
  have hp5:=s5 _ _ hp
  have L5:=W.l.same s5
  obtain ⟨dl5,hlg5⟩:=id L5.hp
  have S5:=W.d.same s5
  obtain ⟨dxs,_,_,_,hxs,_⟩:=id S5.ex
  have hwl:w5.length=1:=by rw [hw5.length];rfl
  obtain ⟨y,hy,hyd⟩:=hw5.get (i:=0) (d:=prD (m,v)) rfl
  obtain ⟨t5,q5,vx,rfl,ht5,hq5,hvx⟩:=zm2 hyd
  refine ⟨_,rfl,p,A.Window,dx,_,_,rfl,hp5,T.cl_Window,T.na_Window_log,wf_l,lg,dl5,_,rfl,hlg5,zmu _ _ (by decide +kernel) (by decide +kernel),_,rfl,l5,rfl,⟨_,SqL.of h5⟩,λ D6 hD6=>zwf (λ j=>w5.getD j .non) (λ j y H=>DV K H (chD (m,look ms m,some v)) y) hD6 P5 (n:=w5.length) (sm1 ((by omega))) (ziq (SqL.of h5)) ?_ ?_ ?_⟩
  ·exact λ j y Ha Hb h k hz=>DV.mono k hz _ _ (zcv _) h
  ·intro j H6 R hj P6 S6 hR
   have e0:j=0:=by omega
   subst e0
   have eg:w5.getD 0 .non = .ref t5:=by rw [List.getD_eq_getElem?_getD,hy];rfl
   rw [eg]
   refine ⟨t5,_,rfl,S6.seqT ht5,rfl,_,_,rfl,_,_,rfl,rfl,_,rfl,_,rfl,p,A.Window,dx,_,_,rfl,S6 _ _ hp5,T.cl_Window,T.na_Window_draft_sheet,wf_d,D,dxs,_,rfl,S6 _ _ hxs,rfl,_,rfl,P6,D,q5,m,ms,rfl,S5.same S6,S6.seqT hq5,λ x hx=>?_⟩
   refine ⟨_,rfl,sz_3,λ t7 hp7=>?_⟩
   have s7:Same H6 (upd H6 t7 (.tup [.ref q5,x,vx])):=zga hp7
   exact hR _ _ ⟨t7,_,rfl,SqT.of upd_same,_,_,rfl,zjd ((S6.trans s7).seqT hq5),_,_,rfl,DV.same s7 _ _ hx,_,_,rfl,DV.same (S6.trans s7) _ _ hvx,rfl⟩ s7 P6.tup
  intro zs H7 hzl hzs hD7 S57 P7
  have d7:DVs K H7 [chD (m,look ms m,some v)] zs:=by
   obtain ⟨z,hz⟩:∃ z,zs=[z]:=by
    match zs,(show zs.length=1 by omega) with
    | [z],_=>exact ⟨z,rfl⟩
   rw [hz]
   exact ⟨z,[],rfl,hzs 0 z (by rw [hz];rfl),rfl⟩
  have S7:=s5.trans S57
  have L7:=W.l.same S7
  refine ⟨P7,lg,S,U,D6,xs,ys,zs,rfl,L7,SqL.of hD7,few,λ l8 W8 H8 nl8 nW8 nlW L8 hl8 k8 P8=>?_⟩
  have hp7:=S7 _ _ hp
  have nSp:S≠p:=zxd W.l.hS hp (by intro z;cases z)
  have nUp:U≠p:=zxd W.l.hU hp (by intro z;cases z)
  obtain ⟨dl7,hlg7⟩:=id L7.hp
  have mu7:Mu [lg,S] H7:=(Mu.nil.lst L7.hS).ins hlg7 (lf_v _ _)
  have hp8:=k8 _ _ (by simp [npl,nSp.symm]) hp7
  refine ⟨_,rfl,_,rfl,p,A.Window,dx,_,rfl,hp8,T.cl_Window,T.na_Window_last_count,zgl,?_⟩
  rw [zg9]
  have mu8:Mu [p] H8:=Mu.nil.ins hp8 wf_v
  have k9:But [p] H8 (upd H8 p (.ins A.Window dx (wf (.int n) (.int b) B (.ref D) (.int (c+1)) (.ref lg)))):=But.put (by simp)
  have h9:(upd H8 p (.ins A.Window dx (wf (.int n) (.int b) B (.ref D) (.int (c+1)) (.ref lg)))) p=some (.ins A.Window dx (wf (.int n) (.int b) B (.ref D) (.int (c+1)) (.ref lg))):=upd_same
  have P9:Plain (upd H8 p (.ins A.Window dx (wf (.int n) (.int b) B (.ref D) (.int (c+1)) (.ref lg)))):=Plain.ins P8
  generalize upd H8 p (.ins A.Window dx (wf (.int n) (.int b) B (.ref D) (.int (c+1)) (.ref lg)))=H9 at k9 h9 P9 ⊢
  have S9:=((W.d.same S7).but k8 mu7).but k9 mu8
  have nl5:l5∉[lg,S]:=λ z=>by
   rcases List.mem_cons.mp z with rfl | z
   ·rw [hlg] at n5;cases n5
   ·rw [List.mem_singleton.mp z,W.l.hS] at n5;cases n5
  have h5_9:=k9 _ _ (λ z=>by rw [List.mem_singleton.mp z,hp] at n5;cases n5) (k8 _ _ nl5 (S57 _ _ h5))
  have noP:noLs ([((m,some v):Giv)].map givD)=true:=by
   show (noL (givD (m,some v)) && true)=true
   rw [zpn]
   rfl
  have hw9:DVs K H9 ([((m,some v):Giv)].map givD) w5:=zlb k9 mu8.noT _ _ noP (zlb k8 mu7.noT _ _ noP (DVs.same S57 _ _ hw5))
  obtain ⟨Vm,hVl,hV⟩:∃ Vm:List Mark,Vm.length<64∧∀ k,zrh (look ms) [((m,some v):Giv)] k≠none→k∈Vm:=by
   rcases hmm with hmm | hmm
   ·refine ⟨mks ms,by unfold mks;rw [List.length_map];exact W.d.few,λ k hk=>?_⟩
    rcases List.mem_cons.mp (zrj hk) with e | e
    ·rw [e];exact hmm
    ·exact e
   ·exact ⟨m::mks ms,by unfold mks;rw [List.length_cons,List.length_map];omega,λ k hk=>zrj hk⟩
  refine ⟨_,rfl,p,dx,_,rfl,h9,rfl,_,rfl,P9,p,dx,D,lg,l5,n,b,c+1,B,ms,w5,[(m,some v)],Vm,rfl,h9,S9,h5_9,hw9,(λ g hg=>by rw [List.mem_singleton.mp hg];exact λ u e=>by cases e;exact okv),bx,by show 1<64;decide,hVl,hV,λ x r ns zr H10 nr k10 P10 hp10 Sh10 lk10 hr10 hd10=>?_⟩
  have mu9:Mu [p] H9:=Mu.nil.ins h9 wf_v
  have k910:But [p] H8 H10:=k9.trans k10
  have nWp:W8≠p:=λ z=>by rw [z,hp7] at nW8;cases nW8
  have L10:LogK A.Log H10 lg S W8 (xs++[.ref l8]) []:=L8.but k910 λ a ha z=>by
   rw [List.mem_singleton.mp z] at ha
   rcases List.mem_cons.mp ha with e | ha
   ·exact npl e
   rcases List.mem_cons.mp ha with e | ha
   ·exact nSp e.symm
   ·exact nWp (List.mem_singleton.mp ha).symm
  have nl8p:l8≠p:=λ z=>by rw [z,hp7] at nl8;cases nl8
  have nl8S:l8≠S:=λ z=>by rw [z,L7.hS] at nl8;cases nl8
  have e7:EnL K [W8,S] H7 xs st:=EnL.more ((W.e.same S7).less (M:=[S]) (by simp)) nW8
  have e10:EnL K [W8,S] H10 xs st:=(e7.but k8 mu7.noT (λ a ha=>by
   rcases List.mem_cons.mp ha with rfl | ha
   ·exact .inr ⟨_,_,_,hlg7⟩
   ·exact .inl (by rw [List.mem_singleton.mp ha];simp))).but k910 mu8.noT (λ a ha=>by rw [List.mem_singleton.mp ha];exact .inr ⟨_,_,_,hp8⟩)
  have dn:noLs [chD (m,look ms m,some v)]=true:=by
   show (noL (chD (m,look ms m,some v)) && true)=true
   rw [zcv]
   rfl
  have enew:LsR K [W8,S] H10 (.ref l8) [chD (m,look ms m,some v)]:=⟨l8,zs,rfl,by simp [nlW,nl8S],k910 _ _ (by simp [nl8p]) hl8,zlb k910 mu8.noT _ _ dn (zlb k8 mu7.noT _ _ dn d7),dn⟩
  refine q m v hTm x r W8 ns zr l8 H10 ?_ (S7.free nW8) (S7.free nl8) ?_ P10 ⟨⟨dx,hp10⟩,L10,?_,Sh10⟩ (λ k=>(lk10 k).trans (ztj _ _ k)) hr10 hd10
  ·have k09:But [p,lg,S] H H9:=((But.of S7).trans (k8.mono (by simp))).trans (k9.mono (by simp))
   obtain ⟨dl8,hlg8⟩:=id L8.hp
   refine k09.free nr λ z=>?_
   rcases List.mem_cons.mp z with rfl | z
   ·rw [h9] at nr;cases nr
   rcases List.mem_cons.mp z with rfl | z
   ·rw [k9 _ _ (by simp [npl.symm]) hlg8] at nr;cases nr
   ·rw [List.mem_singleton.mp z,k9 _ _ (by simp [nSp]) L8.hS] at nr;cases nr
  ·exact ((But.of S7).trans (k8.mono (by simp))).trans (k910.mono (by simp))
  ·have:=zlf (y:=[(m,look ms m,some v)]) e10 enew
   exact EnL.less this (by simp)
theorem zq0:FnScope ["self"] ["self"] (zea za1):=by walk_at "sc"
theorem zw1 (T:Txt w K mg A) (G_q39:zws P w K mg B A) (G_q8:zyy P w K mg B A):zgy P w K mg B A:=by
 have B_q39:=T.b_q39
 have B_q8:=T.b_q8
 refine T.F_q21.okX zq0 (λ vs H Q E h=>?_) (λ _ _ _ _ H vs Q E hr h=>?_)
 ·obtain ⟨_,p,lg,S,U,n,b,c,B,D,ms,xs,ys,st,rfl,_⟩:=h
  rfl
 ·obtain ⟨hP,p,lg,S,U,n,b,c,B,D,ms,xs,ys,st,rfl,npl,W,bx,ok,few,q,qe⟩:=h
  refine ⟨_,(zfa (zla (zza (pv 0) T.cl_Window T.m_q8 G_q8 (hr.mono (by decide)) B_q8 .nil zva (zaa (zjh ["mark", "before", "after"] 3 [] rfl (zsd (zja (zcb (pv 0) rfl) T.cl_Log T.m_q39 G_q39 (hr.mono (by decide)) B_q39 .nil (Wants.passes zna))) gk3 (λ _ _ _ _ _=>zbd rfl (zka (zma (i:=0) (show List.Nodup (["mark", "before", "after"]:List Str) by decide +kernel) rfl (Or.inl rfl)) (zka (zma (i:=1) (show List.Nodup (["mark", "before", "after"]:List Str) by decide +kernel) rfl (Or.inl rfl)) (zka (zma (i:=2) (show List.Nodup (["mark", "before", "after"]:List Str) by decide +kernel) rfl (Or.inl rfl)) zub)))) (λ _ _ _ _ _=>zmh) (λ _ _ _ _ _=>(zya (zaa (pv 0) (zaa (pv 1) zda))))) zda)))),?_⟩
  obtain ⟨dx,hp⟩:=W.o
  obtain ⟨dl,hlg⟩:=id W.l.hp
  have nSp:S≠p:=zxd W.l.hS hp (by intro z;cases z)
  have nUp:U≠p:=zxd W.l.hU hp (by intro z;cases z)
  have mu0:Mu [S,U] H:=(Mu.nil.lst W.l.hU).lst W.l.hS
  refine ⟨_,rfl,p,dx,_,rfl,hp,rfl,_,rfl,p,A.Window,dx,_,_,rfl,hp,T.cl_Window,T.na_Window_log,wf_l,lg,dl,_,rfl,hlg,zmu _ _ (by decide +kernel) (by decide +kernel),hP,lg,S,U,xs,ys,st,rfl,W.l,W.e,ok,few,λ st' e xs' y e1 e2 l1 zs H1 nl1 hl1 hS1 hU1 k1 hz1 P1=>?_,λ e H' s' P'=>qe e H' s' P'⟩
  obtain ⟨⟨Vm,hVl,hV⟩,q⟩:=q st' e xs' y e1 e2
  have hp1:=k1 _ _ (by simp [nSp.symm,nUp.symm]) hp
  have hzl:zs.length=e.length:=by rw [hz1.length,List.length_map]
  have oke:=ok e (by rw [e1];exact List.mem_append_right _ (List.mem_singleton.mpr rfl))
  have el3:=oke.2.2
  refine ⟨l1,rfl,⟨_,SqL.of hl1⟩,λ D2 hD2=>zwf (λ j=>zs.getD j .non) (λ j y H=>∀ c,e[j]? = some c→DV K H (givD (c.1,c.2.1)) y) hD2 P1 (n:=zs.length) (sm1 ((by omega))) (ziq (SqL.of hl1)) ?_ ?_ ?_⟩
  ·exact λ j y Ha Hb h k hz c ec=>DV.mono k hz _ _ (zpn _) (h c ec)
  ·intro j H2 R hj P2 S2 hR
   have hje:j<e.length:=by omega
   obtain ⟨y0,hy0,hyd⟩:=hz1.get (i:=j) (d:=chD e[j]) (by rw [List.getElem?_map,List.getElem?_eq_getElem hje];rfl)
   obtain ⟨t,q0,va,vb,rfl,hq,hm,g1,g2⟩:=zu7 hyd
   have eg:zs.getD j .non = .ref t:=by rw [List.getD_eq_getElem?_getD,hy0];rfl
   rw [eg]
   refine ⟨t,_,rfl,S2.seqT hq,rfl,_,_,rfl,_,_,rfl,_,_,rfl,rfl,_,rfl,_,rfl,sz_2,λ t3 hp3=>?_⟩
   have s3:Same H2 (upd H2 t3 (.tup [.ref q0,va])):=zga hp3
   refine hR _ _ (λ c ec=>?_) s3 P2.tup
   rw [List.getElem?_eq_getElem hje] at ec
   cases ec
   exact ⟨t3,_,rfl,SqT.of upd_same,_,_,rfl,zjd ((S2.trans s3).seqT hm),_,_,rfl,DV.same (S2.trans s3) _ _ g1,rfl⟩
  intro gs H2 hgl hgs hD2' S12 P2
  have d2:DVs K H2 ((e.map λ c:Chg=>((c.1,c.2.1):Giv)).map givD) gs:=by
   rw [List.map_map]
   exact DVs.of (f:=givD ∘ λ c:Chg=>((c.1,c.2.1):Giv)) (by omega) λ j y c hy hc=>hgs j y hy c hc
  have hp2:=S12 _ _ hp1
  have Sh2:=(W.d.but k1 mu0).same S12
  refine ⟨P2,p,dx,D,lg,D2,n,b,c,B,ms,gs,e.map λ c=>(c.1,c.2.1),Vm,rfl,hp2,Sh2,hD2',d2,(λ g hg=>by obtain ⟨c,hc,rfl⟩:=List.mem_map.mp hg;exact (oke.1 c hc).1),bx,by rw [List.length_map];omega,hVl,hV,λ x r ns zr H3 nr k3 P3 hp3 Sh3 lk3 hr3 hd3=>?_⟩
  have k13:But [p] H1 H3:=(But.of S12).trans k3
  have hlg1:=k1 _ _ (by simp [W.l.nS,W.l.nU]) hlg
  have mu1:Mu [p] H1:=Mu.nil.ins hp1 wf_v
  obtain ⟨xs2,y2,e3,he2,_⟩:=znf (e1 ▸ W.e)
  have ex:xs2=xs'∧y2=y:=by
   rw [e2] at e3
   have:=List.append_inj' e3 rfl
   exact ⟨this.1.symm,(List.cons.inj this.2).1.symm⟩
  rw [ex.1] at he2
  refine q x r ns H3 ((k1.mono (by simp)).trans (k13.mono (by simp))) P3 ⟨⟨dx,hp3⟩,⟨⟨dl,k13 _ _ (by simp [npl.symm]) hlg1⟩,k13 _ _ (by simp [nSp]) hS1,k13 _ _ (by simp [nUp]) hU1,W.l.ne⟩,?_,Sh3⟩ lk3
  exact EnL.but (EnL.but he2 k1 mu0.noT (λ a ha=>.inl ha)) k13 mu1.noT (λ a ha=>by rw [List.mem_singleton.mp ha];exact .inr ⟨_,_,_,hp1⟩)
theorem zh7:FnScope ["self"] ["self"] (zea s_q9):=by walk_at "sc"
theorem zw7 (T:Txt w K mg A) (G_q31:zes P w K mg B A) (G_q8:zyy P w K mg B A):zy6 P w K mg B A:=by
 have B_q31:=T.b_q31
 have B_q8:=T.b_q8
 refine T.F_q9.okX zh7 (λ vs H Q E h=>?_) (λ _ _ _ _ H vs Q E hr h=>?_)
 ·obtain ⟨_,p,dx,D,lg,S,U,n,b,c,B,xs,rfl,_⟩:=h
  rfl
 ·obtain ⟨hP,p,dx,D,lg,S,U,n,b,c,B,xs,rfl,hp,L,few,qe⟩:=h
  refine ⟨_,(zfa (zla (zza (pv 0) T.cl_Window T.m_q8 G_q8 (hr.mono (by decide)) B_q8 .nil zva (zaa (zjh ["mark", "before", "after"] 3 [] rfl (zsd (zja (zcb (pv 0) rfl) T.cl_Log T.m_q31 G_q31 (hr.mono (by decide)) B_q31 .nil (Wants.passes zna))) gk3 (λ _ _ _ _ _=>zbd rfl (zka (zma (i:=0) (show List.Nodup (["mark", "before", "after"]:List Str) by decide +kernel) rfl (Or.inl rfl)) (zka (zma (i:=1) (show List.Nodup (["mark", "before", "after"]:List Str) by decide +kernel) rfl (Or.inl rfl)) (zka (zma (i:=2) (show List.Nodup (["mark", "before", "after"]:List Str) by decide +kernel) rfl (Or.inl rfl)) zub)))) (λ _ _ _ _ _=>zmh) (λ _ _ _ _ _=>(zya (zaa (pv 0) (zaa (pv 2) zda))))) zda)))),?_⟩
  obtain ⟨dl,hlg⟩:=id L.hp
  exact ⟨_,rfl,p,dx,_,rfl,hp,rfl,_,rfl,p,A.Window,dx,_,_,rfl,hp,T.cl_Window,T.na_Window_log,wf_l,lg,dl,_,rfl,hlg,zmu _ _ (by decide +kernel) (by decide +kernel),hP,lg,U,S,[],xs,[],rfl,L,.nil,(λ e he=>by cases he),few,(λ es' d xs' y e=>absurd e (by simp)),λ _ H' s' P'=>qe H' s' P'⟩
theorem zs8:FnScope ["self", "save", "sheet"] ["self", "save", "sheet"] (zea s_q5):=by walk_at "sc"
theorem zx8 (T:Txt w K mg A)  : zk6 P w K mg B A:=by
 refine T.F_q5.okN zs8 (λ vs H Q E h=>?_) (λ _ _ _ _ H vs Q E hr h=>?_)
 ·obtain ⟨_,p,dx,D,lg,D2,n,b,c,b2,B,rfl,_⟩:=h
  rfl
 ·obtain ⟨hP,p,dx,D,lg,D2,n,b,c,b2,B,rfl,hp,q⟩:=h
  refine ⟨_,(zba (zhc (pv 0) (pv 1) rfl)
   (zba (zhc (pv 0) (pv 2) rfl)
   (zfa (zhc (pv 0) (pv 2) rfl)))),?_⟩
  refine ⟨_,rfl,_,rfl,p,A.Window,dx,_,rfl,hp,T.cl_Window,T.na_Window_base_save,zgl,?_⟩
  rw [za9]
  refine ⟨_,rfl,_,rfl,p,A.Window,dx,_,rfl,upd_same,T.cl_Window,T.na_Window_base_sheet,zgl,?_⟩
  rw [zg8]
  refine ⟨_,rfl,_,rfl,p,A.Window,dx,_,rfl,upd_same,T.cl_Window,T.na_Window_draft_sheet,zgl,?_⟩
  rw [zp6]
  refine q _ (λ b o n e=>?_) (Plain.ins (Plain.ins (Plain.ins hP))) upd_same
  have nb:b≠p:=λ z=>n (by rw [z];simp)
  rw [zha nb,zha nb,zha nb]
  exact e
theorem zy2:FnScope ["self", "save", "sheet"] ["self", "save", "sheet"] (zea zr5):=by walk_at "sc"
theorem za2 (T:Txt w K mg A) (G_q32:zlv P w K mg B A) (G_q5:zk6 P w K mg B A):zuy P w K mg B A:=by
 have B_q32:=T.b_q32
 have B_q5:=T.b_q5
 refine T.F_q10.okN zy2 (λ vs H Q E h=>?_) (λ _ _ _ _ H vs Q E hr h=>?_)
 ·obtain ⟨_,p,dx,D,lg,S,U,D2,n,b,c,b2,B,xs,ys,rfl,_⟩:=h
  rfl
 ·obtain ⟨hP,p,dx,D,lg,S,U,D2,n,b,c,b2,B,xs,ys,rfl,npl,hp,L,q⟩:=h
  refine ⟨_,(zba (zvb (zza (pv 0) T.cl_Window T.m_q5 G_q5 (hr.mono (by decide)) B_q5 .nil zva (zaa (pv 1) (zaa (pv 2) zda))))
   (zfa (zvb (zja (zcb (pv 0) rfl) T.cl_Log T.m_q32 G_q32 (hr.mono (by decide)) B_q32 .nil zva)))),?_⟩
  refine ⟨_,rfl,p,dx,_,rfl,hp,rfl,_,rfl,_,rfl,hP,p,dx,D,lg,D2,n,b,c,b2,B,rfl,hp,λ H1 k1 P1 hp1=>?_⟩
  have L1:=L.but k1 (λ a ha z=>by
   rw [List.mem_singleton.mp z] at ha
   rcases List.mem_cons.mp ha with e | ha
   ·exact npl e
   rcases List.mem_cons.mp ha with e | ha
   ·exact zxd hp L.hS (by intro z;cases z) e
   ·exact zxd hp L.hU (by intro z;cases z) (List.mem_singleton.mp ha))
  obtain ⟨dx2,hx⟩:=id L1.hp
  refine ⟨_,rfl,p,A.Window,dx,_,_,rfl,hp1,T.cl_Window,T.na_Window_log,wf_l,lg,dx2,_,rfl,hx,zmu _ _ (by decide +kernel) (by decide +kernel),P1,lg,S,U,xs,ys,rfl,L1,λ Z W H2 hZ hW L2 k2 P2=>?_⟩
  have fr:∀ a,H1 a=none→H a=none:=λ a ha=>by
   cases e:H a with
   | none=>rfl
   | some o =>
    by_cases ea:a=p
    ·rw [ea,hp1] at ha;cases ha
    ·rw [k1 a o (by simp [ea]) e] at ha;cases ha
  exact q Z W H2 (fr _ hZ) (fr _ hW) ((k1.mono (by simp)).trans (k2.mono (by simp))) P2 (k2 _ _ (by simp [npl]) hp1) L2
theorem zb6:FnScope ["_law_script", "_law_k"] ["_law_script", "_law_k"] (zea zv1):=by walk_at "sc"
theorem zh3 (T:Txt w K mg A)  : zhv P w K mg B A:=by
 refine T.F_q16.okN zb6 (λ vs H Q E h=>?_) (λ _ _ _ _ H vs Q E hr h=>?_)
 ·obtain ⟨a,ns,k,rfl,_⟩:=h
  rfl
 ·obtain ⟨a,ns,k,rfl,hS,h0,q⟩:=h
  refine ⟨_,(zba (zce (zqa zo6 (pv 1) (zkb zeb rfl T.n_len (by decide +kernel) (zaa (pv 0) zda)) (zsa _)) (zfa (zla (zkd zzl (pv 0) (pv 1) (λ _ _=>rfl)))) zxa)
   (zfa (zla zia))),?_⟩
  refine ⟨_,rfl,_,rfl,a,_,rfl,.inl hS,_,_,rfl,rfl,_,rfl,zqn (λ h1=>?_) (λ _=>?_)⟩
  ·rw [List.length_map] at h1
   obtain ⟨j,rfl⟩:∃ j:Nat,k=j:=⟨k.toNat,by omega⟩
   have hj:j<ns.length:=by omega
   refine ⟨_,rfl,_,rfl,a,_,_,_,rfl,rfl,hS,zvi (v:=V.int ns[j]) (by simp [hj]),?_⟩
   exact q _
  ·exact q _
theorem sc_q19:FnScope ["_law_window", "_law_back_here", "_law_refused_here"] ["_law_window", "_law_back_here"] (zea zi5):=by walk_at "sc"
theorem zbz (T:Txt w K mg A) (G_q39:zws P w K mg B A) (G_q31:zes P w K mg B A) (G_q21:zgy P w K mg B A) (G_q9:zy6 P w K mg B A):zop P w K mg B A:=by
 have B_q39:=T.b_q39
 have B_q31:=T.b_q31
 have B_q21:=T.b_q21
 have B_q9:=T.b_q9
 refine T.F_q19.okN sc_q19 (λ vs H Q E h=>?_) (λ _ _ _ _ H vs Q E hr h=>?_)
 ·obtain ⟨_,p,N,i,b,c,z,bk,st,f0,f,rfl,_⟩:=h
  rfl
 ·obtain ⟨hP,p,N,i,b,c,z,bk,st,f0,f,rfl,L,i63,hz,q1,q2⟩:=h
  refine ⟨_,(zba (zra (i:=2) sc_q19.nd rfl (Or.inl rfl) zti)
   (zba (zjy T.x_NoDeed rfl T.g_NoDeed ⟨⟨_,_,_,rfl,rfl,rfl⟩⟩ (λ _ _ _ _ hx=>(zfa (zce (zji (pv 1)) (zfa (zvb (zqj (pv 0) T.cl_Window T.m_q21 G_q21 (hr.mono (by decide)) B_q21 .nil hx))) (zfa (zvb (zqj (pv 0) T.cl_Window T.m_q9 G_q9 (hr.mono (by decide)) B_q9 .nil hx)))))) (λ _=>(zfa (zra (i:=2) sc_q19.nd rfl (Or.inl rfl) zti))))
   (zfa (zla (pv 2))))),?_⟩
  obtain ⟨lg,S,U,B,D,ms,xs,ys,Um,npl,W,sk,hms,hUm,hyl,hzy,hN⟩:=id L.ex
  obtain ⟨dx,hp⟩:=id W.o
  have FGf:=sk.top
  have hxl:xs.length=st.length:=Paired.length W.e
  have hsl:=L.sl
  refine ⟨λ v o H1=>v = .ref A.NoDeed∧o=none∧(bk=false ∨ st=[])∧Same H H1∧Plain H1,?_,?_⟩
  ·refine ⟨_,rfl,bk,rfl,?_⟩
   cases bk with
   | true =>
    have bx:inBx (mks ms):=λ m hm=>by
     cases e:look ms m with
     | none=>exact absurd hm (zxc e)
     | some v=>exact (FGf.v m v ((hms m).symm.trans e)).sm i63 L.cl
    refine iteT ⟨rfl,_,rfl,p,dx,_,rfl,hp,rfl,hP,p,lg,S,U,1,b,c,B,D,ms,xs,ys,st,rfl,npl,W,bx,?_,by omega,λ st' e xs' y e1 e2=>?_,λ e H' s' P'=>⟨rfl,rfl,.inr e,s',P'⟩⟩
    ·exact λ e he=>zdv sk e (List.mem_reverse.mpr he)
    ·rw [e1,zdi] at sk
     obtain ⟨m,v,f',ee,sk',gf,hf⟩:=sk
     have hlk:∀ k,zrh (look ms) (e.map λ c=>(c.1,c.2.1)) k=f' k:=λ k=>by
      rw [ee]
      show (if m=k then f' m else look ms k)=f' k
      by_cases em:m=k
      ·rw [if_pos em,em]
      ·rw [if_neg em,hms,hf,if_neg em]
     refine ⟨⟨Um,by omega,λ k hk=>sk'.top.u k (by rw [← hlk];exact hk)⟩,λ x r ns H1 k1 P1 W1 lk1=>?_⟩
     have e3:st.length=st'.length+1:=by rw [e1,List.length_append];rfl
     refine ⟨_,rfl,q2 rfl st' e e1 f' H1 ⟨⟨lg,S,U,B,x,ns,xs',ys++[y],Um,npl,W1,sk',λ k=>(lk1 k).trans (hlk k),hUm,by rw [List.length_append,List.length_singleton];omega,(λ z=>by cases z),hN⟩,by omega,L.c0,L.cl⟩ (Kp.but k1 (((Mu.nil.lst W.l.hU).lst W.l.hS).ins hp wf_v) λ a ha ws hw z=>?_) P1⟩
     rcases List.mem_cons.mp z with rfl | z
     ·rw [hp] at hw;cases hw
     rcases List.mem_cons.mp z with e | z
     ·exact (hN a ha).1 e
     ·exact (hN a ha).2 (List.mem_singleton.mp z)
   | false =>
    have ey:=hzy (hz rfl)
    subst ey
    exact iteF ⟨rfl,_,rfl,p,dx,_,rfl,hp,rfl,hP,p,dx,D,lg,S,U,1,b,c,B,xs,rfl,hp,W.l,by omega,λ H' s' P'=>⟨rfl,rfl,.inl rfl,s',P'⟩⟩
  ·rintro C H1 ⟨e,_,e1,s1,P1⟩
   cases e
   refine ⟨T.x_NoDeed,T.mro_NoDeed,?_⟩
   exact ⟨_,rfl,q1 e1 _ s1 P1⟩
theorem sc_q29:FnScope ["_law_window", "_law_k", "_law_cell", "_law_sheet", "_law_count"] ["_law_window", "_law_k", "_law_cell"] (zea zk5):=by walk_at "sc"
theorem zf1 (T:Txt w K mg A) (G_q2:zzy P w K mg B A) (G_q13:zfp P w K mg B A) (G_q18:zck P w K mg B A) (G_q24:zts P w K mg B A) (G_q3:zwz P w K mg B A) (G_q12:zdp P w K mg B A) (G_q11:znm P w K mg B A) (G_q4:zb5 P w K mg B A) (G_q10:zuy P w K mg B A) (G_q19:zop P w K mg B A):zbx P w K mg B A:=by
 have B_q2:=T.b_q2
 have B_q13:=T.b_q13
 have B_q18:=T.b_q18
 have B_q24:=T.b_q24
 have B_q3:=T.b_q3
 have B_q12:=T.b_q12
 have B_q11:=T.b_q11
 have B_q4:=T.b_q4
 have B_q10:=T.b_q10
 have B_q19:=T.b_q19
 refine T.F_q29.okN sc_q29 (λ vs H Q E h=>?_) (λ _ _ _ _ H vs Q E hr h=>?_)
 ·obtain ⟨_,p,N,i,b,c,z,st,f0,f,cell,rfl,_⟩:=h
  rfl
 ·obtain ⟨hP,p,N,i,b,c,z,st,f0,f,cell,rfl,L,i62,hNs,q⟩:=h
  refine ⟨_,(zba (zra (i:=3) sc_q29.nd rfl (Or.inl rfl) (zja (pv 0) T.cl_Window T.m_q12 G_q12 (hr.mono (by decide)) B_q12 .nil zva))
   (zba (zra (i:=4) sc_q29.nd rfl (Or.inl rfl) (zja (pv 0) T.cl_Window T.m_q3 G_q3 (hr.mono (by decide)) B_q3 .nil zva))
   (zba (zce (zqa zi6 (zta zmc (pv 2) zia) zia (zsa _)) (zfa (zra (i:=3) sc_q29.nd rfl (Or.inl rfl) (zbj T.mk_Sheet G_q2 (hr.mono (by decide)) rfl T.g_Sheet B_q2 .nil zva (zaa (zta zoo (zja (pv 3) T.cl_Sheet T.m_q13 G_q13 (hr.mono (by decide)) B_q13 .nil zva) (zbc (zaa (zya (zaa (zya (zaa zia (zaa (zta zxb zia (pv 1)) zda))) (zaa (zya (zaa (zta zxb zia (zta zgd zia (pv 1))) (zaa (zya (zaa (zya (zaa (zta zfo (zta zmc (zta zic (pv 2) zia) zia) zia) (zaa zia (zaa (zta zxb zia (pv 1)) zda)))) zda)) (zaa zbb zda)))) zda))) zda))) zda)))) zxa)
   (zba (zce (zqa zpl (zza (pv 0) T.cl_Window T.m_q10 G_q10 (hr.mono (by decide)) B_q10 .nil zva (zaa (zta zxb (pv 1) zia) (zaa (pv 3) zda))) zxg (zsa _)) (zfa (zla zti)) zxa)
   (zba (zce (PW.pt (zrw (zqa zaz (zja (pv 0) T.cl_Window T.m_q24 G_q24 (hr.mono (by decide)) B_q24 .nil zva) (zta zxb (pv 1) zia) (zsa _)) (zrw (zqa (zgk hr.units) (zja (zja (pv 0) T.cl_Window T.m_q12 G_q12 (hr.mono (by decide)) B_q12 .nil zva) T.cl_Sheet T.m_q13 G_q13 (hr.mono (by decide)) B_q13 .nil zva) (zja (pv 3) T.cl_Sheet T.m_q13 G_q13 (hr.mono (by decide)) B_q13 .nil zva) (zsa _)) (zus (zqa (zgk hr.units) (zja (pv 0) T.cl_Window T.m_q11 G_q11 (hr.mono (by decide)) B_q11 .nil zva) (zja (pv 3) T.cl_Sheet T.m_q18 G_q18 (hr.mono (by decide)) B_q18 .nil zva) (zsa _)))))) (zfa (zla zti)) zxa)
   (zba (zce (PW.pt (zrw (zqa (zgk hr.units) (zja (pv 0) T.cl_Window T.m_q4 G_q4 (hr.mono (by decide)) B_q4 .nil zva) (zbc zda) (zsa _)) (zrw (zqa zaz (zja (pv 0) T.cl_Window T.m_q3 G_q3 (hr.mono (by decide)) B_q3 .nil zva) (pv 4) (zsa _)) (zus (zqa zaz (zcb (pv 0) rfl) zia (zsa _)))))) (zfa (zla zti)) zxa)
   (zba (zce (zqa zko (zta zmc (zta zic (pv 2) zia) zia) zia (zsa _)) (zfa (zla (zme (zpa G_q19 (hr.mono (by decide)) rfl T.g_q19 T.k_q19 B_q19 .nil zva (zaa (pv 0) (zaa zti zda))) (zxe (zpa G_q19 (hr.mono (by decide)) rfl T.g_q19 T.k_q19 B_q19 .nil zva (zaa (pv 0) (zaa zti zda))))))) zxa)
   (zfa (zla (zme (zpa G_q19 (hr.mono (by decide)) rfl T.g_q19 T.k_q19 B_q19 .nil zva (zaa (pv 0) (zaa zti zda))) (zxe (zpa G_q19 (hr.mono (by decide)) rfl T.g_q19 T.k_q19 B_q19 .nil zva (zaa (pv 0) (zaa zti zda)))))))))))))),?_⟩
  obtain ⟨lg,S,U,B,D,ms,xs,ys,Um,npl,W,sk,hms,hUm,hyl,hzy,hN⟩:=id L.ex
  obtain ⟨dx,hp⟩:=id W.o
  have G:=sk.top
  have Gm:∀ m v,look ms m=some v→FV i c m v:=λ m v e=>G.v m v ((hms m).symm.trans e)
  have hml:ms.length≤i:=by
   have h1:=zne W.d.nd (U:=Um) λ m hm=>G.u m (by rw [← hms];exact λ z=>zxc z hm)
   rw [List.length_map] at h1
   omega
  obtain ⟨dxs,_,_,_,hD,_⟩:=id W.d.ex
  refine ⟨_,rfl,p,dx,_,rfl,hp,rfl,p,dx,D,lg,1,b,c,B,rfl,hp,?_⟩
  refine ⟨_,rfl,p,dx,_,rfl,hp,rfl,p,dx,D,lg,1,b,c,B,rfl,hp,?_⟩
  apply zq1 (α:=V) (β:=Hp) (ok:=λ y H2=>∃ (D2:Addr) (ms2:Sh) (Um2:List Mark),y = .ref D2∧Same H H2∧Plain H2∧ShAt P w K A.Sheet H2 D2 ms2∧FG (i+1) c Um2 (look ms2)∧Um2.length≤i+1)
  ·intro go
   refine ⟨_,rfl,_,_,rfl,rfl,ip_3,_,_,rfl,rfl,_,rfl,zqn (λ h0=>?_) (λ h0=>?_)⟩
   ·refine ⟨_,rfl,D,dxs,_,rfl,hD,rfl,hP,D,ms,rfl,W.d,λ H1 l1 bs ws1 nl1 s1 P1 h1 pb sb hw1=>?_⟩
    refine ⟨_,rfl,_,_,rfl,rfl,sz_2,λ t2 hp2=>?_⟩
    generalize hH2:upd H1 t2 (HO.tup _)=H2;obtain ⟨s2,P2,h2⟩:=nwT hH2 hp2 P1
    refine ⟨_,rfl,_,_,rfl,rfl,Or.inl ⟨by decide,by decide⟩,_,_,rfl,rfl,_,rfl,_,_,rfl,rfl,⟨by decide,by decide⟩,_,_,rfl,rfl,ip_5,_,_,rfl,rfl,_,rfl,_,_,rfl,rfl,sz_3,λ t3 hp3=>?_⟩
    dsimp only
    generalize cell / 3 % 5 - 2=rk
    generalize hH3:upd H2 t3 (HO.tup _)=H3;obtain ⟨s3,P3,h3⟩:=nwT hH3 hp3 P2
    refine ⟨sz_1,λ t4 hp4=>?_⟩
    generalize hH4:upd H3 t4 (HO.tup _)=H4;obtain ⟨s4,P4,h4⟩:=nwT hH4 hp4 P3
    refine ⟨sz_3,λ t5 hp5=>?_⟩
    generalize hH5:upd H4 t5 (HO.tup _)=H5;obtain ⟨s5,P5,h5⟩:=nwT hH5 hp5 P4
    refine ⟨sz_2,λ t6 hp6=>?_⟩
    generalize hH6:upd H5 t6 (HO.tup _)=H6;obtain ⟨s6,P6,h6⟩:=nwT hH6 hp6 P5
    refine ⟨sz_1,λ l7 hp7=>?_⟩
    generalize hH7:upd H6 l7 (HO.lst _)=H7;obtain ⟨s7,P7,h7⟩:=nwL hH7 hp7 P6
    have S57:=(s5.trans s6).trans s7
    have S27:=(s3.trans s4).trans S57
    have S17:=s2.trans S27
    have hwl:ws1.length=bs.length:=by rw [hw1.length,List.length_map]
    have hbl:bs.length=ms.length:=pb.length_eq
    refine ⟨l1,l7,_,_,rfl,rfl,S17 _ _ h1,h7,sm1 ((by show ws1.length+1≤1000;omega)),λ l8 hp8=>?_⟩
    generalize hH8:upd H7 l8 (HO.lst _)=H8;obtain ⟨s8,P8,h8⟩:=nwL hH8 hp8 P7
    intro x dx9 nx ndx nex
    have sx:Same H8 (upd (upd H8 dx9 (.own x)) x (.ins A.Sheet dx9 [])):=λ b o e=>by
     rw [zha (zca e nx),zha (zca e ndx)]
     exact e
    obtain ⟨nm,hnm⟩:∃ nm:Mark×Ver,nm=(((2,1+(i:Int)),(1+2 * (i:Int),[(rk,2,1+(i:Int))], "theirs")):Mark×Ver):=⟨(((2,1+(i:Int)),(1+2 * (i:Int),[(rk,2,1+(i:Int))], "theirs")):Mark×Ver),rfl⟩
    have hone:DVs K H7 [prD nm] [.ref t6]:=by
     rw [hnm]
     exact ⟨_,_,rfl,⟨t6,_,rfl,s7.seqT (SqT.of h6),_,_,rfl,zjd (S27.seqT (SqT.of h2)),_,_,rfl,⟨t5,_,rfl,(s6.trans s7).seqT (SqT.of h5),_,_,rfl,rfl,_,_,rfl,⟨t4,_,rfl,S57.seqT (SqT.of h4),_,_,rfl,⟨t3,_,rfl,(s4.trans S57).seqT (SqT.of h3),_,_,rfl,rfl,_,_,rfl,rfl,_,_,rfl,rfl,rfl⟩,rfl⟩,_,_,rfl,rfl,rfl⟩,rfl⟩,rfl⟩
    have hall:DVs K H8 ((bs++[nm]).map prD) (ws1++[.ref t6]):=by
     rw [List.map_append]
     exact DVs.same s8 _ _ ((DVs.same S17 _ _ hw1).append hone)
    have hmem:∀ m v,(m,v)∈bs++[nm]→FV (i+1) c m v∧m∈nm.1::Um:=λ m v hm=>by
     rcases List.mem_append.mp hm with hm | hm
     ·have e:=zhb W.d.nd (pb.mem_iff.mp hm)
      exact ⟨(Gm m v e).moreI,List.mem_cons_of_mem _ (G.u m (by rw [← hms,e];exact Option.some_ne_none _))⟩
     ·have e:=List.mem_singleton.mp hm
      rw [hnm] at e ⊢
      cases e
      refine ⟨⟨.inr ⟨rfl,by show (1:Int)≤1+(i:Int);omega,by show 1+(i:Int)≤((i+1:Nat):Int);omega⟩,?_,?_,?_,?_,λ _=>⟨[],rk,rfl⟩⟩,List.mem_cons_self⟩
      ·show PyData.strOk "theirs" = true;decide +kernel
      ·show zpb "theirs" = true;decide +kernel
      ·show 6≤13+(i+1);omega
      ·show 1≤i+1+1;omega
    have nd2:(mks (bs++[nm])).Nodup:=by
     unfold mks
     rw [List.map_append]
     refine List.nodup_append.mpr ⟨(pb.map _).nodup_iff.mpr W.d.nd,by simp,λ a ha b hb z=>?_⟩
     have hb:=List.mem_singleton.mp hb
     obtain ⟨y,hy,rfl⟩:=List.mem_map.mp ha
     have:=(Gm y.1 y.2 (zhb W.d.nd (pb.mem_iff.mp hy))).mb
     rw [z,hb,hnm] at this
     dsimp only at this
     omega
    refine ⟨Plain.ins (P8.upd trivial),x,dx9,l8,_,bs++[nm],rfl,upd_same,SqL.of (sx _ _ h8),DVs.same sx _ _ hall,λ m hm=>(hmem m.1 m.2 hm).1.ok,by rw [List.length_append,hbl];show ms.length+1<64;omega,λ _ H9 k9 Sh9 P9=>⟨rfl,?_⟩,λ h=>absurd nd2 h⟩
    have s9:Same H8 H9:=λ b o e=>k9 b o (zca e nx) (sx b o e)
    generalize hy:V.ref x=y
    exact go y H9 ⟨x,bs++[nm],nm.1::Um,hy.symm,(s1.trans S17).trans (s8.trans s9),P9,Sh9,⟨λ m v e=>(hmem m v (zqb e)).1,λ m e=>by
     cases e1:look (bs++[nm]) m with
     | none=>exact absurd e1 e
     | some v=>exact (hmem m v (zqb e1)).2⟩,by rw [List.length_cons];omega⟩
   ·exact go (.ref D) H ⟨D,ms,Um,rfl,Same.refl _,hP,W.d,⟨λ m v e=>(Gm m v e).moreI,λ m e=>G.u m (by rw [← hms];exact e)⟩,by omega⟩
  rintro y H2 ⟨D2,ms2,Um2,rfl,s2,P2,Sh2,G2,hU2⟩
  have hp2:=s2 _ _ hp
  have W2:=W.same s2
  refine ⟨_,rfl,p,dx,_,rfl,hp2,rfl,_,rfl,_,_,rfl,rfl,_,rfl,P2,p,dx,D,lg,S,U,D2,1,b,c,(i:Int)+1,B,xs,ys,rfl,npl,hp2,W2.l,λ Z Wn H3 nZ nW k3 P3 hp3 L3=>?_⟩
  refine ⟨rfl,_,rfl,zco rfl ?_⟩
  obtain ⟨dlg,hlg2⟩:=id W2.l.hp
  have mu2:Mu [p,lg] H2:=(Mu.nil.ins hlg2 (lf_v _ _)).ins hp2 wf_v
  have Sh3:=Sh2.but k3 mu2
  obtain ⟨dxs2,_,_,_,hD3,_⟩:=id Sh3.ex
  refine ⟨_,rfl,p,dx,_,rfl,hp3,rfl,p,dx,D2,lg,1,(i:Int)+1,c,.ref D2,rfl,hp3,_,rfl,_,_,rfl,rfl,rfl,_,rfl,zco (decide_eq_true rfl) ?_⟩
  refine ⟨_,rfl,p,dx,_,rfl,hp3,rfl,p,dx,D2,lg,1,(i:Int)+1,c,.ref D2,rfl,hp3,D2,dxs2,_,rfl,hD3,rfl,P3,D2,ms2,rfl,Sh3,λ H4 l4 bs4 ws4 nl4 s4 P4 h4 pb4 sb4 hw4=>?_⟩
  refine ⟨_,rfl,D2,dxs2,_,rfl,s4 _ _ hD3,rfl,P4,D2,ms2,rfl,Sh3.same s4,λ H5 l5 bs5 ws5 nl5 s5 P5 h5 pb5 sb5 hw5=>?_⟩
  have e45:bs4=bs5:=znr (pb4.trans pb5.symm) sb4 sb5
  subst e45
  have ok4:∀ m∈bs4,okV m.2:=λ m hm=>Sh3.ok m (pb4.mem_iff.mp hm)
  refine ⟨.list (bs4.map prD),.list (bs4.map prD),⟨l4,ws4,rfl,SqL.of (s5 _ _ h4),DVs.same s5 _ _ hw4⟩,⟨l5,ws5,rfl,SqL.of h5,hw5⟩,ztc ok4,ztc ok4,_,rfl,zco (zcr ok4) ?_⟩
  have S35:=s4.trans s5
  refine ⟨_,rfl,p,dx,_,rfl,S35 _ _ hp3,rfl,P5,p,dx,D2,lg,1,(i:Int)+1,c,.ref D2,ms2,rfl,S35 _ _ hp3,Sh3.same S35,λ H6 l6 bs6 ws6 nl6 s6 P6 h6 pm6 pw6 hw6=>?_⟩
  have S36:=S35.trans s6
  refine ⟨_,rfl,D2,dxs2,_,rfl,S36 _ _ hD3,rfl,P6,D2,ms2,rfl,Sh3.same S36,λ H7 l7 bs7 ws7 nl7 s7 P7 h7 pm7 pw7 hw7=>?_⟩
  have e67:bs6=bs7:=zmw (pm6.trans pm7.symm) pw6 pw7
  subst e67
  have ok6:=zsj Sh3.nd Sh3.ok pm6
  refine ⟨.list (bs6.map (lnD ms2)),.list (bs6.map (lnD ms2)),⟨l6,ws6,rfl,SqL.of (s7 _ _ h6),DVs.same s7 _ _ hw6⟩,⟨l7,ws7,rfl,SqL.of h7,hw7⟩,zob ok6,zob ok6,_,rfl,zco (zol ok6) ?_⟩
  have S37:=S36.trans s7
  refine ⟨_,rfl,p,dx,_,rfl,S37 _ _ hp3,rfl,P7,p,dx,D2,lg,Z,Wn,1,(i:Int)+1,c,.ref D2,[],rfl,S37 _ _ hp3,L3.same S37,λ l8 H8 s8 h8 P8=>?_⟩
  refine ⟨Nat.zero_le _,λ l9 hp9=>?_⟩
  generalize hH9:upd H8 l9 (HO.lst _)=H9;obtain ⟨s9,P9,h9⟩:=nwL hH9 hp9 P8
  have S39:=(S37.trans s8).trans s9
  have hp9':=S39 _ _ hp3
  refine ⟨.list [],.list [],⟨l8,[],rfl,SqL.of (s9 _ _ h8),rfl⟩,⟨l9,[],rfl,SqL.of h9,rfl⟩,rfl,rfl,_,rfl,zco rfl ?_⟩
  refine ⟨_,rfl,p,dx,_,rfl,hp9',rfl,p,dx,D2,lg,1,(i:Int)+1,c,.ref D2,rfl,hp9',_,rfl,rfl,_,rfl,zco (decide_eq_true rfl) ?_⟩
  refine ⟨_,rfl,p,A.Window,dx,_,_,rfl,hp9',T.cl_Window,T.na_Window_number,wf_n,rfl,_,rfl,zco (decide_eq_true rfl) ?_⟩
  have LS:LSt P w K A N H9 p (i+1) ((i:Int)+1) c true [] (look ms2) (look ms2):=⟨⟨lg,Z,Wn,.ref D2,D2,ms2,[],[],Um2,npl,⟨⟨dx,hp9'⟩,L3.same S39,.nil,Sh3.same S39⟩,⟨G2,λ _=>rfl⟩,λ _=>rfl,hU2,Nat.zero_le _,λ _=>rfl,λ a ha=>⟨λ e=>hNs a ha (by rw [e];exact s2.free nZ),λ e=>hNs a ha (by rw [e];exact s2.free nW)⟩⟩,Nat.zero_le _,L.c0,by have:=L.cl;rw [show ((i+1:Nat):Int)=(i:Int)+1 by omega];omega⟩
  have kp:Kp K N H H9:=((Kp.of s2).trans (Kp.but k3 mu2 λ a ha ws hw z=>by
   rcases List.mem_cons.mp z with e | z
   ·rw [e,hp2] at hw;cases hw
   ·rw [List.mem_singleton.mp z,hlg2] at hw;cases hw)).trans (Kp.of S39)
  refine ⟨_,rfl,_,_,rfl,rfl,⟨by decide,by decide⟩,_,_,rfl,rfl,ip_2,rfl,_,rfl,zqn (λ _=>?_) (λ _=>?_)⟩
  ·refine ⟨_,rfl,P9,p,N,i+1,_,c,true,false,[],_,_,rfl,LS,by omega,λ _=>rfl,λ _ Ha sa Pa=>⟨true,rfl,iteT ?_⟩,λ z=>by cases z⟩
   exact ⟨_,rfl,Pa,p,N,i+1,_,c,true,true,[],_,_,rfl,LS.same sa,by omega,λ _=>rfl,λ _ Hb sb Pb=>q _ _ (LS.same (sa.trans sb)) (kp.trans (Kp.of (sa.trans sb))) Pb,λ _ st' e h=>absurd h (by simp)⟩
  ·refine ⟨_,rfl,P9,p,N,i+1,_,c,true,true,[],_,_,rfl,LS,by omega,λ _=>rfl,λ _ Ha sa Pa=>⟨true,rfl,iteT ?_⟩,λ _ st' e h=>absurd h (by simp)⟩
   exact ⟨_,rfl,Pa,p,N,i+1,_,c,true,false,[],_,_,rfl,LS.same sa,by omega,λ _=>rfl,λ _ Hb sb Pb=>q _ _ (LS.same (sa.trans sb)) (kp.trans (Kp.of (sa.trans sb))) Pb,λ z=>by cases z⟩
theorem sc_q42:FnScope ["_law_window", "_law_k", "_law_cell", "_law_lines", "_law_count", "_law_at", "_law_behind", "_law_words", "_law_marks", "_law_new"] ["_law_window", "_law_k", "_law_cell"] (zea zp0):=by walk_at "sc"
theorem zf4 (T:Txt w K mg A) (G_q18:zck P w K mg B A) (G_q3:zwz P w K mg B A) (G_q11:znm P w K mg B A) (G_q20:zwr P w K mg B A):zbv P w K mg B A:=by
 have B_q18:=T.b_q18
 have B_q3:=T.b_q3
 have B_q11:=T.b_q11
 have B_q20:=T.b_q20
 refine T.F_q42.okN sc_q42 (λ vs H Q E h=>?_) (λ _ _ _ _ H vs Q E hr h=>?_)
 ·obtain ⟨_,p,N,i,b,c,z,st,f0,f,k,cell,rfl,_⟩:=h
  rfl
 ·obtain ⟨hP,p,N,i,b,c,z,st,f0,f,k,cell,rfl,L,i62,hNs,q⟩:=h
  refine ⟨_,(zba (zra (i:=3) sc_q42.nd rfl (Or.inl rfl) (zja (pv 0) T.cl_Window T.m_q11 G_q11 (hr.mono (by decide)) B_q11 .nil zva))
   (zba (zra (i:=4) sc_q42.nd rfl (Or.inl rfl) (zja (pv 0) T.cl_Window T.m_q3 G_q3 (hr.mono (by decide)) B_q3 .nil zva))
   (zba (zra (i:=5) sc_q42.nd rfl (Or.inl rfl) (zta zmc (pv 2) (zta zxb (zkb zeb rfl T.n_len (by decide +kernel) (zaa (pv 3) zda)) zia)))
   (zba (zra (i:=6) sc_q42.nd rfl (Or.inl rfl) zxg)
   (zba (zce (zqa zi6 (pv 5) zia (zsa _)) (zfa (zra (i:=6) sc_q42.nd rfl (Or.inl rfl) (zkd zae (zkd zzl (pv 3) (zta zfo (pv 5) zia) (λ _ _=>rfl)) zia (λ _ _=>rfl)))) zxa)
   (zba (zra (i:=7) sc_q42.nd rfl (Or.inl rfl) (zac zq4 zbb (zsc (zta zmc (zta zic (pv 2) zia) zia)) zpc))
   (zba (zra (i:=8) sc_q42.nd rfl (Or.inl rfl) (zza (pv 0) T.cl_Window T.m_q20 G_q20 (hr.mono (by decide)) B_q20 .nil zva (zaa (zya (zaa zbb (zaa (pv 6) (zaa (pv 7) zda)))) (zaa (zta zxb (zta zgd zia (pv 1)) zia) zda))))
   (zba (zra (i:=9) sc_q42.nd rfl (Or.inl rfl) (zya (zaa (zya (zaa zia (zaa (zta zxb (pv 4) zia) zda))) (zaa (pv 7) zda))))
   (zfa (zla (zme (zmb (zoi hr.units) (pv 8) (zbc (zaa (zya (zaa zia (zaa (zta zxb (pv 4) zia) zda))) zda)) (zsa _)) (zxe (zmb (zoi hr.units) (zja (pv 0) T.cl_Window T.m_q11 G_q11 (hr.mono (by decide)) B_q11 .nil zva) (zta zoo (zta zoo (zac zgh (pv 3) zpc (zsc (pv 5))) (zbc (zaa (pv 9) zda))) (zac zgh (pv 3) (zsc (pv 5)) zpc)) (zsa _)))))))))))))),?_⟩
  obtain ⟨lg,S,U,B,D,ms,xs,ys,Um,npl,W,sk,hms,hUm,hyl,hzy,hN⟩:=id L.ex
  obtain ⟨dx,hp⟩:=id W.o
  have G:=sk.top
  have Gm:∀ m v,look ms m=some v→FV i c m v:=λ m v e=>G.v m v ((hms m).symm.trans e)
  refine ⟨_,rfl,p,dx,_,rfl,hp,rfl,hP,p,dx,D,lg,1,b,c,B,ms,rfl,hp,W.d,λ H1 l1 bs ws1 nl1 s1 P1 h1 pm pw hw1=>?_⟩
  have hp1:=s1 _ _ hp
  refine ⟨_,rfl,p,dx,_,rfl,hp1,rfl,p,dx,D,lg,1,b,c,B,rfl,hp1,?_⟩
  have hwl:ws1.length=bs.length:=by rw [hw1.length,List.length_map]
  refine ⟨_,rfl,_,rfl,l1,ws1,rfl,.inl (SqL.of h1),_,_,rfl,rfl,_,_,rfl,rfl,(by show (0:Int)<(ws1.length:Int)+1;omega),?_⟩
  dsimp only
  obtain ⟨n,hn⟩:∃ n:Nat,cell % ((ws1.length:Int)+1)=n:=⟨(cell % ((ws1.length:Int)+1)).toNat,by have:=Int.emod_nonneg cell (show (ws1.length:Int)+1≠0 by omega);omega⟩
  have hnl:n≤bs.length:=by have:=Int.emod_lt_of_pos cell (show (0:Int)<(ws1.length:Int)+1 by omega);omega
  rw [hn]
  obtain ⟨lin,lpw⟩:=zrn W.d.nd Gm pm pw
  apply zq1 (α:=V) (β:=Option Mark) (ok:=λ y bo=>markV K H1 bo y∧bAt bs n bo)
  ·intro go
   refine ⟨_,rfl,_,_,rfl,rfl,_,rfl,zqn (λ h0=>?_) (λ h0=>?_)⟩
   ·have h0:(0:Int)<(n:Int):=h0
    have hb1:n - 1<bs.length:=by omega
    obtain ⟨y,hy,hyd⟩:=hw1.get (i:=n - 1) (d:=lnD ms bs[n - 1]) (by rw [List.getElem?_map,List.getElem?_eq_getElem hb1];rfl)
    obtain ⟨t,tv,rfl,ht,y0,yr,rfl,hy0,y1,yr1,rfl,hy1,hnil⟩:=hyd
    cases (show yr1=[] from hnil)
    obtain ⟨q0,ey,hq0⟩:=zte hy0
    refine ⟨_,rfl,_,rfl,_,_,rfl,rfl,l1,ws1,_,.ref t,rfl,rfl,SqL.of h1,(by show atI ws1 ((n:Int) - 1)=_;rw [show (n:Int) - 1=((n - 1:Nat):Int) by omega];exact zvi hy),t,_,_,_,rfl,rfl,ht,rfl,?_⟩
    obtain ⟨bo,hbo⟩:∃ bo,bo=some bs[n - 1]:=⟨_,rfl⟩
    exact go y0 bo ⟨by rw [hbo];exact ⟨q0,ey,hq0⟩,.inr ⟨bs[n - 1],by omega,List.getElem?_eq_getElem hb1,hbo⟩⟩
   ·have h0:¬ (0:Int)<(n:Int):=h0
    exact go .non none ⟨rfl,.inl ⟨by omega,rfl⟩⟩
  rintro bv bo ⟨hbv,hbo⟩
  have w14:=Int.emod_nonneg (cell / 63) (show (14:Int)≠0 by decide)
  have w14':=Int.emod_lt_of_pos (cell / 63) (show (0:Int)<14 by decide)
  obtain ⟨wn,hwn⟩:∃ wn:Nat,cell / 63 % 14=wn:=⟨(cell / 63 % 14).toNat,by omega⟩
  obtain ⟨zok,zwb,zl⟩:=zvx wn (by omega)
  refine ⟨_,rfl,_,_,rfl,rfl,⟨by decide,by decide⟩,_,_,rfl,rfl,zb7,_,rfl,_,rfl,by decide,?_⟩
  dsimp only
  rw [hwn]
  generalize Txt.slice "mine and more" (some (wn:Int)) none=z at zok zwb zl ⊢
  refine ⟨_,rfl,p,dx,_,rfl,hp1,rfl,_,rfl,_,rfl,sz_3,λ t2 hp2=>?_⟩
  generalize hH2:upd H1 t2 (HO.tup _)=H2;obtain ⟨s2,P2,h2⟩:=nwT hH2 hp2 P1
  have S2:=s1.trans s2
  have W2:=W.same S2
  have hml:ms.length≤i:=by
   have h1:=zne W.d.nd (U:=Um) λ m hm=>G.u m (by rw [← hms];exact λ z=>zxc z hm)
   rw [List.length_map] at h1
   omega
  have hlow:=zuu lin hbo
  have hlne:zth ms bo≠none:=by rw [hlow];exact Option.some_ne_none _
  have bx:inBx (mks ms):=λ m hm=>by
   cases e:look ms m with
   | none=>exact absurd hm (zxc e)
   | some v=>exact (Gm m v e).sm (by omega) L.cl
  have sh:shrt ms:=λ x hx=>by have:=(Gm x.1 x.2 (zhb W.d.nd hx)).pl;omega
  have c0:=L.c0
  have cl:=L.cl
  have hxl:xs.length=st.length:=Paired.length W.e
  have hsl:=L.sl
  have nmk:((1,c+1):Mark)∉mks ms:=λ hm=>by
   cases e:look ms (1,c+1) with
   | none=>exact zxc e hm
   | some v =>
    have:=(Gm _ v e).mb
    dsimp only at this
    omega
  have fnone:f (1,c+1)=none:=by rw [← hms];exact zwh nmk
  refine ⟨_,rfl,_,_,rfl,rfl,Or.inl ⟨by decide,by decide⟩,_,_,rfl,rfl,P2,p,lg,S,U,t2,1,b,c,2 * k+2,B,D,ms,xs,ys,st,(λ m v=>m=(1,c+1)∧∃ low o,zth ms bo=some low∧zdo (zwe ms low []) o∧v=newV (2 * k+2) low o (1,c+1) z),rfl,npl,W2,sh,bx,by omega,.inr (.inl ⟨bo,bv,z,SqT.of h2,hbv.same s2,zok,zwb,hlne,λ low o hl ho=>⟨rfl,low,o,hl,ho,rfl⟩⟩),?_,?_⟩
  ·rintro m v ⟨rfl,low,o,hl,ho,rfl⟩
   refine ⟨zok,?_,.inr (by omega)⟩
   unfold smM
   dsimp only
   omega
  rintro m v ⟨rfl,low,o,hl,ho,rfl⟩ x3 r3 W3 ns zs3 l3 H3 nr3 nW3 _ k3 P3 WW3 lk3 hr3 hd3
  obtain ⟨dx3,hp3⟩:=id WW3.o
  have nSp:S≠p:=zxd W.l.hS hp (by intro z;cases z)
  obtain ⟨dl2,hlg2⟩:=id W2.l.hp
  have mu2:Mu [p,lg,S] H2:=((Mu.nil.lst W2.l.hS).ins hlg2 (lf_v _ _)).ins (S2 _ _ hp) wf_v
  have nl1':l1∉[p,lg,S]:=λ z=>by
   rcases List.mem_cons.mp z with rfl | z
   ·rw [hp] at nl1;cases nl1
   rcases List.mem_cons.mp z with rfl | z
   ·obtain ⟨d0,h0⟩:=id W.l.hp;rw [h0] at nl1;cases nl1
   ·rw [List.mem_singleton.mp z,W.l.hS] at nl1;cases nl1
  have hl3:=k3 _ _ nl1' (s2 _ _ h1)
  have noL1:=zbi ms bs
  have hw3:=zlb k3 mu2.noT _ _ noL1 (DVs.same s2 _ _ hw1)
  refine ⟨_,rfl,_,_,rfl,rfl,sz_2,λ t4 hp4=>?_⟩
  generalize hH4:upd H3 t4 (HO.tup _)=H4;obtain ⟨s4,P4,h4⟩:=nwT hH4 hp4 P3
  refine ⟨_,rfl,sz_2,λ t5 hp5=>?_⟩
  generalize hH5:upd H4 t5 (HO.tup _)=H5;obtain ⟨s5,P5,h5⟩:=nwT hH5 hp5 P4
  refine ⟨_,rfl,_,rfl,_,_,rfl,rfl,sz_2,λ t6 hp6=>?_⟩
  generalize hH6:upd H5 t6 (HO.tup _)=H6;obtain ⟨s6,P6,h6⟩:=nwT hH6 hp6 P5
  refine ⟨sz_1,λ l7 hp7=>?_⟩
  generalize hH7:upd H6 l7 (HO.lst _)=H7;obtain ⟨s7,P7,h7⟩:=nwL hH7 hp7 P6
  have S37:=((s4.trans s5).trans s6).trans s7
  refine ⟨.list [L2.markD (1,c+1)],.list [L2.markD (1,c+1)],⟨r3,zs3,rfl,SqL.of (S37 _ _ hr3),DVs.same S37 _ _ hd3⟩,⟨l7,_,rfl,SqL.of h7,⟨_,_,rfl,zjd (s7.seqT (SqT.of h6)),rfl⟩⟩,rfl,rfl,?_⟩
  rw [show PyData.eqv (.list [L2.markD (1,c+1)]) (.list [L2.markD (1,c+1)])=true from SeqAt.eqvAll_refl _ rfl]
  refine ⟨true,rfl,iteT ?_⟩
  have hp7':=S37 _ _ hp3
  refine ⟨_,rfl,p,dx3,_,rfl,hp7',rfl,P7,p,dx3,x3,lg,1,b,c+1,B,ns,rfl,hp7',WW3.d.same S37,λ H8 l8 cs ws8 nl8 s8 P8 h8 pm8 pw8 hw8=>?_⟩
  have eL:=zuo W.d.nd WW3.d.nd nmk (v:=newV (2 * k+2) low o (1,c+1) z) rfl ho lk3 pm pw pm8 pw8
  rw [zlu W.d.nd pm lin lpw hnl hbo hl ho] at eL
  have okn:=zsj WW3.d.nd WW3.d.ok pm8
  have S38:=S37.trans s8
  have hl8:=S38 _ _ hl3
  refine ⟨_,rfl,_,rfl,_,rfl,l1,ws1,rfl,SqL.of hl8,λ p9 hp9=>?_⟩
  rw [show cutV ws1 none (some (n:Int))=ws1.take n by rw [zfi (by omega),Int.toNat_natCast]]
  generalize hH9:upd H8 p9 (HO.lst _)=H9;obtain ⟨s9,P9,h9⟩:=nwL hH9 hp9 P8
  refine ⟨_,rfl,sz_1,λ p10 hp10=>?_⟩
  generalize hH10:upd H9 p10 (HO.lst _)=Ha;obtain ⟨s10,Pa,h10⟩:=nwL hH10 hp10 P9
  have hbl:bs.length≤63:=by rw [pm.length_eq];exact Nat.le_of_lt_succ (zld W.d.nd W.d.ok W.d.few).few
  refine ⟨p9,p10,_,_,rfl,rfl,s10 _ _ h9,h10,sm1 ((by rw [List.length_take];show min n ws1.length+1≤1000;omega)),λ p11 hp11=>?_⟩
  generalize hH11:upd Ha p11 (HO.lst _)=Hb;obtain ⟨s11,Pb,h11⟩:=nwL hH11 hp11 Pa
  have S811:=(s9.trans s10).trans s11
  refine ⟨_,rfl,_,rfl,_,rfl,l1,ws1,rfl,SqL.of (S811 _ _ hl8),λ p12 hp12=>?_⟩
  rw [show cutV ws1 (some (n:Int)) none=ws1.drop n by rw [zzm (by omega),Int.toNat_natCast]]
  generalize hH12:upd Hb p12 (HO.lst _)=Hc;obtain ⟨s12,Pc,h12⟩:=nwL hH12 hp12 Pb
  refine ⟨p11,p12,_,_,rfl,rfl,s12 _ _ h11,h12,sm1 ((by rw [List.length_append,List.length_take,List.length_drop];show min n ws1.length+1+(ws1.length - n)≤1000;omega)),λ p13 hp13=>?_⟩
  generalize hH13:upd Hc p13 (HO.lst _)=Hd;obtain ⟨s13,Pd,h13⟩:=nwL hH13 hp13 Pc
  have S8d:=(S811.trans s12).trans s13
  have S5d:=(((s6.trans s7).trans s8).trans S8d)
  have S3d:=S38.trans S8d
  have hcat:DVs K Hd (cs.map (lnD ns)) ((ws1.take n++[.ref t5])++ws1.drop n):=by
   rw [eL,List.map_take,List.map_drop]
   have hd0:=DVs.same S3d _ _ hw3
   have hone:DVs K Hd [.tuple [L2.markD (1,c+1),.str z]] [.ref t5]:=⟨_,_,rfl,⟨t5,_,rfl,S5d.seqT (SqT.of h5),_,_,rfl,zjd ((s5.trans S5d).seqT (SqT.of h4)),_,_,rfl,rfl,rfl⟩,rfl⟩
   exact ((hd0.take n).append hone).append (hd0.drop n)
  refine ⟨.list (cs.map (lnD ns)),.list (cs.map (lnD ns)),⟨l8,ws8,rfl,SqL.of (S8d _ _ h8),DVs.same S8d _ _ hw8⟩,⟨p13,_,rfl,SqL.of h13,hcat⟩,zob okn,zob okn,?_⟩
  rw [zol okn]
  have hlowl:low.length≤i+1:=by
   obtain rfl:lowD ms bo=low:=Option.some.inj (hlow.symm.trans hl)
   rcases hbo with ⟨_,rfl⟩ | ⟨m,_,hm,rfl⟩
   ·exact Nat.zero_le _
   ·obtain ⟨v,e1,e2,_⟩:=lin m (List.mem_of_getElem? hm)
    show (vOf ms m).2.1.length≤i+1
    rw [e2]
    exact (Gm m v e1).pl
  refine q _ (λ x=>if (1,c+1)=x then some (newV (2 * k+2) low o (1,c+1) z) else f x) (c+1) _ ⟨⟨lg,S,W3,B,x3,ns,_,[],(1,c+1)::Um,npl,WW3.same S3d,?_,λ x=>by rw [lk3,hms],by rw [List.length_cons];omega,by rw [List.length_append];show st.length+1+0≤i+1;omega,λ _=>rfl,λ a ha=>⟨(hN a ha).1,λ e=>hNs a ha (by rw [e];exact S2.free nW3)⟩⟩,by rw [List.length_append];show st.length+1≤i+1;omega,by omega,by rw [show ((i+1:Nat):Int)=(i:Int)+1 by omega];omega⟩ (by rw [List.length_append];rfl) ((Kp.of S2).trans ((Kp.but k3 mu2 λ a ha ws hw z=>?_).trans (Kp.of S3d))) Pd
  ·rw [zdi]
   refine ⟨_,_,f,by rw [hms],sk.mono λ g hg=>⟨λ m v e=>(hg.v m v e).more,λ m e=>List.mem_cons_of_mem _ (hg.u m e)⟩,⟨λ m v e=>?_,λ m e=>?_⟩,λ x=>rfl⟩
   ·by_cases em:(1,c+1)=m
    ·rw [if_pos em] at e
     cases e
     subst em
     exact ⟨.inl ⟨rfl,by show 1≤c+1;omega,Int.le_refl _⟩,zok,zwb,by show z.length≤_;omega,by show (low++[_]).length≤_;rw [List.length_append,List.length_singleton];omega,λ _=>⟨low,_,rfl⟩⟩
    ·rw [if_neg em] at e
     exact (G.v m v e).more
   ·by_cases em:(1,c+1)=m
    ·rw [← em];exact List.mem_cons_self
    ·rw [if_neg em] at e
     exact List.mem_cons_of_mem _ (G.u m e)
  ·rcases List.mem_cons.mp z with rfl | z
   ·rw [S2 _ _ hp] at hw;cases hw
   rcases List.mem_cons.mp z with rfl | z
   ·rw [hlg2] at hw;cases hw
   ·exact (hN a ha).1 (List.mem_singleton.mp z)
theorem sc_q23:FnScope ["_law_window", "_law_k", "_law_cell", "_law_lines", "_law_at", "_law_mark", "_law_words", "_law_told"] ["_law_window", "_law_k", "_law_cell"] (zea zw3):=by walk_at "sc"
theorem zi4 (T:Txt w K mg A) (G_q18:zck P w K mg B A) (G_q11:znm P w K mg B A) (G_q20:zwr P w K mg B A):zzx P w K mg B A:=by
 have B_q18:=T.b_q18
 have B_q11:=T.b_q11
 have B_q20:=T.b_q20
 refine T.F_q23.okN sc_q23 (λ vs H Q E h=>?_) (λ _ _ _ _ H vs Q E hr h=>?_)
 ·obtain ⟨_,p,N,i,b,c,z,st,f0,f,k,cell,rfl,_⟩:=h
  rfl
 ·obtain ⟨hP,p,N,i,b,c,z,st,f0,f,k,cell,rfl,L,i62,hNs,hne,q⟩:=h
  refine ⟨_,(zba (zra (i:=3) sc_q23.nd rfl (Or.inl rfl) (zja (pv 0) T.cl_Window T.m_q11 G_q11 (hr.mono (by decide)) B_q11 .nil zva))
   (zba (zra (i:=4) sc_q23.nd rfl (Or.inl rfl) (zta zmc (zta zic (pv 2) zia) (zkb zeb rfl T.n_len (by decide +kernel) (zaa (pv 3) zda))))
   (zba (zum (zkd zzl (pv 3) (pv 4) (λ _ _=>rfl)) (zbd rfl (zka (zma (i:=5) sc_q23.nd rfl (Or.inl rfl)) (zka (zma (i:=6) sc_q23.nd rfl (Or.inl rfl)) zub))))
   (zba (zce (zqa zko (zta zmc (pv 2) zia) zia (zsa _)) (zba (zra (i:=7) sc_q23.nd rfl (Or.inl rfl) (zza (pv 0) T.cl_Window T.m_q20 G_q20 (hr.mono (by decide)) B_q20 .nil zva (zaa (zya (zaa zbb (zaa (pv 5) zda))) (zaa (zta zxb (zta zgd zia (pv 1)) zia) zda))))
   (zfa (zra (i:=3) sc_q23.nd rfl (Or.inl rfl) (zta zoo (zac zgh (pv 3) zpc (zsc (pv 4))) (zac zgh (pv 3) (zsc (zta zxb (pv 4) zia)) zpc))))) (zba (zra (i:=7) sc_q23.nd rfl (Or.inl rfl) (zza (pv 0) T.cl_Window T.m_q20 G_q20 (hr.mono (by decide)) B_q20 .nil zva (zaa (zya (zaa zbb (zaa (pv 5) (zaa (zta zig (pv 6) zbb) zda)))) (zaa (zta zxb (zta zgd zia (pv 1)) zia) zda))))
   (zfa (zum (zya (zaa (pv 5) (zaa (zta zig (pv 6) zbb) zda))) (zh2 (pv 3) (pv 4) zos)))))
   (zfa (zla (zme (zmb (zoi hr.units) (pv 7) (zbc (zaa (pv 5) zda)) (zsa _)) (zxe (zmb (zoi hr.units) (zja (pv 0) T.cl_Window T.m_q11 G_q11 (hr.mono (by decide)) B_q11 .nil zva) (pv 3) (zsa _)))))))))),?_⟩
  obtain ⟨lg,S,U,B,D,ms,xs,ys,Um,npl,W,sk,hms,hUm,hyl,hzy,hN⟩:=id L.ex
  obtain ⟨dx,hp⟩:=id W.o
  have G:=sk.top
  have Gm:∀ m v,look ms m=some v→FV i c m v:=λ m v e=>G.v m v ((hms m).symm.trans e)
  refine ⟨_,rfl,p,dx,_,rfl,hp,rfl,hP,p,dx,D,lg,1,b,c,B,ms,rfl,hp,W.d,λ H1 l1 bs ws1 nl1 s1 P1 h1 pm pw hw1=>?_⟩
  have hp1:=s1 _ _ hp
  have hwl:ws1.length=bs.length:=by rw [hw1.length,List.length_map]
  obtain ⟨lin,lpw⟩:=zrn W.d.nd Gm pm pw
  have hpos:0<ws1.length:=by
   obtain ⟨m,v,e1,e2⟩:=hne
   have:m∈bs:=pm.mem_iff.mpr ((zkc W.d.nd m).mpr ⟨v,(hms m).trans e1,by unfold zjg;rw [decide_eq_false e2];rfl⟩)
   rw [hwl]
   exact List.length_pos_of_mem this
  refine ⟨_,rfl,_,_,rfl,rfl,⟨by decide,by decide⟩,_,rfl,l1,ws1,rfl,.inl (SqL.of h1),_,_,rfl,rfl,(by show (0:Int)<(ws1.length:Int);omega),?_⟩
  dsimp only
  obtain ⟨n,hn⟩:∃ n:Nat,cell / 2 % (ws1.length:Int)=n:=⟨(cell / 2 % (ws1.length:Int)).toNat,by have:=Int.emod_nonneg (cell / 2) (show (ws1.length:Int)≠0 by omega);omega⟩
  have hnl:n<bs.length:=by have:=Int.emod_lt_of_pos (cell / 2) (show (0:Int)<(ws1.length:Int) by omega);omega
  rw [hn]
  obtain ⟨y,hy,hyd⟩:=hw1.get (i:=n) (d:=lnD ms bs[n]) (by rw [List.getElem?_map,List.getElem?_eq_getElem hnl];rfl)
  obtain ⟨t,tv,rfl,ht,y0,yr,rfl,hy0,y1,yr1,rfl,hy1,hnil⟩:=hyd
  cases (show yr1=[] from hnil)
  obtain ⟨q0,rfl,hq0⟩:=zte hy0
  obtain ⟨v0,e1,e2,e3⟩:=lin bs[n] (List.getElem_mem hnl)
  have F0:=Gm _ v0 e1
  have hy1:y1 = .str v0.2.2:=by rw [← e2];exact hy1
  subst hy1
  refine ⟨_,rfl,_,rfl,l1,ws1,_,.ref t,rfl,rfl,SqL.of h1,zvi hy,t,_,rfl,ht,rfl,_,_,rfl,_,_,rfl,rfl,?_⟩
  have hml:ms.length≤i:=by
   have h1:=zne W.d.nd (U:=Um) λ m hm=>G.u m (by rw [← hms];exact λ z=>zxc z hm)
   rw [List.length_map] at h1
   omega
  have bx:inBx (mks ms):=λ m hm=>by
   cases e:look ms m with
   | none=>exact absurd hm (zxc e)
   | some v=>exact (Gm m v e).sm (by omega) L.cl
  have sh:shrt ms:=λ x hx=>by have:=(Gm x.1 x.2 (zhb W.d.nd hx)).pl;omega
  have c0:=L.c0
  have cl:=L.cl
  have hxl:xs.length=st.length:=Paired.length W.e
  have hsl:=L.sl
  have hB:hasB ms bs[n]=true:=by
   unfold hasB
   rw [e1]
   show (!decide (v0.2.1=[]))=true
   rw [decide_eq_false e3]
   rfl
  have smB:=F0.sm (by omega) L.cl
  have hbm:bs[n]∈mks ms:=zom (pm.mem_iff.mp (List.getElem_mem hnl))
  have W1:=W.same s1
  obtain ⟨dl1,hlg1⟩:=id W1.l.hp
  have muS:∀ H2,Same H1 H2→Mu [p,lg,S] H2:=λ H2 s2=>((Mu.nil.lst (s2 _ _ W1.l.hS)).ins (s2 _ _ hlg1) (lf_v _ _)).ins (s2 _ _ hp1) wf_v
  have oke:okV ((2 * k+2,[], ""):Ver):=by show PyData.strOk "" = true;decide +kernel
  have nl1':l1∉[p,lg,S]:=λ z=>by
   rcases List.mem_cons.mp z with rfl | z
   ·rw [hp] at nl1;cases nl1
   rcases List.mem_cons.mp z with rfl | z
   ·obtain ⟨d0,h0⟩:=id W.l.hp;rw [h0] at nl1;cases nl1
   ·rw [List.mem_singleton.mp z,W.l.hS] at nl1;cases nl1
  have noL1:=zbi ms bs
  have hbl:bs.length≤63:=by rw [pm.length_eq];exact Nat.le_of_lt_succ (zld W.d.nd W.d.ok W.d.few).few
  have kpN:∀ H2,Same H1 H2→∀ H3,But [p,lg,S] H2 H3→Kp K N H1 H3:=λ H2 s2 H3 k3=>(Kp.of s2).trans (Kp.but k3 (muS _ s2) λ a ha ws hw z=>by
   rcases List.mem_cons.mp z with rfl | z
   ·rw [s2 _ _ hp1] at hw;cases hw
   rcases List.mem_cons.mp z with rfl | z
   ·rw [s2 _ _ hlg1] at hw;cases hw
   ·exact (hN a ha).1 (List.mem_singleton.mp z))
  apply zc9 (α:=V) (β:=V) (γ:=Hp) (ok:=λ y t H3=>∃ (v:Ver) (x3 W3 r l3 ln:Addr) (ns:Sh) (zs3 wsn:List V),y = .ref ln∧t = .ref r∧H1 W3=none∧Kp K N H1 H3∧Plain H3∧WinK P w K A H3 p lg S W3 1 b B x3 ns (c+1) (xs++[.ref l3]) [] (st++[[(bs[n],look ms bs[n],some v)]])∧(∀ k,look ns k=if bs[n]=k then some v else look ms k)∧H3 r=some (.lst zs3)∧DVs K H3 [L2.markD bs[n]] zs3∧H3 ln=some (.lst wsn)∧(∀ cs:List Mark,cs.Perm (zhd ns)→(cs.Pairwise λ a b=>lnLt ns a b=true)→DVs K H3 (cs.map (lnD ns)) wsn)∧FV (i+1) (c+1) bs[n] v)
  ·intro go
   refine ⟨_,rfl,_,_,rfl,rfl,ip_2,rfl,_,rfl,zqn (λ h0=>?_) (λ h0=>?_)⟩
   ·refine ⟨_,rfl,p,dx,_,rfl,hp1,rfl,_,rfl,sz_2,λ t2 hp2=>?_⟩
    generalize hH2:upd H1 t2 (HO.tup _)=H2;obtain ⟨s2,P2,h2⟩:=nwT hH2 hp2 P1
    have W2:=W1.same s2
    refine ⟨_,rfl,_,_,rfl,rfl,Or.inl ⟨by decide,by decide⟩,_,_,rfl,rfl,P2,p,lg,S,U,t2,1,b,c,2 * k+2,B,D,ms,xs,ys,st,(λ (m:Mark) (v:Ver)=>m=bs[n]∧v=((2 * k+2,[], ""):Ver)),rfl,npl,W2,sh,bx,by omega,.inl ⟨q0,bs[n],SqT.of h2,s2.seqT hq0,hB,rfl,rfl⟩,?_,?_⟩
    ·rintro m v ⟨rfl,rfl⟩
     exact ⟨oke,smB,.inl hbm⟩
    rintro m v ⟨rfl,rfl⟩ x3 r3 W3 ns zs3 l3 H3 nr3 nW3 nl3 k3 P3 WW3 lk3 hr3 hd3
    have hl3:=k3 _ _ nl1' (s2 _ _ h1)
    have hw3:=zlb k3 (muS _ s2).noT _ _ noL1 (DVs.same s2 _ _ hw1)
    refine ⟨_,rfl,_,rfl,_,rfl,l1,ws1,rfl,SqL.of hl3,λ p9 hp9=>?_⟩
    rw [show cutV ws1 none (some (n:Int))=ws1.take n by rw [zfi (by omega),Int.toNat_natCast]]
    generalize hH9:upd H3 p9 (HO.lst _)=H9;obtain ⟨s9,P9,h9⟩:=nwL hH9 hp9 P3
    refine ⟨_,rfl,_,rfl,_,_,rfl,rfl,_,rfl,l1,ws1,rfl,SqL.of (s9 _ _ hl3),λ p12 hp12=>?_⟩
    rw [show cutV ws1 (some ((n:Int)+1)) none=ws1.drop (n+1) by rw [zzm (by omega)];rfl]
    generalize hH12:upd H9 p12 (HO.lst _)=Hc;obtain ⟨s12,Pc,h12⟩:=nwL hH12 hp12 P9
    refine ⟨p9,p12,_,_,rfl,rfl,s12 _ _ h9,h12,sm1 ((by rw [List.length_take,List.length_drop];show min n ws1.length+(ws1.length - (n+1))≤1000;omega)),λ p13 hp13=>?_⟩
    generalize hH13:upd Hc p13 (HO.lst _)=Hd;obtain ⟨s13,Pd,h13⟩:=nwL hH13 hp13 Pc
    have S3d:=(s9.trans s12).trans s13
    generalize hy3:V.ref p13=y3
    generalize hr4:V.ref r3=y4
    refine go y3 y4 Hd ⟨_,x3,W3,r3,l3,p13,ns,zs3,_,hy3.symm,hr4.symm,s2.free nW3,(kpN _ s2 _ k3).trans (Kp.of S3d),Pd,WW3.same S3d,lk3,S3d _ _ hr3,DVs.same S3d _ _ hd3,h13,λ cs pc pwc=>?_,?_⟩
    ·rw [zxm W.d.nd WW3.d.nd hnl lk3 pm pw pc pwc,List.map_take,List.map_drop]
     have hd0:=DVs.same S3d _ _ hw3
     exact (hd0.take n).append (hd0.drop (n+1))
    ·exact ⟨F0.more.mb,oke,(by show zpb "" = true;decide +kernel),Nat.zero_le _,Nat.zero_le _,λ z=>absurd rfl z⟩
   ·obtain ⟨xok,xwb,xl⟩:=addx F0.ok F0.wb F0.wl
    have szx:v0.2.2.length+("x" : Str).length≤sizeLine:=sm1 ((by show v0.2.2.length+1≤1000;have:=F0.wl;omega))
    refine ⟨_,rfl,p,dx,_,rfl,hp1,rfl,_,rfl,_,rfl,_,_,rfl,rfl,szx,sz_3,λ t2 hp2=>?_⟩
    generalize hzx:v0.2.2++Str.ofString "x" = zx at xok xwb xl ⊢
    generalize hH2:upd H1 t2 (HO.tup _)=H2;obtain ⟨s2,P2,h2⟩:=nwT hH2 hp2 P1
    have W2:=W1.same s2
    refine ⟨_,rfl,_,_,rfl,rfl,Or.inl ⟨by decide,by decide⟩,_,_,rfl,rfl,P2,p,lg,S,U,t2,1,b,c,2 * k+2,B,D,ms,xs,ys,st,(λ (m:Mark) (v:Ver)=>m=bs[n]∧v=((2 * k+2,(vOf ms bs[n]).2.1,zx):Ver)),rfl,npl,W2,sh,bx,by omega,.inr (.inr ⟨q0,bs[n],zx,SqT.of h2,s2.seqT hq0,xok,xwb,hB,rfl,rfl⟩),?_,?_⟩
    ·rintro m v ⟨rfl,rfl⟩
     exact ⟨xok,smB,.inl hbm⟩
    rintro m v ⟨rfl,rfl⟩ x3 r3 W3 ns zs3 l3 H3 nr3 nW3 nl3 k3 P3 WW3 lk3 hr3 hd3
    have hl3:=k3 _ _ nl1' (s2 _ _ h1)
    have hw3:=zlb k3 (muS _ s2).noT _ _ noL1 (DVs.same s2 _ _ hw1)
    have n13:l1≠l3:=λ z=>by rw [← z,s2 _ _ h1] at nl3;cases nl3
    have n1W:l1≠W3:=λ z=>by rw [← z,s2 _ _ h1] at nW3;cases nW3
    have n1r:r3≠l1:=λ z=>by rw [z,s2 _ _ h1] at nr3;cases nr3
    refine ⟨_,rfl,_,rfl,_,_,rfl,rfl,szx,sz_2,λ t4 hp4=>?_⟩
    generalize hH4:upd H3 t4 (HO.tup _)=H4;obtain ⟨s4,P4,h4⟩:=nwT hH4 hp4 P3
    have hl4:=s4 _ _ hl3
    have ixn:ixN ws1.length (n:Int)=some n:=by
     unfold ixN
     rw [if_pos (by omega),if_pos (by omega)]
     rfl
    refine ⟨_,rfl,_,rfl,l1,ws1,_,n,rfl,rfl,hl4,ixn,?_⟩
    have WW5:=(WW3.same s4).put (ws':=ws1.set n (.ref t4)) hl4 (λ z=>by rw [z,W.l.hS] at nl1;cases nl1) n1W (λ v hv=>(List.mem_append.mp hv).elim (EnL.ne nl1 W.e v) λ hv=>by rw [List.mem_singleton.mp hv];exact λ z=>n13 (by cases z;rfl))
    have P5:Plain (L2.upd H4 l1 (.lst (ws1.set n (.ref t4)))):=P4.lst
    have k5:But [l1] H4 (L2.upd H4 l1 (.lst (ws1.set n (.ref t4)))):=But.put (by simp)
    have h5:L2.upd H4 l1 (.lst (ws1.set n (.ref t4))) l1=some (.lst (ws1.set n (.ref t4))):=upd_same
    generalize L2.upd H4 l1 (.lst (ws1.set n (.ref t4)))=H5 at WW5 P5 k5 h5 ⊢
    have mu5:Mu [l1] H4:=Mu.nil.lst hl4
    refine go (.ref l1) (.ref r3) H5 ⟨_,x3,W3,r3,l3,l1,ns,zs3,_,rfl,rfl,s2.free nW3,((kpN _ s2 _ k3).trans (Kp.of s4)).trans (Kp.but k5 mu5 λ a ha ws hw z=>hNs a ha (by rw [List.mem_singleton.mp z];exact nl1)),P5,WW5,lk3,k5 _ _ (λ z=>n1r (List.mem_singleton.mp z)) (s4 _ _ hr3),zlb k5 mu5.noT _ _ rfl (DVs.same s4 _ _ hd3),h5,λ cs pc pwc=>?_,?_⟩
    ·rw [zmk W.d.nd WW3.d.nd hnl lk3 pm pw pc pwc,List.map_take,List.map_drop,List.set_eq_take_append_cons_drop,if_pos (by omega),List.append_cons (ws1.take n) (V.ref t4) (ws1.drop (n+1))]
     have hd0:=zlb k5 mu5.noT _ _ noL1 (DVs.same s4 _ _ hw3)
     have hone:DVs K H5 [.tuple [L2.markD bs[n],.str zx]] [.ref t4]:=⟨_,_,rfl,⟨t4,_,rfl,zoe k5 mu5.noT (SqT.of h4),_,_,rfl,zjd (zoe k5 mu5.noT (s4.seqT (zoe k3 (muS _ s2).noT (s2.seqT hq0)))),_,_,rfl,by rw [hzx];exact rfl,rfl⟩,rfl⟩
     exact ((hd0.take n).append hone).append (hd0.drop (n+1))
    ·exact ⟨F0.more.mb,xok,xwb,by show zx.length≤_;omega,by show (vOf ms bs[n]).2.1.length≤_;rw [e2];exact F0.more.pl,by show (vOf ms bs[n]).2.1≠[]→_;rw [e2];exact F0.ps⟩
  rintro y3 y4 H3 ⟨v,x3,W3,r,l3,ln,ns,zs3,wsn,rfl,rfl,nW3,kp3,P3,WW3,lk3,hr3,hd3,hln,hcs,FVn⟩
  obtain ⟨dx3,hp3⟩:=id WW3.o
  refine ⟨_,rfl,_,rfl,sz_1,λ l7 hp7=>?_⟩
  generalize hH7:upd H3 l7 (HO.lst _)=H7;obtain ⟨s7,P7,h7⟩:=nwL hH7 hp7 P3
  refine ⟨.list [L2.markD bs[n]],.list [L2.markD bs[n]],⟨r,zs3,rfl,SqL.of (s7 _ _ hr3),DVs.same s7 _ _ hd3⟩,⟨l7,_,rfl,SqL.of h7,⟨_,_,rfl,zjd (s7.seqT (kp3.t _ _ hq0)),rfl⟩⟩,rfl,rfl,?_⟩
  rw [show PyData.eqv (.list [L2.markD bs[n]]) (.list [L2.markD bs[n]])=true from SeqAt.eqvAll_refl _ rfl]
  refine ⟨true,rfl,iteT ?_⟩
  have hp7':=s7 _ _ hp3
  refine ⟨_,rfl,p,dx3,_,rfl,hp7',rfl,P7,p,dx3,x3,lg,1,b,c+1,B,ns,rfl,hp7',WW3.d.same s7,λ H8 l8 cs ws8 nl8 s8 P8 h8 pm8 pw8 hw8=>?_⟩
  have okn:=zsj WW3.d.nd WW3.d.ok pm8
  have S38:=s7.trans s8
  refine ⟨_,rfl,.list (cs.map (lnD ns)),.list (cs.map (lnD ns)),⟨l8,ws8,rfl,SqL.of h8,hw8⟩,⟨ln,wsn,rfl,SqL.of (S38 _ _ hln),DVs.same S38 _ _ (hcs cs pm8 pw8)⟩,zob okn,zob okn,?_⟩
  rw [zol okn]
  refine q _ (λ x=>if bs[n]=x then some v else f x) (c+1) _ ⟨⟨lg,S,W3,B,x3,ns,_,[],Um,npl,WW3.same S38,?_,λ x=>by rw [lk3,hms],by omega,by rw [List.length_append];show st.length+1+0≤i+1;omega,λ _=>rfl,λ a ha=>⟨(hN a ha).1,λ e=>hNs a ha (by rw [e];exact s1.free nW3)⟩⟩,by rw [List.length_append];show st.length+1≤i+1;omega,by omega,by rw [show ((i+1:Nat):Int)=(i:Int)+1 by omega];omega⟩ (by rw [List.length_append];rfl) ((Kp.of s1).trans (kp3.trans (Kp.of S38))) P8
  rw [zdi]
  refine ⟨_,_,f,by rw [hms],sk.mono λ g hg=>⟨λ m v e=>(hg.v m v e).more,hg.u⟩,⟨λ m v' e=>?_,λ m e=>?_⟩,λ x=>rfl⟩
  ·by_cases em:bs[n]=m
   ·rw [if_pos em] at e
    cases e
    rw [← em]
    exact FVn
   ·rw [if_neg em] at e
    exact (G.v m v' e).more
  ·by_cases em:bs[n]=m
   ·rw [← em]
    exact G.u _ (by rw [← hms,e1];exact Option.some_ne_none _)
   ·rw [if_neg em] at e
    exact G.u m e
theorem sc_q34:FnScope ["_law_window", "_law_kept", "_law_refused_here"] ["_law_window", "_law_kept"] (zea zl3):=by walk_at "sc"
theorem ze5 (T:Txt w K mg A) (G_q19:zop P w K mg B A):znx P w K mg B A:=by
 have B_q19:=T.b_q19
 refine T.F_q34.okN sc_q34 (λ vs H Q E h=>?_) (λ _ _ _ _ H vs Q E hr h=>?_)
 ·obtain ⟨_,p,kd,N,i,b,c,z,st,f0,f,pw,rfl,_⟩:=h
  rfl
 ·obtain ⟨hP,p,kd,N,i,b,c,z,st,f0,f,pw,rfl,L,i62,hk,q⟩:=h
  refine ⟨_,(zba (zra (i:=2) sc_q34.nd rfl (Or.inl rfl) (zpa G_q19 (hr.mono (by decide)) rfl T.g_q19 T.k_q19 B_q19 .nil zva (zaa (pv 0) (zaa zti zda))))
   (zba (zce (zji (pv 2)) (zfa (zla (zmb zko (zkd zru (pv 1) zbb (λ _ _=>rfl)) zia (zsa _)))) zxa)
   (zba (toS (zog (pv 1) zbb (zta zfo (zkd zru (pv 1) zbb (λ _ _=>rfl)) zia) rfl) (show _=zqu P w _ _ _ from rfl))
   (zfa (zla (zmb zt7 (zkd zru (pv 1) zbb (λ _ _=>rfl)) zia (zsa _))))))),?_⟩
  refine ⟨_,rfl,hP,p,N,i,b,c,z,true,st,f0,f,rfl,L,by omega,(λ z=>by cases z),λ he H1 s1 P1=>?_,λ _ st2 e he f2 H1 L1 k1 P1=>?_⟩
  ·have e0:st=[]:=he.resolve_left (by intro z;cases z)
   subst e0
   refine ⟨_,rfl,true,rfl,iteT ⟨_,rfl,_,kd,_,_,rfl,rfl,s1 _ _ hk,kv_s _ _,rfl,?_⟩⟩
   rw [show decide (V.int (([]:List (List Chg)).length:Int)=V.int 0)=true from decide_eq_true rfl]
   exact q z [] f H1 (L.same s1) (s1 _ _ hk) (Kp.of s1).q P1
  ·have hk1:=k1.e _ _ hk
   refine ⟨_,rfl,false,rfl,iteF ?_⟩
   refine ⟨_,rfl,_,kd,_,_,rfl,rfl,hk1,kv_s _ _,_,_,rfl,rfl,_,rfl,kd,_,_,rfl,hk1,rfl,zy0 _ _,by show 2≤100;decide,λ nd=>?_⟩
   have el:(st.length:Int) - 1=(st2.length:Int):=by rw [he,List.length_append];show ((st2.length+1:Nat):Int) - 1=_;omega
   rw [zp4,el]
   have L2':=L1.td (φ':=tdOk P w kd (kvK (st2.length:Int) pw)) hk1 nd
   have kq:Kq K N H (L2.upd H1 kd (tdO P w kd (kvK (st2.length:Int) pw))):=k1.q.trans (Kq.td hk1)
   have P2:Plain (L2.upd H1 kd (tdO P w kd (kvK (st2.length:Int) pw))):=Plain.ext P1
   have h2:L2.upd H1 kd (tdO P w kd (kvK (st2.length:Int) pw)) kd=some (tdO P w kd (kvK (st2.length:Int) pw)):=upd_same
   refine ⟨_,rfl,_,kd,_,_,rfl,rfl,h2,kv_s _ _,_,_,rfl,rfl,?_⟩
   dsimp only
   rw [show decide ((0:Int)≤(st2.length:Int))=true from decide_eq_true (by omega)]
   exact q false st2 f2 _ L2' h2 kq P2
theorem sc_q38:FnScope ["_law_window", "_law_kept", "_law_k", "_law_cell", "_law_way", "_law_base", "_law_right"] ["_law_window", "_law_kept", "_law_k", "_law_cell"] (zea zs4):=by walk_at "sc"
theorem zz5 (T:Txt w K mg A) (G_q13:zfp P w K mg B A) (G_q18:zck P w K mg B A) (G_q24:zts P w K mg B A) (G_q12:zdp P w K mg B A) (G_q11:znm P w K mg B A) (G_q29:zbx P w K mg B A) (G_q42:zbv P w K mg B A) (G_q23:zzx P w K mg B A) (G_q34:znx P w K mg B A):zex P w K mg B A:=by
 have B_q13:=T.b_q13
 have B_q18:=T.b_q18
 have B_q24:=T.b_q24
 have B_q12:=T.b_q12
 have B_q11:=T.b_q11
 have B_q29:=T.b_q29
 have B_q42:=T.b_q42
 have B_q23:=T.b_q23
 have B_q34:=T.b_q34
 refine T.F_q38.okN sc_q38 (λ vs H Q E h=>?_) (λ _ _ _ _ H vs Q E hr h=>?_)
 ·obtain ⟨_,p,kd,sl,i,b,c,z,st,f0,f,pl,ws,bs,cell,rfl,_⟩:=h
  rfl
 ·obtain ⟨hP,p,kd,sl,i,b,c,z,st,f0,f,pl,ws,bs,cell,rfl,L,i62,hsl,hk,hpl,hws,sb,okb,hlk,q⟩:=h
  refine ⟨_,(zba (zra (i:=4) sc_q38.nd rfl (Or.inl rfl) (zta zmc (pv 3) zia))
   (zba (zra (i:=5) sc_q38.nd rfl (Or.inl rfl) (zja (pv 0) T.cl_Window T.m_q24 G_q24 (hr.mono (by decide)) B_q24 .nil zva))
   (zba (zce (zqa zko (pv 4) zia (zsa _)) (zba (toS (zog (pv 1) zbb zia rfl) (show _=zqu P w _ _ _ from rfl))
   (zba (toS (zog (pv 1) zbb zxg rfl) (show _=zqu P w _ _ _ from rfl))
   (zba (zra (i:=6) sc_q38.nd rfl (Or.inl rfl) (zpa G_q29 (hr.mono (by decide)) rfl T.g_q29 T.k_q29 B_q29 .nil zva (zaa (pv 0) (zaa (pv 2) (zaa (zta zic (pv 3) zia) zda)))))
   (zba (toS (zog (pv 1) zbb (zja (zja (pv 0) T.cl_Window T.m_q12 G_q12 (hr.mono (by decide)) B_q12 .nil zva) T.cl_Sheet T.m_q13 G_q13 (hr.mono (by decide)) B_q13 .nil zva) rfl) (show _=zqu P w _ _ _ from rfl))
   (zfa (zla (pv 6))))))) zxa)
   (zba (zce (zqa zko (pv 4) zia (zsa _)) (zfa (zla (zme (zpa G_q34 (hr.mono (by decide)) rfl T.g_q34 T.k_q34 B_q34 .nil zva (zaa (pv 0) (zaa (pv 1) zda))) (zxe (zmb zko (zja (pv 0) T.cl_Window T.m_q24 G_q24 (hr.mono (by decide)) B_q24 .nil zva) (pv 5) (zsa _)))))) zxa)
   (zba (toS (zog (pv 1) zbb (zta zxb (zkd zru (pv 1) zbb (λ _ _=>rfl)) zia) rfl) (show _=zqu P w _ _ _ from rfl))
   (zba (zce (PW.pt (zgs (zqa zko (pv 4) zia (zsa _)) (zsn (zqa (zgk hr.units) (zja (pv 0) T.cl_Window T.m_q11 G_q11 (hr.mono (by decide)) B_q11 .nil zva) (zbc zda) (zsa _))))) (zfa (zla (zme (zpa G_q23 (hr.mono (by decide)) rfl T.g_q23 T.k_q23 B_q23 .nil zva (zaa (pv 0) (zaa (pv 2) (zaa (zta zic (pv 3) zia) zda)))) (zxe (zmb zko (zja (pv 0) T.cl_Window T.m_q24 G_q24 (hr.mono (by decide)) B_q24 .nil zva) (pv 5) (zsa _)))))) zxa)
   (zfa (zla (zme (zpa G_q42 (hr.mono (by decide)) rfl T.g_q42 T.k_q42 B_q42 .nil zva (zaa (pv 0) (zaa (pv 2) (zaa (zta zic (pv 3) zia) zda)))) (zxe (zmb zko (zja (pv 0) T.cl_Window T.m_q24 G_q24 (hr.mono (by decide)) B_q24 .nil zva) (pv 5) (zsa _)))))))))))),?_⟩
  obtain ⟨lg,S,U,B,D,ms,xs,ys,Um,npl,W,sk,hms,hUm,hyl,hzy,hN⟩:=id L.ex
  obtain ⟨dx,hp⟩:=id W.o
  obtain ⟨cs,hcs⟩:=hsl
  have nsl:∀ H',Kq K [sl,pl] H H'→∀ a∈[sl,pl],H' a≠none:=λ H' k a ha=>by
   rcases List.mem_cons.mp ha with e | ha
   ·rw [e,k.n sl (by simp) _ hcs];exact Option.some_ne_none _
   ·rw [List.mem_singleton.mp ha,k.n pl (by simp) _ hpl];exact Option.some_ne_none _
  refine ⟨_,rfl,_,_,rfl,rfl,ip_6,_,rfl,p,dx,_,rfl,hp,rfl,p,dx,D,lg,1,b,c,B,rfl,hp,?_⟩
  dsimp only
  generalize cell % 6=way
  refine ⟨_,rfl,rfl,_,rfl,zqn (λ h5=>?_) (λ h5=>?_)⟩
  ·refine ⟨_,rfl,kd,_,_,rfl,hk,rfl,zy0 _ _,by show 2≤100;decide,λ nd=>?_⟩
   rw [zp4]
   have La:LSt P w K A [sl,pl] (L2.upd H kd (tdO P w kd (kvK 0 (.ref pl)))) p i b c z st f0 f:=L.td hk nd
   have ka:Kq K [sl,pl] H (L2.upd H kd (tdO P w kd (kvK 0 (.ref pl)))):=Kq.td hk
   have Pa:Plain (L2.upd H kd (tdO P w kd (kvK 0 (.ref pl)))):=Plain.ext hP
   have ha:L2.upd H kd (tdO P w kd (kvK 0 (.ref pl))) kd=some (tdO P w kd (kvK 0 (.ref pl))):=upd_same
   generalize L2.upd H kd (tdO P w kd (kvK 0 (.ref pl)))=Ha at La ka Pa ha ⊢
   refine ⟨_,rfl,kd,_,_,rfl,ha,rfl,zq6 _ _,by show 2≤100;decide,λ nd2=>?_⟩
   rw [zw6]
   have Lb:LSt P w K A [sl,pl] (L2.upd Ha kd (tdO P w kd (kvK 0 .non))) p i b c z st f0 f:=La.td ha nd2
   have kb:Kq K [sl,pl] H (L2.upd Ha kd (tdO P w kd (kvK 0 .non))):=ka.trans (Kq.td ha)
   have Pb:Plain (L2.upd Ha kd (tdO P w kd (kvK 0 .non))):=Plain.ext Pa
   have hb:L2.upd Ha kd (tdO P w kd (kvK 0 .non)) kd=some (tdO P w kd (kvK 0 .non)):=upd_same
   generalize L2.upd Ha kd (tdO P w kd (kvK 0 .non))=Hb at Lb kb Pb hb ⊢
   refine ⟨_,rfl,_,rfl,_,rfl,_,_,rfl,rfl,⟨by decide,by decide⟩,Pb,p,[sl,pl],i,b,c,z,st,f0,f,cell / 6,rfl,Lb,i62,nsl _ kb,λ f' Hc Lc kc Pc=>?_⟩
   obtain ⟨lgc,Sc,Uc,Bc,Dc,mc,xc,yc,Uq,nplc,Wc,skc,hmc,_⟩:=id Lc.ex
   obtain ⟨dxc,hpc⟩:=id Wc.o
   obtain ⟨dxs,_,_,_,hDc,_⟩:=id Wc.d.ex
   have hkc:=kc.e _ _ hb
   refine ⟨_,rfl,p,dxc,_,rfl,hpc,rfl,p,dxc,Dc,lgc,1,_,c,Bc,rfl,hpc,Dc,dxs,_,rfl,hDc,rfl,Pc,Dc,mc,rfl,Wc.d,λ Hd ld bd wd nld sd Pd hld pbd sbd hwd=>?_⟩
   have hkd:=sd _ _ hkc
   refine ⟨_,rfl,kd,_,_,rfl,hkd,rfl,zq6 _ _,by show 2≤100;decide,λ nd3=>?_⟩
   rw [zw6]
   have Ld:LSt P w K A [sl,ld] Hd p (i+1) ((i:Int)+1) c true [] f' f':=Lc.newN sd λ x hx=>by
    rcases List.mem_cons.mp hx with e | hx
    ·exact .inl (by rw [e];simp)
    ·exact .inr (by rw [List.mem_singleton.mp hx];exact nld)
   have kd1:Kq K [sl] H (L2.upd Hd kd (tdO P w kd (kvK 0 (.ref ld)))):=⟨λ a ha xs e=>((Kp.of (K:=K) (N:=[sl,pl]) sd).q.trans (Kq.td hkd)).n a (by rw [List.mem_singleton.mp ha];simp) _ ((kb.trans kc.q).n a (by rw [List.mem_singleton.mp ha];simp) _ e),λ a xs e=>((kb.trans kc.q).trans ((Kp.of (K:=K) (N:=[sl,pl]) sd).q.trans (Kq.td hkd))).t a xs e⟩
   refine ⟨_,rfl,q ((i:Int)+1) c true [] f' f' ld wd bd _ (Ld.td hkd nd3) upd_same ?_ (zo4 hkd hwd) sbd (λ m hm=>Wc.d.ok m (pbd.mem_iff.mp hm)) (λ k=>by rw [zap pbd Wc.d.nd,hmc]) kd1 (Plain.ext Pd)⟩
   show L2.upd Hd kd _ ld=_
   rw [zha (zxd hld hkd (by intro z;cases z))]
   exact hld
  refine ⟨_,rfl,rfl,_,rfl,zqn (λ h4=>?_) (λ h4=>?_)⟩
  ·refine ⟨_,rfl,_,rfl,hP,p,kd,[sl,pl],i,b,c,z,st,f0,f,.ref pl,rfl,L,i62,hk,λ z1 st1 f1 H1 L1 hk1 k1 P1=>⟨true,rfl,iteT ?_⟩⟩
   obtain ⟨lg1,S1,U1,B1,D1,m1,x1,y1,Uq,npl1,W1,_⟩:=id L1.ex
   obtain ⟨dx1,hp1⟩:=id W1.o
   refine ⟨_,rfl,p,dx1,_,rfl,hp1,rfl,p,dx1,D1,lg1,1,b,c,B1,rfl,hp1,_,rfl,rfl,?_⟩
   rw [show decide (V.int b=V.int b)=true from decide_eq_true rfl]
   exact q b c z1 st1 f0 f1 pl ws bs H1 L1.up hk1 (k1.n pl (by simp) _ hpl) (zkv k1 hws) sb okb hlk ⟨λ a ha=>k1.n a (by rw [List.mem_singleton.mp ha];simp),k1.t⟩ P1
  refine ⟨_,rfl,_,kd,_,_,rfl,rfl,hk,kv_s _ _,_,_,rfl,rfl,_,rfl,kd,_,_,rfl,hk,rfl,zy0 _ _,by show 2≤100;decide,λ nd=>?_⟩
  rw [zp4]
  have La:LSt P w K A [sl,pl] (L2.upd H kd (tdO P w kd (kvK ((st.length:Int)+1) (.ref pl)))) p i b c z st f0 f:=L.td hk nd
  have ka:Kq K [sl,pl] H (L2.upd H kd (tdO P w kd (kvK ((st.length:Int)+1) (.ref pl)))):=Kq.td hk
  have Pa:Plain (L2.upd H kd (tdO P w kd (kvK ((st.length:Int)+1) (.ref pl)))):=Plain.ext hP
  have ha:L2.upd H kd (tdO P w kd (kvK ((st.length:Int)+1) (.ref pl))) kd=some (tdO P w kd (kvK ((st.length:Int)+1) (.ref pl))):=upd_same
  generalize L2.upd H kd (tdO P w kd (kvK ((st.length:Int)+1) (.ref pl)))=Ha at La ka Pa ha ⊢
  have fin:∀ Hb,Same Ha Hb→∀ st' f' c' H',LSt P w K A [sl,pl] H' p (i+1) b c' true st' f0 f'→st'.length=st.length+1→Kp K [sl,pl] Hb H'→Plain H'→Q (.bl true) H':=λ Hb sb' st' f' c' H' L' el k' P'=>by
   have kk:=ka.trans ((Kp.of sb').q.trans k'.q)
   refine q b c' true st' f0 f' pl ws bs H' L' ?_ (kk.n pl (by simp) _ hpl) (zkv kk hws) sb okb hlk ⟨λ a ha=>kk.n a (by rw [List.mem_singleton.mp ha];simp),kk.t⟩ P'
   rw [k'.e _ _ (sb' _ _ ha),el]
   rfl
  obtain ⟨lga,Sa,Ua,Ba,Da,ma,xa,ya,Uq,npla,Wa,ska,hma,_⟩:=id La.ex
  obtain ⟨dxa,hpa⟩:=id Wa.o
  apply zxv (α:=Hp) (ok:=λ Hb=>Same Ha Hb∧Plain Hb)
  ·intro go
   refine ⟨_,rfl,rfl,_,rfl,zqn (λ h3=>?_) (λ h3=>?_)⟩
   ·refine ⟨_,rfl,p,dxa,_,rfl,hpa,rfl,Pa,p,dxa,Da,lga,1,b,c,Ba,ma,rfl,hpa,Wa.d,λ Hb lb bb wb nlb sb1 Pb hlb pmb pwb hwb=>?_⟩
    refine ⟨Nat.zero_le _,λ l9 hp9=>?_⟩
    generalize hH9:upd Hb l9 (HO.lst _)=H9;obtain ⟨s9,P9,h9⟩:=nwL hH9 hp9 Pb
    have okb1:=zsj Wa.d.nd Wa.d.ok pmb
    have S9:=sb1.trans s9
    refine ⟨.list (bb.map (lnD ma)),.list [],⟨lb,wb,rfl,SqL.of (s9 _ _ hlb),DVs.same s9 _ _ hwb⟩,⟨l9,[],rfl,SqL.of h9,rfl⟩,zob okb1,rfl,_,rfl,?_⟩
    cases bb with
    | nil=>exact zco rfl (go H9 ⟨S9,P9⟩)
    | cons m0 bb0 =>
     have hne:∃ m v,f m=some v∧v.2.1≠[]:=by
      obtain ⟨v,e1,e2⟩:=(zkc Wa.d.nd m0).mp (pmb.mem_iff.mp List.mem_cons_self)
      refine ⟨m0,v,(hma m0).symm.trans e1,λ z=>?_⟩
      unfold zjg at e2
      rw [decide_eq_true z] at e2
      cases e2
     rw [show PyData.eqv (.list ((m0::bb0).map (lnD ma))) (.list [])=false from rfl]
     refine iteT ⟨_,rfl,_,rfl,_,rfl,_,_,rfl,rfl,⟨by decide,by decide⟩,P9,p,[sl,pl],i,b,c,z,st,f0,f,(i:Int),cell / 6,rfl,La.same S9,i62,nsl _ (ka.trans (Kp.of S9).q),hne,λ st' f' c' H' L' el k' P'=>⟨true,rfl,iteT ?_⟩⟩
     obtain ⟨lg1,S1,U1,B1,D1,m1,x1,y1,Uq1,npl1,W1,_⟩:=id L'.ex
     obtain ⟨dx1,hp1⟩:=id W1.o
     refine ⟨_,rfl,p,dx1,_,rfl,hp1,rfl,p,dx1,D1,lg1,1,b,c',B1,rfl,hp1,_,rfl,rfl,?_⟩
     rw [show decide (V.int b=V.int b)=true from decide_eq_true rfl]
     exact fin _ S9 st' f' c' H' L' el k' P'
   ·exact iteF (go Ha ⟨Same.refl _,Pa⟩)
  rintro Hb ⟨sb1,Pb⟩
  refine ⟨_,rfl,_,rfl,_,rfl,_,_,rfl,rfl,⟨by decide,by decide⟩,Pb,p,[sl,pl],i,b,c,z,st,f0,f,(i:Int),cell / 6,rfl,La.same sb1,i62,nsl _ (ka.trans (Kp.of sb1).q),λ st' f' c' H' L' el k' P'=>⟨true,rfl,iteT ?_⟩⟩
  obtain ⟨lg1,S1,U1,B1,D1,m1,x1,y1,Uq1,npl1,W1,_⟩:=id L'.ex
  obtain ⟨dx1,hp1⟩:=id W1.o
  refine ⟨_,rfl,p,dx1,_,rfl,hp1,rfl,p,dx1,D1,lg1,1,b,c',B1,rfl,hp1,_,rfl,rfl,?_⟩
  rw [show decide (V.int b=V.int b)=true from decide_eq_true rfl]
  exact fin _ sb1 st' f' c' H' L' el k' P'
theorem sc_q33:FnScope ["_law_cell", "_law_k", "_law_one", "_law_two", "_law_three", "_law_four"] ["_law_cell", "_law_k"] (zea zm3):=by walk_at "sc"
theorem zo0 (T:Txt w K mg A)  : ztv P w K mg B A:=by
 refine T.F_q33.okN sc_q33 (λ vs H Q E h=>?_) (λ _ _ _ _ H vs Q E hr h=>?_)
 ·obtain ⟨c,k,rfl,_⟩:=h
  rfl
 ·obtain ⟨c,k,rfl,k0,k1,q⟩:=h
  refine ⟨_,(zba (zra (i:=2) sc_q33.nd rfl (Or.inl rfl) (zta zxb (zta zxb (zta zmc (zta zgd (zta zxb (zta zmc (pv 0) zia) zia) zia) zia) (zta zgd (zta zgd (pv 1) (pv 1)) zia)) (pv 1)))
   (zba (zra (i:=3) sc_q33.nd rfl (Or.inl rfl) (zta zic (zta zmc (zta zgd (pv 2) zia) zia) zia))
   (zba (zra (i:=4) sc_q33.nd rfl (Or.inl rfl) (zta zic (zta zmc (zta zgd (pv 2) zia) zia) zia))
   (zba (zra (i:=5) sc_q33.nd rfl (Or.inl rfl) (zta zic (zta zmc (zta zxb (zta zgd (pv 3) zia) (pv 2)) zia) zia))
   (zfa (zla (zta zxb (zta zgd (zta zxb (zta zgd (pv 5) zia) (pv 4)) zia) (pv 3)))))))),?_⟩
  walk_at "rd"
  refine ⟨Or.inl ⟨by omega,by omega⟩,?_⟩
  walk_at "rd"
  exact q _
theorem sc_law:FnScope ["_law_script", "_law_window", "_law_kept", "_law_k", "_law_cell", "_law_number"] ["_law_script"] (zea znu):=by walk_at "sc"
theorem zd5 (T:Txt w K mg A) (G_q2:zzy P w K mg B A) (G_q13:zfp P w K mg B A) (G_q1:zn6 P w K mg B A) (G_q12:zdp P w K mg B A) (G_q4:zb5 P w K mg B A) (G_q16:zhv P w K mg B A) (G_q19:zop P w K mg B A) (G_q38:zex P w K mg B A) (G_q33:ztv P w K mg B A):zn4 P w K mg B A:=by
 have B_q2:=T.b_q2
 have B_q13:=T.b_q13
 have B_q1:=T.b_q1
 have B_q12:=T.b_q12
 have B_q4:=T.b_q4
 have B_q16:=T.b_q16
 have B_q19:=T.b_q19
 have B_q38:=T.b_q38
 have B_q33:=T.b_q33
 refine T.F_law.okN sc_law (λ vs H Q E h=>?_) (λ _ _ _ _ H vs Q E hr h=>?_)
 ·obtain ⟨a,ns,rfl,_⟩:=h
  rfl
 ·obtain ⟨a,ns,rfl,hS,hlen,k,hP⟩:=h
  refine ⟨_,(zba (zra (i:=1) sc_law.nd rfl (Or.inl rfl) (zbj T.mk_Window G_q1 (hr.mono (by decide)) rfl T.g_Window B_q1 .nil zva (zaa zia (zaa zia (zaa (zbj T.mk_Sheet G_q2 (hr.mono (by decide)) rfl T.g_Sheet B_q2 .nil zva (zaa (zbc zda) zda)) (zaa (zta zmc (zpa G_q16 (hr.mono (by decide)) rfl T.g_q16 T.k_q16 B_q16 .nil zva (zaa (pv 0) (zaa zia zda))) (zta zrz zia zia)) zda))))))
   (zba (zra (i:=2) sc_law.nd rfl (Or.inl rfl) (toE (zi7 (zpr "stand" zbb (λ _ _ _ h=>h) zia (zpr "pairs" zbb (λ _ _ _ h=>h) (zbc zda) zz1))) (show _=tTd P w _ from rfl)))
   (zba (zhu PassesOwn.never rfl (zmx rfl T.n_enumerate (by decide +kernel) (zaa (zac zgh (pv 0) zpc (zsc zia)) zda)) (zbd rfl (zka (zma (i:=3) sc_law.nd rfl (Or.inl rfl)) (zka (zma (i:=4) sc_law.nd rfl (Or.inl rfl)) zub))) (zba (zra (i:=5) sc_law.nd rfl (Or.inl rfl) (pv 4))
   (zba (zce (zqa zo6 (zta zmc (pv 4) zia) zia (zsa _)) (zfa (zra (i:=5) sc_law.nd rfl (Or.inl rfl) (zpa G_q33 (hr.mono (by decide)) rfl T.g_q33 T.k_q33 B_q33 .nil zva (zaa (pv 4) (zaa (pv 3) zda))))) zxa)
   (zfa (zce (zds (zji (zpa G_q38 (hr.mono (by decide)) rfl T.g_q38 T.k_q38 B_q38 .nil zva (zaa (pv 1) (zaa (pv 2) (zaa (pv 3) (zaa (pv 5) zda))))))) (zfa (zla zti)) zxa)))))
   (zba (zhu PassesOwn.never rfl (zlp rfl T.n_range (zaa (zkd zru (pv 2) zbb (λ _ _=>rfl)) zda)) (zma (i:=3) sc_law.nd rfl (Or.inl rfl)) (zfa (zce (zji (zpa G_q19 (hr.mono (by decide)) rfl T.g_q19 T.k_q19 B_q19 .nil zva (zaa (pv 1) (zaa zti zda)))) (zfa (zla zti)) zxa)))
   (zfa (zla (zme (zmb (zoi hr.units) (zja (zja (pv 1) T.cl_Window T.m_q12 G_q12 (hr.mono (by decide)) B_q12 .nil zva) T.cl_Sheet T.m_q13 G_q13 (hr.mono (by decide)) B_q13 .nil zva) (zkd zru (pv 2) zbb (λ _ _=>rfl)) (zsa _)) (zme (zmb (zoi hr.units) (zja (pv 1) T.cl_Window T.m_q4 G_q4 (hr.mono (by decide)) B_q4 .nil zva) (zbc zda) (zsa _)) (zxe (zpa G_q19 (hr.mono (by decide)) rfl T.g_q19 T.k_q19 B_q19 .nil zva (zaa (pv 1) (zaa zti zda)))))))))))),?_⟩
  refine ⟨Nat.zero_le _,λ l0 hp0=>?_⟩
  generalize hH0:upd H l0 (HO.lst _)=H0;obtain ⟨s0,P0,h0⟩:=nwL hH0 hp0 hP
  intro D dxD nD ndD nexD
  have sx:Same H0 (upd (upd H0 dxD (.own D)) D (.ins A.Sheet dxD [])):=λ b o e=>by
   rw [zha (zca e nD),zha (zca e ndD)]
   exact e
  refine ⟨Plain.ins (P0.upd trivial),D,dxD,l0,[],[],rfl,upd_same,SqL.of (sx _ _ h0),rfl,(λ m hm=>by cases hm),by decide,λ _ H1 k1 Sh1 P1=>⟨rfl,?_⟩,λ h=>absurd List.nodup_nil h⟩
  have s1:Same H0 H1:=λ b o e=>k1 b o (zca e nD) (sx b o e)
  have S1:=s0.trans s1
  refine ⟨_,rfl,a,ns,0,rfl,S1.seq hS,Int.le_refl _,λ z0=>?_⟩
  refine ⟨_,_,rfl,rfl,⟨by decide,by decide,by decide⟩,_,_,rfl,rfl,(by show (0:Int)<10 ^ 12;decide),?_⟩
  have c0:0≤z0 % 10 ^ 12:=Int.emod_nonneg _ (by decide)
  have cl:z0 % 10 ^ 12<1000000000000:=Int.emod_lt_of_pos _ (by decide)
  intro p dx np ndp nep
  have sw:Same H1 (upd (upd H1 dx (.own p)) p (.ins A.Window dx [])):=λ b o e=>by
   rw [zha (zca e np),zha (zca e ndp)]
   exact e
  refine ⟨Plain.ins (P1.upd trivial),p,dx,D,1,0,z0 % 10 ^ 12,rfl,upd_same,λ lg S U H2 k2 P2 npl hp2 L2'=>⟨rfl,?_⟩⟩
  have s2:Same H1 H2:=λ b o e=>k2 b o (by simp [zca e np]) (sw b o e)
  have S2:=S1.trans s2
  generalize z0 % 10 ^ 12=c at c0 cl hp2
  have LS:LSt P w K A [] H2 p 0 0 c true [] (λ _=>none) (λ _=>none):=⟨⟨lg,S,U,.ref D,D,[],[],[],[],npl,⟨⟨dx,hp2⟩,L2',.nil,Sh1.same s2⟩,⟨⟨λ m v e=>(by cases e),λ m e=>absurd rfl e⟩,λ _=>rfl⟩,λ _=>rfl,Nat.le_refl _,Nat.le_refl _,λ _=>rfl,λ a ha=>by cases ha⟩,Nat.le_refl _,c0,by show c≤1000000000000+((0:Nat):Int);omega⟩
  intro kd hkd
  refine ⟨Nat.zero_le _,λ pl hpl=>⟨?_,by show (["stand", "pairs"]:List Str).Nodup;decide +kernel,?_⟩⟩
  ·rw [zha (zca upd_same hpl)]
   exact upd_same
  have npk:kd≠pl:=zca upd_same hpl
  apply zxv (α:=Hp) (ok:=λ H5=>Same H2 H5∧Plain H5∧H5 kd=some (tdO P w kd (kvK 0 (.ref pl)))∧H5 pl=some (.lst []))
  ·intro go
   generalize hH5:upd (upd (upd H2 kd (tdO P w kd [])) pl (HO.lst [])) kd (tdO P w kd _)=H5
   refine go H5 ⟨λ b o e=>?_,?_,?_,?_⟩
   ·have n1:=zca e hkd
    have n2:b≠pl:=zca (show upd H2 kd (tdO P w kd []) b=some o by rw [zha n1];exact e) hpl
    rw [← hH5,zha n1,zha n2,zha n1]
    exact e
   ·rw [← hH5]
    exact Plain.ext (Plain.lst (Plain.ext P2))
   ·rw [← hH5]
    exact upd_same
   ·rw [← hH5,zha npk.symm]
    exact upd_same
  rintro H5 ⟨s5,P5,hk5,hpl5⟩
  have S5:=S2.trans s5
  refine ⟨_,rfl,63,rfl,a,_,rfl,S5.seq hS,λ c1 hp7=>?_⟩
  have hci:∀ x∈cutV (ns.map V.int) none (some 63),∃ n,x=V.int n:=λ x hx=>by
   obtain ⟨i,hi⟩:=List.getElem?_of_mem hx
   exact zyx hi
  have lc:(cutV (ns.map V.int) none (some 63)).length≤63:=Nat.le_trans zlw hlen
  generalize cutV (ns.map V.int) none (some 63)=cells at hci lc hp7 ⊢
  generalize hH7:upd H5 c1 (HO.lst _)=H7;obtain ⟨s7,P7,h7⟩:=nwL hH7 hp7 P5
  have L7:LSt P w K A [c1,pl] H7 p 0 0 c true [] (λ _=>none) (λ _=>none):=LS.newN (s5.trans s7) λ x hx=>by
   rcases List.mem_cons.mp hx with e | hx
   ·exact .inr (by rw [e];exact s5.free hp7)
   ·rw [List.mem_singleton.mp hx]
    rw [zha npk.symm] at hpl
    exact .inr hpl
  refine ⟨c1,rfl,⟨_,SqL.of h7⟩,zrt (K:=K) (a:=c1) (xs:=cells) (λ i σ H2=>∃ (o3 o4 o5:Option V),σ=[some (.ref a),some (.ref p),some (.ref kd),o3,o4,o5]∧Plain H2∧H2 c1=some (.lst cells)∧LW P w K A H2 p kd c1 i)
   ⟨_,_,_,rfl,P7,h7,0,c,true,[],_,_,pl,[],[],L7,s7 _ _ hk5,s7 _ _ hpl5,rfl,.nil,(λ m hm=>by cases hm),λ _=>rfl⟩ (λ i σ H2 _ ⟨_,_,_,_,_,t,_⟩=>SqL.of t) ?_ ?_⟩
  ·rintro i xc T' σ H2 hxc ⟨o3,o4,o5,rfl,P2,hc2,b,c,z,st,f0,f,pl,ws,bs,L2,hk2,hpl2,hws2,sb2,ok2,lk2⟩ hT
   obtain ⟨cell,rfl⟩:=hci xc (List.mem_of_getElem? hxc)
   have hi:=(List.getElem?_eq_some_iff.mp hxc).1
   refine ⟨T',_,rfl,SqT.of upd_same,rfl,_,_,rfl,_,_,rfl,rfl,?_⟩
   have s3:Same H2 (upd H2 T' (.tup [.int i,.int cell])):=zga hT
   have P3:Plain (upd H2 T' (.tup [.int i,.int cell])):=P2.tup
   generalize upd H2 T' (.tup [.int i,.int cell])=H3 at s3 P3 ⊢
   refine ⟨_,rfl,?_⟩
   refine ⟨_,rfl,_,_,rfl,rfl,ip_7,_,_,rfl,rfl,_,rfl,zqn (λ _ => ?yes) (λ _ => ?no)⟩
   case yes =>
    refine ⟨_,rfl,_,rfl,_,_,rfl,by omega,by omega,λ num=>?_⟩
    refine ⟨_,rfl,_,rfl,_,rfl,_,rfl,P3,p,kd,c1,i,b,c,z,st,f0,f,pl,ws,bs,_,rfl,L2.same s3,by omega,⟨cells,s3 _ _ hc2⟩,s3 _ _ hk2,s3 _ _ hpl2,DVs.same s3 _ _ hws2,sb2,ok2,lk2,λ b' c' z' st' f0' f' pl' ws' bs' H' L' hk' hpl' hw' sb' ok' lk' kq' P'=>⟨true,rfl,zco rfl ?_⟩⟩
    exact ⟨_,_,_,rfl,P',kq'.n c1 (by simp) _ (s3 _ _ hc2),b',c',z',st',f0',f',pl',ws',bs',L',hk',hpl',hw',sb',ok',lk'⟩
   case no =>
    refine ⟨_,rfl,_,rfl,_,rfl,_,rfl,P3,p,kd,c1,i,b,c,z,st,f0,f,pl,ws,bs,_,rfl,L2.same s3,by omega,⟨cells,s3 _ _ hc2⟩,s3 _ _ hk2,s3 _ _ hpl2,DVs.same s3 _ _ hws2,sb2,ok2,lk2,λ b' c' z' st' f0' f' pl' ws' bs' H' L' hk' hpl' hw' sb' ok' lk' kq' P'=>⟨true,rfl,zco rfl ?_⟩⟩
    exact ⟨_,_,_,rfl,P',kq'.n c1 (by simp) _ (s3 _ _ hc2),b',c',z',st',f0',f',pl',ws',bs',L',hk',hpl',hw',sb',ok',lk'⟩
  rintro σ H2 ⟨o3,o4,o5,rfl,P2,hc2,b,c,z,st,f0,f,pl,ws,bs,L2,hk2,hpl2,hws2,sb2,ok2,lk2⟩
  have hsl2:=L2.sl
  refine ⟨_,rfl,_,kd,_,_,rfl,rfl,hk2,kv_s _ _,_,rfl,by omega,by omega,zgp (lo:=0) (n:=(st.length:Int).toNat) (λ j σ H3=>∃ (o3:Option V) (z3:Bool) (st3:List (List Chg)) (f3:Mark→Option Ver),σ=[some (.ref a),some (.ref p),some (.ref kd),o3,o4,o5]∧Plain H3∧LSt P w K A [c1,pl] H3 p cells.length b c z3 st3 f0 f3∧st3.length+j=st.length∧Kp K [c1,pl] H2 H3) ⟨_,z,st,f,rfl,P2,L2,rfl,Kp.of (Same.refl _)⟩ ?_ ?_⟩
  ·rintro j σ H3 hj ⟨o3',z3,st3,f3,rfl,P3,L3,el,k3⟩
   rw [Int.toNat_natCast] at hj
   refine ⟨_,rfl,P3,p,[c1,pl],cells.length,b,c,z3,true,st3,f0,f3,rfl,L3,lc,(λ z=>by cases z),λ he=>?_,λ _ st' e he f' H' L' k' P'=>⟨false,rfl,iteF ⟨_,_,_,_,rfl,P',L',?_,k3.trans k'⟩⟩⟩
   ·have e0:st3=[]:=he.resolve_left (by intro z;cases z)
    rw [e0,List.length_nil] at el
    exact absurd el (by omega)
   ·rw [he,List.length_append,List.length_singleton] at el
    omega
  rintro σ H3 ⟨o3',z3,st3,f3,rfl,P3,L3,el,k3⟩
  rw [Int.toNat_natCast] at el
  have e0:st3=[]:=List.length_eq_zero_iff.mp (by omega)
  subst e0
  obtain ⟨lg3,S3,U3,B3,D3,m3,x3,y3,Uq3,npl3,W3,sk3,hm3,_⟩:=id L3.ex
  obtain ⟨dx3,hp3⟩:=id W3.o
  obtain ⟨dxs,_,_,_,hD3,_⟩:=id W3.d.ex
  have ex:x3=[]:=List.length_eq_zero_iff.mp (Paired.length W3.e)
  subst ex
  refine ⟨_,rfl,p,dx3,_,rfl,hp3,rfl,p,dx3,D3,lg3,1,b,c,B3,rfl,hp3,D3,dxs,_,rfl,hD3,rfl,P3,D3,m3,rfl,W3.d,λ H4 l4 b4 w4 nl4 s4 P4 h4 pb4 sb4 hw4=>?_⟩
  have hk4:=s4 _ _ (k3.e _ _ hk2)
  refine ⟨_,rfl,_,kd,_,_,rfl,rfl,hk4,kv_p _ _,?_⟩
  have eq:b4=bs:=znr (pb4.trans (zpp W3.d.nd (zep (List.pairwise_map.mpr sb2)) λ k=>(hm3 k).trans ((sk3.2 k).trans (lk2 k).symm))) sb4 sb2
  refine ⟨.list (bs.map prD),.list (bs.map prD),⟨l4,w4,rfl,SqL.of h4,by rw [← eq];exact hw4⟩,⟨pl,ws,rfl,SqL.of (s4 _ _ (k3.n pl (by simp) _ hpl2)),DVs.same s4 _ _ (k3.dvs _ _ (zpj bs) hws2)⟩,ztc ok2,ztc ok2,?_⟩
  rw [zcr ok2]
  refine ⟨true,rfl,iteT ?_⟩
  refine ⟨_,rfl,p,dx3,_,rfl,s4 _ _ hp3,rfl,P4,p,dx3,D3,lg3,S3,U3,1,b,c,B3,y3,rfl,s4 _ _ hp3,W3.l.same s4,λ l8 H8 s8 h8 P8=>?_⟩
  refine ⟨Nat.zero_le _,λ l9 hp9=>?_⟩
  generalize hH9:upd H8 l9 (HO.lst _)=H9;obtain ⟨s9,P9,h9⟩:=nwL hH9 hp9 P8
  refine ⟨.list [],.list [],⟨l8,[],rfl,SqL.of (s9 _ _ h8),rfl⟩,⟨l9,[],rfl,SqL.of h9,rfl⟩,rfl,rfl,?_⟩
  refine ⟨true,rfl,iteT ?_⟩
  exact ⟨_,rfl,P9,p,[c1,pl],cells.length,b,c,z3,true,[],f0,f3,rfl,L3.same ((s4.trans s8).trans s9),lc,(λ z=>by cases z),λ _ Hb sb Pb=>k Hb,λ _ st' e h=>absurd h (by simp)⟩
end
theorem ln_1 {us:List Value} (h:us.length=1):∃ a0,us=[a0]:=match us,h with | [a0],_=>⟨a0,rfl⟩
theorem ln_2 {us:List Value} (h:us.length=2):∃ a0 a1,us=[a0,a1]:=match us,h with | [a0,a1],_=>⟨a0,a1,rfl⟩
theorem ln_3 {us:List Value} (h:us.length=3):∃ a0 a1 a2,us=[a0,a1,a2]:=match us,h with | [a0,a1,a2],_=>⟨a0,a1,a2,rfl⟩
theorem ln_4 {us:List Value} (h:us.length=4):∃ a0 a1 a2 a3,us=[a0,a1,a2,a3]:=match us,h with | [a0,a1,a2,a3],_=>⟨a0,a1,a2,a3,rfl⟩
theorem ln_5 {us:List Value} (h:us.length=5):∃ a0 a1 a2 a3 a4,us=[a0,a1,a2,a3,a4]:=match us,h with | [a0,a1,a2,a3,a4],_=>⟨a0,a1,a2,a3,a4,rfl⟩
set_option maxHeartbeats 0 in
theorem all_mk {l:W.OpenLaw} {w:World} {K:W.Frag} {h:Heap} {mg:Str→Option Value} {fa:Addr} (X:K.In h) (G:h.Ns mainGlobals mg) (hfa:mg "law" = some (.ref fa))
  {f_q40:Addr} {d_q40:FuncData}
  {f_q35:Addr} {d_q35:FuncData}
  {f_q43:Addr} {d_q43:FuncData}
  {f_q25:Addr} {d_q25:FuncData}
  {f_q44:Addr} {d_q44:FuncData}
  {f_q26:Addr} {d_q26:FuncData}
  {f_q2:Addr} {d_q2:FuncData}
  {f_q13:Addr} {d_q13:FuncData}
  {f_q18:Addr} {d_q18:FuncData}
  {f_q6:Addr} {d_q6:FuncData}
  {f_q30:Addr} {d_q30:FuncData}
  {f_q14:Addr} {d_q14:FuncData}
  {f_q0:Addr} {d_q0:FuncData}
  {f_q28:Addr} {d_q28:FuncData}
  {f_q15:Addr} {d_q15:FuncData}
  {f_q22:Addr} {d_q22:FuncData}
  {f_q36:Addr} {d_q36:FuncData}
  {f_put:Addr} {d_put:FuncData}
  {f_q46:Addr} {d_q46:FuncData}
  {f_q45:Addr} {d_q45:FuncData}
  {f_q47:Addr} {d_q47:FuncData}
  {f_q37:Addr} {d_q37:FuncData}
  {f_q7:Addr} {d_q7:FuncData}
  {f_q27:Addr} {d_q27:FuncData}
  {f_q32:Addr} {d_q32:FuncData}
  {f_q41:Addr} {d_q41:FuncData}
  {f_q39:Addr} {d_q39:FuncData}
  {f_q31:Addr} {d_q31:FuncData}
  {f_q17:Addr} {d_q17:FuncData}
  {f_q1:Addr} {d_q1:FuncData}
  {f_q24:Addr} {d_q24:FuncData}
  {f_q3:Addr} {d_q3:FuncData}
  {f_q12:Addr} {d_q12:FuncData}
  {f_q11:Addr} {d_q11:FuncData}
  {f_q4:Addr} {d_q4:FuncData}
  {f_q8:Addr} {d_q8:FuncData}
  {f_q20:Addr} {d_q20:FuncData}
  {f_q21:Addr} {d_q21:FuncData}
  {f_q9:Addr} {d_q9:FuncData}
  {f_q5:Addr} {d_q5:FuncData}
  {f_q10:Addr} {d_q10:FuncData}
  {f_q16:Addr} {d_q16:FuncData}
  {f_q19:Addr} {d_q19:FuncData}
  {f_q29:Addr} {d_q29:FuncData}
  {f_q42:Addr} {d_q42:FuncData}
  {f_q23:Addr} {d_q23:FuncData}
  {f_q34:Addr} {d_q34:FuncData}
  {f_q38:Addr} {d_q38:FuncData}
  {f_q33:Addr} {d_q33:FuncData}
  {f_law:Addr} {d_law:FuncData}
  {C_Log:Addr}
  {C_NoDeed:Addr}
  {C_NoPiece:Addr}
  {C_NoRoom:Addr}
  {C_NoSheet:Addr}
  {C_NoWords:Addr}
  {C_Sheet:Addr}
  {C_Window:Addr}
  (a_q40:W.nsIn K mainGlobals "is_words" = some (some (.ref f_q40))) (F_q40:Fun K "is_words" "is_words" zq3 f_q40 d_q40)
  (a_q35:W.nsIn K mainGlobals "free_rank" = some (some (.ref f_q35))) (F_q35:Fun K "free_rank" "free_rank" ze3 f_q35 d_q35)
  (a_q43:W.nsIn K mainGlobals "between" = some (some (.ref f_q43))) (F_q43:Fun K "between" "between" zx2 f_q43 d_q43)
  (a_q25:W.nsIn K mainGlobals "out_version" = some (some (.ref f_q25))) (F_q25:Fun K "out_version" "out_version" zd3 f_q25 d_q25)
  (a_q44:W.nsIn K mainGlobals "is_in" = some (some (.ref f_q44))) (F_q44:Fun K "is_in" "is_in" zsz f_q44 d_q44)
  (a_q26:W.nsIn K mainGlobals "check_words" = some (some (.ref f_q26))) (F_q26:Fun K "check_words" "check_words" zs0 f_q26 d_q26)
  (a_q2:W.findIn K (.ref C_Sheet) "__init__" = some (some (.ref f_q2))) (i_q2:W.isFn K (.ref f_q2)=true) (F_q2:Fun K "__init__" "Sheet.__init__" s_q2 f_q2 d_q2)
  (a_q13:W.findIn K (.ref C_Sheet) "pairs" = some (some (.ref f_q13))) (i_q13:W.isFn K (.ref f_q13)=true) (F_q13:Fun K "pairs" "Sheet.pairs" zn0 f_q13 d_q13)
  (a_q18:W.findIn K (.ref C_Sheet) "lines" = some (some (.ref f_q18))) (i_q18:W.isFn K (.ref f_q18)=true) (F_q18:Fun K "lines" "Sheet.lines" zi3 f_q18 d_q18)
  (a_q6:W.findIn K (.ref C_Sheet) "version" = some (some (.ref f_q6))) (i_q6:W.isFn K (.ref f_q6)=true) (F_q6:Fun K "version" "Sheet.version" s_q6 f_q6 d_q6)
  (a_q30:W.findIn K (.ref C_Sheet) "has" = some (some (.ref f_q30))) (i_q30:W.isFn K (.ref f_q30)=true) (F_q30:Fun K "has" "Sheet.has" zc5 f_q30 d_q30)
  (a_q14:W.findIn K (.ref C_Sheet) "piece" = some (some (.ref f_q14))) (i_q14:W.isFn K (.ref f_q14)=true) (F_q14:Fun K "piece" "Sheet.piece" zv2 f_q14 d_q14)
  (a_q0:W.findIn K (.ref C_Sheet) "next_place" = some (some (.ref f_q0))) (i_q0:W.isFn K (.ref f_q0)=true) (F_q0:Fun K "next_place" "Sheet.next_place" s_q0 f_q0 d_q0)
  (a_q28:W.findIn K (.ref C_Sheet) "gap" = some (some (.ref f_q28))) (i_q28:W.isFn K (.ref f_q28)=true) (F_q28:Fun K "gap" "Sheet.gap" zt2 f_q28 d_q28)
  (a_q15:W.findIn K (.ref C_Sheet) "given" = some (some (.ref f_q15))) (i_q15:W.isFn K (.ref f_q15)=true) (F_q15:Fun K "given" "Sheet.given" zp5 f_q15 d_q15)
  (a_q22:W.nsIn K mainGlobals "place_behind" = some (some (.ref f_q22))) (F_q22:Fun K "place_behind" "place_behind" zhz f_q22 d_q22)
  (a_q36:W.nsIn K mainGlobals "new_piece" = some (some (.ref f_q36))) (F_q36:Fun K "new_piece" "new_piece" ztz f_q36 d_q36)
  (a_put:W.nsIn K mainGlobals "put" = some (some (.ref f_put))) (F_put:Fun K "put" "put" zt0 f_put d_put)
  (a_q46:W.nsIn K mainGlobals "take" = some (some (.ref f_q46))) (F_q46:Fun K "take" "take" zn1 f_q46 d_q46)
  (a_q45:W.nsIn K mainGlobals "write" = some (some (.ref f_q45))) (F_q45:Fun K "write" "write" zoz f_q45 d_q45)
  (a_q47:W.nsIn K mainGlobals "done" = some (some (.ref f_q47))) (F_q47:Fun K "done" "done" zv0 f_q47 d_q47)
  (a_q37:W.nsIn K mainGlobals "last_over" = some (some (.ref f_q37))) (F_q37:Fun K "last_over" "last_over" zjz f_q37 d_q37)
  (a_q7:W.findIn K (.ref C_Log) "__init__" = some (some (.ref f_q7))) (i_q7:W.isFn K (.ref f_q7)=true) (F_q7:Fun K "__init__" "Log.__init__" s_q7 f_q7 d_q7)
  (a_q27:W.findIn K (.ref C_Log) "forget" = some (some (.ref f_q27))) (i_q27:W.isFn K (.ref f_q27)=true) (F_q27:Fun K "forget" "Log.forget" zk2 f_q27 d_q27)
  (a_q32:W.findIn K (.ref C_Log) "empty" = some (some (.ref f_q32))) (i_q32:W.isFn K (.ref f_q32)=true) (F_q32:Fun K "empty" "Log.empty" zvz f_q32 d_q32)
  (a_q41:W.findIn K (.ref C_Log) "add" = some (some (.ref f_q41))) (i_q41:W.isFn K (.ref f_q41)=true) (F_q41:Fun K "add" "Log.add" ze1 f_q41 d_q41)
  (a_q39:W.findIn K (.ref C_Log) "undo" = some (some (.ref f_q39))) (i_q39:W.isFn K (.ref f_q39)=true) (F_q39:Fun K "undo" "Log.undo" zf2 f_q39 d_q39)
  (a_q31:W.findIn K (.ref C_Log) "again" = some (some (.ref f_q31))) (i_q31:W.isFn K (.ref f_q31)=true) (F_q31:Fun K "again" "Log.again" zs2 f_q31 d_q31)
  (a_q17:W.findIn K (.ref C_Log) "touched" = some (some (.ref f_q17))) (i_q17:W.isFn K (.ref f_q17)=true) (F_q17:Fun K "touched" "Log.touched" zc2 f_q17 d_q17)
  (a_q1:W.findIn K (.ref C_Window) "__init__" = some (some (.ref f_q1))) (i_q1:W.isFn K (.ref f_q1)=true) (F_q1:Fun K "__init__" "Window.__init__" s_q1 f_q1 d_q1)
  (a_q24:W.findIn K (.ref C_Window) "base" = some (some (.ref f_q24))) (i_q24:W.isFn K (.ref f_q24)=true) (F_q24:Fun K "base" "Window.base" zo1 f_q24 d_q24)
  (a_q3:W.findIn K (.ref C_Window) "counted" = some (some (.ref f_q3))) (i_q3:W.isFn K (.ref f_q3)=true) (F_q3:Fun K "counted" "Window.counted" s_q3 f_q3 d_q3)
  (a_q12:W.findIn K (.ref C_Window) "draft" = some (some (.ref f_q12))) (i_q12:W.isFn K (.ref f_q12)=true) (F_q12:Fun K "draft" "Window.draft" zuz f_q12 d_q12)
  (a_q11:W.findIn K (.ref C_Window) "lines" = some (some (.ref f_q11))) (i_q11:W.isFn K (.ref f_q11)=true) (F_q11:Fun K "lines" "Window.lines" zb2 f_q11 d_q11)
  (a_q4:W.findIn K (.ref C_Window) "unsaved" = some (some (.ref f_q4))) (i_q4:W.isFn K (.ref f_q4)=true) (F_q4:Fun K "unsaved" "Window.unsaved" s_q4 f_q4 d_q4)
  (a_q8:W.findIn K (.ref C_Window) "gives" = some (some (.ref f_q8))) (i_q8:W.isFn K (.ref f_q8)=true) (F_q8:Fun K "gives" "Window.gives" s_q8 f_q8 d_q8)
  (a_q20:W.findIn K (.ref C_Window) "does" = some (some (.ref f_q20))) (i_q20:W.isFn K (.ref f_q20)=true) (F_q20:Fun K "does" "Window.does" zkz f_q20 d_q20)
  (a_q21:W.findIn K (.ref C_Window) "undo" = some (some (.ref f_q21))) (i_q21:W.isFn K (.ref f_q21)=true) (F_q21:Fun K "undo" "Window.undo" za1 f_q21 d_q21)
  (a_q9:W.findIn K (.ref C_Window) "again" = some (some (.ref f_q9))) (i_q9:W.isFn K (.ref f_q9)=true) (F_q9:Fun K "again" "Window.again" s_q9 f_q9 d_q9)
  (a_q5:W.findIn K (.ref C_Window) "lies_on" = some (some (.ref f_q5))) (i_q5:W.isFn K (.ref f_q5)=true) (F_q5:Fun K "lies_on" "Window.lies_on" s_q5 f_q5 d_q5)
  (a_q10:W.findIn K (.ref C_Window) "saved" = some (some (.ref f_q10))) (i_q10:W.isFn K (.ref f_q10)=true) (F_q10:Fun K "saved" "Window.saved" zr5 f_q10 d_q10)
  (a_q16:W.nsIn K mainGlobals "_law_cell_at" = some (some (.ref f_q16))) (F_q16:Fun K "_law_cell_at" "_law_cell_at" zv1 f_q16 d_q16)
  (a_q19:W.nsIn K mainGlobals "_law_refused" = some (some (.ref f_q19))) (F_q19:Fun K "_law_refused" "_law_refused" zi5 f_q19 d_q19)
  (a_q29:W.nsIn K mainGlobals "_law_saved" = some (some (.ref f_q29))) (F_q29:Fun K "_law_saved" "_law_saved" zk5 f_q29 d_q29)
  (a_q42:W.nsIn K mainGlobals "_law_put" = some (some (.ref f_q42))) (F_q42:Fun K "_law_put" "_law_put" zp0 f_q42 d_q42)
  (a_q23:W.nsIn K mainGlobals "_law_changed" = some (some (.ref f_q23))) (F_q23:Fun K "_law_changed" "_law_changed" zw3 f_q23 d_q23)
  (a_q34:W.nsIn K mainGlobals "_law_back" = some (some (.ref f_q34))) (F_q34:Fun K "_law_back" "_law_back" zl3 f_q34 d_q34)
  (a_q38:W.nsIn K mainGlobals "_law_step" = some (some (.ref f_q38))) (F_q38:Fun K "_law_step" "_law_step" zs4 f_q38 d_q38)
  (a_q33:W.nsIn K mainGlobals "_law_mixed" = some (some (.ref f_q33))) (F_q33:Fun K "_law_mixed" "_law_mixed" zm3 f_q33 d_q33)
  (a_law:W.nsIn K mainGlobals "law" = some (some (.ref f_law))) (F_law:Fun K "law" "law" znu f_law d_law)
  (q_Log:W.nsIn K mainGlobals "Log" = some (some (.ref C_Log)))
  (pg_Log:W.plainGet K C_Log Str.empty=true) (hd_Log:W.hasDictIn K C_Log=true) (po_Log:W.plainOver K C_Log=true) (sa_Log:W.findIn K (.ref C_Log) "__setattr__" = some (some (.builtin "object.__setattr__"))) (mk_Log:W.makesIn K C_Log=true) (kc_Log:W.keepIn K (.ref C_Log)=true)
  (na_Log_standing:W.findIn K (.ref C_Log) "standing" = some none)
  (na_Log_undone:W.findIn K (.ref C_Log) "undone" = some none)
  (q_NoDeed:W.nsIn K mainGlobals "NoDeed" = some (some (.ref C_NoDeed)))
  (x_NoDeed:XCls K C_NoDeed)
  (q_NoPiece:W.nsIn K mainGlobals "NoPiece" = some (some (.ref C_NoPiece)))
  (x_NoPiece:XCls K C_NoPiece)
  (q_NoRoom:W.nsIn K mainGlobals "NoRoom" = some (some (.ref C_NoRoom)))
  (x_NoRoom:XCls K C_NoRoom)
  (q_NoSheet:W.nsIn K mainGlobals "NoSheet" = some (some (.ref C_NoSheet)))
  (x_NoSheet:XCls K C_NoSheet)
  (q_NoWords:W.nsIn K mainGlobals "NoWords" = some (some (.ref C_NoWords)))
  (x_NoWords:XCls K C_NoWords)
  (q_Sheet:W.nsIn K mainGlobals "Sheet" = some (some (.ref C_Sheet)))
  (pg_Sheet:W.plainGet K C_Sheet Str.empty=true) (hd_Sheet:W.hasDictIn K C_Sheet=true) (po_Sheet:W.plainOver K C_Sheet=true) (sa_Sheet:W.findIn K (.ref C_Sheet) "__setattr__" = some (some (.builtin "object.__setattr__"))) (mk_Sheet:W.makesIn K C_Sheet=true) (kc_Sheet:W.keepIn K (.ref C_Sheet)=true)
  (na_Sheet_versions:W.findIn K (.ref C_Sheet) "versions" = some none)
  (q_Window:W.nsIn K mainGlobals "Window" = some (some (.ref C_Window)))
  (pg_Window:W.plainGet K C_Window Str.empty=true) (hd_Window:W.hasDictIn K C_Window=true) (po_Window:W.plainOver K C_Window=true) (sa_Window:W.findIn K (.ref C_Window) "__setattr__" = some (some (.builtin "object.__setattr__"))) (mk_Window:W.makesIn K C_Window=true) (kc_Window:W.keepIn K (.ref C_Window)=true)
  (na_Window_number:W.findIn K (.ref C_Window) "number" = some none)
  (na_Window_base_save:W.findIn K (.ref C_Window) "base_save" = some none)
  (na_Window_base_sheet:W.findIn K (.ref C_Window) "base_sheet" = some none)
  (na_Window_draft_sheet:W.findIn K (.ref C_Window) "draft_sheet" = some none)
  (na_Window_last_count:W.findIn K (.ref C_Window) "last_count" = some none)
  (na_Window_log:W.findIn K (.ref C_Window) "log" = some none)
  {C_DEEDS:Addr} {es_DEEDS:Array DictEntry} {ep_DEEDS:Nat} {v_DEEDS_move v_DEEDS_part v_DEEDS_join v_DEEDS_carry:Value} (g_DEEDS:W.nsIn K mainGlobals "DEEDS" = some (some (.ref C_DEEDS))) (t_DEEDS:K.lookup C_DEEDS=some ⟨.type "dict",none,.dict es_DEEDS ep_DEEDS, #[]⟩) (e_DEEDS:EntK w es_DEEDS.toList [("put",.ref f_put),("take",.ref f_q46),("move",v_DEEDS_move),("write",.ref f_q45),("part",v_DEEDS_part),("join",v_DEEDS_join),("carry",v_DEEDS_carry)])
  (mro_NoDeed:W.mroIn K C_NoDeed (.ref C_NoDeed)=some true)
  (n_dict:W.nsIn K mainGlobals "dict" = some none)
  (n_enumerate:W.nsIn K mainGlobals "enumerate" = some none)
  (n_len:W.nsIn K mainGlobals "len" = some none)
  (n_list:W.nsIn K mainGlobals "list" = some none)
  (n_min:W.nsIn K mainGlobals "min" = some none)
  (n_range:W.nsIn K mainGlobals "range" = some none)
  (n_set:W.nsIn K mainGlobals "set" = some none)
  (n_sorted:W.nsIn K mainGlobals "sorted" = some none)
  : ∃ fd:FuncData,(∀ (s:Shared) (v:Value),BindsTo s fd ⟨[v],[]⟩ [("_law_script",v)])∧∀ B:Heap,K.In B→B.Ns mainGlobals mg→FnOk l.prog w K mg B (CX1 l.prog w B) 12 fa fd ["_law_script"] (sp_law K):=by
 have e:=hfa.symm.trans (W.mg_of X G a_law)
 cases e
 obtain ⟨oc_law,od_law,kV_law,dc_law,pm_law,an_law,cd_law,ct_law,sl_law,rfl,l_law,c_law⟩:=id F_law.ex
 have T:Txt w K mg ⟨f_q40,d_q40,f_q35,d_q35,f_q43,d_q43,f_q25,d_q25,f_q44,d_q44,f_q26,d_q26,f_q2,d_q2,f_q13,d_q13,f_q18,d_q18,f_q6,d_q6,f_q30,d_q30,f_q14,d_q14,f_q0,d_q0,f_q28,d_q28,f_q15,d_q15,f_q22,d_q22,f_q36,d_q36,f_put,d_put,f_q46,d_q46,f_q45,d_q45,f_q47,d_q47,f_q37,d_q37,f_q7,d_q7,f_q27,d_q27,f_q32,d_q32,f_q41,d_q41,f_q39,d_q39,f_q31,d_q31,f_q17,d_q17,f_q1,d_q1,f_q24,d_q24,f_q3,d_q3,f_q12,d_q12,f_q11,d_q11,f_q4,d_q4,f_q8,d_q8,f_q20,d_q20,f_q21,d_q21,f_q9,d_q9,f_q5,d_q5,f_q10,d_q10,f_q16,d_q16,f_q19,d_q19,f_q29,d_q29,f_q42,d_q42,f_q23,d_q23,f_q34,d_q34,f_q38,d_q38,f_q33,d_q33,fa,_,C_Log,C_NoDeed,C_NoPiece,C_NoRoom,C_NoSheet,C_NoWords,C_Sheet,C_Window,C_DEEDS,v_DEEDS_move,v_DEEDS_part,v_DEEDS_join,v_DEEDS_carry⟩:=⟨F_q40,(W.mg_of X G a_q40),F_q40.kp,(F_q40.binds λ _ _ _ _ _ _ us hl=>by obtain ⟨a0,rfl⟩:=ln_1 hl;rfl),F_q35,(W.mg_of X G a_q35),F_q35.kp,(F_q35.binds λ _ _ _ _ _ _ us hl=>by obtain ⟨a0,a1,rfl⟩:=ln_2 hl;rfl),F_q43,(W.mg_of X G a_q43),F_q43.kp,(F_q43.binds λ _ _ _ _ _ _ us hl=>by obtain ⟨a0,a1,a2,a3,rfl⟩:=ln_4 hl;rfl),F_q25,(W.mg_of X G a_q25),F_q25.kp,(F_q25.binds λ _ _ _ _ _ _ us hl=>by obtain ⟨a0,rfl⟩:=ln_1 hl;rfl),F_q44,(W.mg_of X G a_q44),F_q44.kp,(F_q44.binds λ _ _ _ _ _ _ us hl=>by obtain ⟨a0,rfl⟩:=ln_1 hl;rfl),F_q26,(W.mg_of X G a_q26),F_q26.kp,(F_q26.binds λ _ _ _ _ _ _ us hl=>by obtain ⟨a0,rfl⟩:=ln_1 hl;rfl),F_q2,(F_q2.binds λ _ _ _ _ _ _ us hl=>by obtain ⟨a0,a1,rfl⟩:=ln_2 hl;rfl),⟨mk_Sheet,a_q2,i_q2,kc_Sheet⟩,F_q13,(F_q13.binds λ _ _ _ _ _ _ us hl=>by obtain ⟨a0,rfl⟩:=ln_1 hl;rfl),⟨a_q13,i_q13,F_q13.kp⟩,F_q18,(F_q18.binds λ _ _ _ _ _ _ us hl=>by obtain ⟨a0,rfl⟩:=ln_1 hl;rfl),⟨a_q18,i_q18,F_q18.kp⟩,F_q6,(F_q6.binds λ _ _ _ _ _ _ us hl=>by obtain ⟨a0,a1,rfl⟩:=ln_2 hl;rfl),⟨a_q6,i_q6,F_q6.kp⟩,F_q30,(F_q30.binds λ _ _ _ _ _ _ us hl=>by obtain ⟨a0,a1,rfl⟩:=ln_2 hl;rfl),⟨a_q30,i_q30,F_q30.kp⟩,F_q14,(F_q14.binds λ _ _ _ _ _ _ us hl=>by obtain ⟨a0,a1,rfl⟩:=ln_2 hl;rfl),⟨a_q14,i_q14,F_q14.kp⟩,F_q0,(F_q0.binds λ _ _ _ _ _ _ us hl=>by obtain ⟨a0,a1,a2,rfl⟩:=ln_3 hl;rfl),⟨a_q0,i_q0,F_q0.kp⟩,F_q28,(F_q28.binds λ _ _ _ _ _ _ us hl=>by obtain ⟨a0,a1,a2,rfl⟩:=ln_3 hl;rfl),⟨a_q28,i_q28,F_q28.kp⟩,F_q15,(F_q15.binds λ _ _ _ _ _ _ us hl=>by obtain ⟨a0,a1,rfl⟩:=ln_2 hl;rfl),⟨a_q15,i_q15,F_q15.kp⟩,F_q22,(W.mg_of X G a_q22),F_q22.kp,(F_q22.binds λ _ _ _ _ _ _ us hl=>by obtain ⟨a0,a1,a2,a3,rfl⟩:=ln_4 hl;rfl),F_q36,(W.mg_of X G a_q36),F_q36.kp,(F_q36.binds λ _ _ _ _ _ _ us hl=>by obtain ⟨a0,a1,a2,a3,a4,rfl⟩:=ln_5 hl;rfl),F_put,(W.mg_of X G a_put),F_put.kp,(F_put.binds λ _ _ _ _ _ _ us hl=>by obtain ⟨a0,a1,a2,a3,rfl⟩:=ln_4 hl;rfl),F_q46,(W.mg_of X G a_q46),F_q46.kp,(F_q46.binds λ _ _ _ _ _ _ us hl=>by obtain ⟨a0,a1,a2,a3,rfl⟩:=ln_4 hl;rfl),F_q45,(W.mg_of X G a_q45),F_q45.kp,(F_q45.binds λ _ _ _ _ _ _ us hl=>by obtain ⟨a0,a1,a2,a3,rfl⟩:=ln_4 hl;rfl),F_q47,(W.mg_of X G a_q47),F_q47.kp,(F_q47.binds λ _ _ _ _ _ _ us hl=>by obtain ⟨a0,a1,a2,a3,a4,rfl⟩:=ln_5 hl;rfl),F_q37,(W.mg_of X G a_q37),F_q37.kp,(F_q37.binds λ _ _ _ _ _ _ us hl=>by obtain ⟨a0,a1,rfl⟩:=ln_2 hl;rfl),F_q7,(F_q7.binds λ _ _ _ _ _ _ us hl=>by obtain ⟨a0,rfl⟩:=ln_1 hl;rfl),⟨mk_Log,a_q7,i_q7,kc_Log⟩,F_q27,(F_q27.binds λ _ _ _ _ _ _ us hl=>by obtain ⟨a0,rfl⟩:=ln_1 hl;rfl),⟨a_q27,i_q27,F_q27.kp⟩,F_q32,(F_q32.binds λ _ _ _ _ _ _ us hl=>by obtain ⟨a0,rfl⟩:=ln_1 hl;rfl),⟨a_q32,i_q32,F_q32.kp⟩,F_q41,(F_q41.binds λ _ _ _ _ _ _ us hl=>by obtain ⟨a0,a1,rfl⟩:=ln_2 hl;rfl),⟨a_q41,i_q41,F_q41.kp⟩,F_q39,(F_q39.binds λ _ _ _ _ _ _ us hl=>by obtain ⟨a0,rfl⟩:=ln_1 hl;rfl),⟨a_q39,i_q39,F_q39.kp⟩,F_q31,(F_q31.binds λ _ _ _ _ _ _ us hl=>by obtain ⟨a0,rfl⟩:=ln_1 hl;rfl),⟨a_q31,i_q31,F_q31.kp⟩,F_q17,(F_q17.binds λ _ _ _ _ _ _ us hl=>by obtain ⟨a0,rfl⟩:=ln_1 hl;rfl),⟨a_q17,i_q17,F_q17.kp⟩,F_q1,(F_q1.binds λ _ _ _ _ _ _ us hl=>by obtain ⟨a0,a1,a2,a3,a4,rfl⟩:=ln_5 hl;rfl),⟨mk_Window,a_q1,i_q1,kc_Window⟩,F_q24,(F_q24.binds λ _ _ _ _ _ _ us hl=>by obtain ⟨a0,rfl⟩:=ln_1 hl;rfl),⟨a_q24,i_q24,F_q24.kp⟩,F_q3,(F_q3.binds λ _ _ _ _ _ _ us hl=>by obtain ⟨a0,rfl⟩:=ln_1 hl;rfl),⟨a_q3,i_q3,F_q3.kp⟩,F_q12,(F_q12.binds λ _ _ _ _ _ _ us hl=>by obtain ⟨a0,rfl⟩:=ln_1 hl;rfl),⟨a_q12,i_q12,F_q12.kp⟩,F_q11,(F_q11.binds λ _ _ _ _ _ _ us hl=>by obtain ⟨a0,rfl⟩:=ln_1 hl;rfl),⟨a_q11,i_q11,F_q11.kp⟩,F_q4,(F_q4.binds λ _ _ _ _ _ _ us hl=>by obtain ⟨a0,rfl⟩:=ln_1 hl;rfl),⟨a_q4,i_q4,F_q4.kp⟩,F_q8,(F_q8.binds λ _ _ _ _ _ _ us hl=>by obtain ⟨a0,a1,rfl⟩:=ln_2 hl;rfl),⟨a_q8,i_q8,F_q8.kp⟩,F_q20,(F_q20.binds λ _ _ _ _ _ _ us hl=>by obtain ⟨a0,a1,a2,rfl⟩:=ln_3 hl;rfl),⟨a_q20,i_q20,F_q20.kp⟩,F_q21,(F_q21.binds λ _ _ _ _ _ _ us hl=>by obtain ⟨a0,rfl⟩:=ln_1 hl;rfl),⟨a_q21,i_q21,F_q21.kp⟩,F_q9,(F_q9.binds λ _ _ _ _ _ _ us hl=>by obtain ⟨a0,rfl⟩:=ln_1 hl;rfl),⟨a_q9,i_q9,F_q9.kp⟩,F_q5,(F_q5.binds λ _ _ _ _ _ _ us hl=>by obtain ⟨a0,a1,a2,rfl⟩:=ln_3 hl;rfl),⟨a_q5,i_q5,F_q5.kp⟩,F_q10,(F_q10.binds λ _ _ _ _ _ _ us hl=>by obtain ⟨a0,a1,a2,rfl⟩:=ln_3 hl;rfl),⟨a_q10,i_q10,F_q10.kp⟩,F_q16,(W.mg_of X G a_q16),F_q16.kp,(F_q16.binds λ _ _ _ _ _ _ us hl=>by obtain ⟨a0,a1,rfl⟩:=ln_2 hl;rfl),F_q19,(W.mg_of X G a_q19),F_q19.kp,(F_q19.binds λ _ _ _ _ _ _ us hl=>by obtain ⟨a0,a1,rfl⟩:=ln_2 hl;rfl),F_q29,(W.mg_of X G a_q29),F_q29.kp,(F_q29.binds λ _ _ _ _ _ _ us hl=>by obtain ⟨a0,a1,a2,rfl⟩:=ln_3 hl;rfl),F_q42,(W.mg_of X G a_q42),F_q42.kp,(F_q42.binds λ _ _ _ _ _ _ us hl=>by obtain ⟨a0,a1,a2,rfl⟩:=ln_3 hl;rfl),F_q23,(W.mg_of X G a_q23),F_q23.kp,(F_q23.binds λ _ _ _ _ _ _ us hl=>by obtain ⟨a0,a1,a2,rfl⟩:=ln_3 hl;rfl),F_q34,(W.mg_of X G a_q34),F_q34.kp,(F_q34.binds λ _ _ _ _ _ _ us hl=>by obtain ⟨a0,a1,rfl⟩:=ln_2 hl;rfl),F_q38,(W.mg_of X G a_q38),F_q38.kp,(F_q38.binds λ _ _ _ _ _ _ us hl=>by obtain ⟨a0,a1,a2,a3,rfl⟩:=ln_4 hl;rfl),F_q33,(W.mg_of X G a_q33),F_q33.kp,(F_q33.binds λ _ _ _ _ _ _ us hl=>by obtain ⟨a0,a1,rfl⟩:=ln_2 hl;rfl),F_law,(W.mg_of X G a_law),F_law.kp,(F_law.binds λ _ _ _ _ _ _ us hl=>match us,hl with | [_],_=>rfl),(W.mg_of X G q_Log),⟨pg_Log,hd_Log,po_Log,sa_Log⟩,na_Log_standing,na_Log_undone,(W.mg_of X G q_NoDeed),x_NoDeed,(W.mg_of X G q_NoPiece),x_NoPiece,(W.mg_of X G q_NoRoom),x_NoRoom,(W.mg_of X G q_NoSheet),x_NoSheet,(W.mg_of X G q_NoWords),x_NoWords,(W.mg_of X G q_Sheet),⟨pg_Sheet,hd_Sheet,po_Sheet,sa_Sheet⟩,na_Sheet_versions,(W.mg_of X G q_Window),⟨pg_Window,hd_Window,po_Window,sa_Window⟩,na_Window_number,na_Window_base_save,na_Window_base_sheet,na_Window_draft_sheet,na_Window_last_count,na_Window_log,(W.mg_of X G g_DEEDS),⟨_,_,t_DEEDS,e_DEEDS,(show List.Nodup (["put", "take", "move", "write", "part", "join", "carry"]:List Str) by decide +kernel)⟩,mro_NoDeed,(W.mg_none_of X G n_dict),(W.mg_none_of X G n_enumerate),(W.mg_none_of X G n_len),(W.mg_none_of X G n_list),(W.mg_none_of X G n_min),(W.mg_none_of X G n_range),(W.mg_none_of X G n_set),(W.mg_none_of X G n_sorted)⟩
 refine ⟨W.fnOf "law" "law" (zmg znu) (zse znu) (zea znu) .none kV_law dc_law pm_law an_law cd_law ct_law,λ s v=>.of_eq rfl,λ B _ _=>?_⟩
 have G_q40:=zn2 (P:=l.prog) (w:=w) (B:=B) T
 have G_q35:=zb4 (P:=l.prog) (w:=w) (B:=B) T
 have G_q43:=zw4 (P:=l.prog) (w:=w) (B:=B) T G_q35
 have G_q25:=zm0 (P:=l.prog) (w:=w) (B:=B) T
 have G_q44:=zw0 (P:=l.prog) (w:=w) (B:=B) T
 have G_q26:=zg0 (P:=l.prog) (w:=w) (B:=B) T G_q40
 have G_q2:=zr8 (P:=l.prog) (w:=w) (B:=B) T
 have G_q13:=zz2 (P:=l.prog) (w:=w) (B:=B) T
 have G_q18:=zb3 (P:=l.prog) (w:=w) (B:=B) T G_q44
 have G_q6:=za7 (P:=l.prog) (w:=w) (B:=B) T
 have G_q30:=zd6 (P:=l.prog) (w:=w) (B:=B) T G_q44 G_q6
 have G_q14:=zj4 (P:=l.prog) (w:=w) (B:=B) T G_q6 G_q30
 have G_q0:=zu8 (P:=l.prog) (w:=w) (B:=B) T
 have G_q28:=zv3 (P:=l.prog) (w:=w) (B:=B) T G_q14 G_q0
 have G_q15:=zu4 (P:=l.prog) (w:=w) (B:=B) T G_q2
 have G_q22:=zd1 (P:=l.prog) (w:=w) (B:=B) T G_q43 G_q28
 have G_q36:=zk3 (P:=l.prog) (w:=w) (B:=B) T G_q22
 have G_put:=zc1 (P:=l.prog) (w:=w) (B:=B) T G_q26 G_q36
 have G_q46:=zzz (P:=l.prog) (w:=w) (B:=B) T G_q25 G_q14
 have G_q45:=zd2 (P:=l.prog) (w:=w) (B:=B) T G_q26 G_q14
 have G_q47:=zj5 (P:=l.prog) (w:=w) (B:=B) T G_put G_q46 G_q45
 have G_q37:=zv5 (P:=l.prog) (w:=w) (B:=B) T
 have G_q7:=zd7 (P:=l.prog) (w:=w) (B:=B) T
 have G_q27:=zp1 (P:=l.prog) (w:=w) (B:=B) T
 have G_q32:=zj2 (P:=l.prog) (w:=w) (B:=B) T G_q27
 have G_q41:=zh5 (P:=l.prog) (w:=w) (B:=B) T G_q27
 have G_q39:=zg3 (P:=l.prog) (w:=w) (B:=B) T G_q37
 have G_q31:=zu5 (P:=l.prog) (w:=w) (B:=B) T G_q37
 have G_q17:=zz3 (P:=l.prog) (w:=w) (B:=B) T
 have G_q1:=zo8 (P:=l.prog) (w:=w) (B:=B) T G_q7
 have G_q24:=zb0 (P:=l.prog) (w:=w) (B:=B) T
 have G_q3:=zv8 (P:=l.prog) (w:=w) (B:=B) T
 have G_q12:=ze2 (P:=l.prog) (w:=w) (B:=B) T
 have G_q11:=zm4 (P:=l.prog) (w:=w) (B:=B) T G_q18
 have G_q4:=zx7 (P:=l.prog) (w:=w) (B:=B) T G_q17
 have G_q8:=zz8 (P:=l.prog) (w:=w) (B:=B) T G_q15
 have G_q20:=zs5 (P:=l.prog) (w:=w) (B:=B) T G_q6 G_q47 G_q41 G_q8
 have G_q21:=zw1 (P:=l.prog) (w:=w) (B:=B) T G_q39 G_q8
 have G_q9:=zw7 (P:=l.prog) (w:=w) (B:=B) T G_q31 G_q8
 have G_q5:=zx8 (P:=l.prog) (w:=w) (B:=B) T
 have G_q10:=za2 (P:=l.prog) (w:=w) (B:=B) T G_q32 G_q5
 have G_q16:=zh3 (P:=l.prog) (w:=w) (B:=B) T
 have G_q19:=zbz (P:=l.prog) (w:=w) (B:=B) T G_q39 G_q31 G_q21 G_q9
 have G_q29:=zf1 (P:=l.prog) (w:=w) (B:=B) T G_q2 G_q13 G_q18 G_q24 G_q3 G_q12 G_q11 G_q4 G_q10 G_q19
 have G_q42:=zf4 (P:=l.prog) (w:=w) (B:=B) T G_q18 G_q3 G_q11 G_q20
 have G_q23:=zi4 (P:=l.prog) (w:=w) (B:=B) T G_q18 G_q11 G_q20
 have G_q34:=ze5 (P:=l.prog) (w:=w) (B:=B) T G_q19
 have G_q38:=zz5 (P:=l.prog) (w:=w) (B:=B) T G_q13 G_q18 G_q24 G_q12 G_q11 G_q29 G_q42 G_q23 G_q34
 have G_q33:=zo0 (P:=l.prog) (w:=w) (B:=B) T
 have G_law:=zd5 (P:=l.prog) (w:=w) (B:=B) T G_q2 G_q13 G_q1 G_q12 G_q4 G_q16 G_q19 G_q38 G_q33
 exact G_law
theorem walk {l:W.OpenLaw} {q:Program} {loose:List Str} {XP:(Str→Option Value)→Heap→Prop} {YP:World→Heap→Prop} {d:DefRec} {K:Params→W.Frag} (hn:l.most=some 63) (hdf:d.params.defaults=[])
  (hY:∀ (w:World) (h:Heap),YP w h→(K w.params).In h)
  (F:∀ (w:World) (mg:Str→Option Value) (fa:Addr) (h:Heap),(K w.params).In h→h.Ns mainGlobals mg→mg d.name=some (.ref fa) →
   ∃ fd:FuncData,(∀ (s:Shared) (u:Value),BindsTo s fd ⟨[u],[]⟩ [("_law_script",u)])∧∀ B:Heap,(K w.params).In B→B.Ns mainGlobals mg→FnOk l.prog w (K w.params) mg B (CX1 l.prog w B) 12 fa fd ["_law_script"] (sp_law (K w.params))) :
  W.WalkO q loose XP YP l.row.toRowW d [] (λ f vs=>PySem.call f vs) :=
 zft (n:=63) (k:=12) (x := "_law_script") (sp:=λ w=>sp_law (K w.params)) hn (by decide) hdf ⟨rfl,by decide,by decide⟩ hY F (λ _ _ a ns hl hO hS=>⟨a,ns,rfl,hS,hl,λ _=>rfl,hO.plain⟩)
end My
open PySem PySem.W PyProof.Rows
open Lean in
local macro_rules
 | `(tactic| o_head $H)=>do
  let (hl,hw,hc):=(mkIdent `hl,mkIdent `hw,mkIdent `hc)
  `(tactic| refine PySem.W.holds_open (q:=My.viewQ) (loose:=["DEEDS"]) (Xt:=λ s=>xlAt My.viewQ [] s && recOk (RowW.records PySem.Challenge.rw_twotabs_k35_window_saved.row.toRowW) s) (XP:=XL My.viewQ []) (Yf:=Hook.obs $H) (Ya:=Hook.val $H) (YP:=Hook.says $H) (N:=8990) ?$hl (Hook.of $H) (Hook.keeps $H) (λ s e=>xl_of s (Bool.and_eq_true_iff.mp e).1) XL.keeps (by rfl) (by rfl) (by rfl) (λ s e=>recFacts_of (Bool.and_eq_true_iff.mp e).2) (by rfl) (by assumption) (by decide +kernel) ⟨rfl,rfl,rfl,rfl,rfl,by decide +kernel⟩ ?$hw ?$hc)
local macro_rules | `(tactic| walk_at "fn") => `(tactic| (refine' L2.fun_mk ?l ?c ?k; (case l=>k_is); (case c=>k_is); (case k=>k_is)))
set_option maxRecDepth 100000 in
set_option maxHeartbeats 0 in
theorem PySem.Challenge.cw_twotabs_k35_window_saved_holds : PySem.Challenge.rw_twotabs_k35_window_saved.Holds := by
 w_on;o_law;k_head; (case hw=>w_witness2); (case hl=>exact My.hlQ)
 k_fill
 refine My.walk (l:=PySem.Challenge.rw_twotabs_k35_window_saved) rfl rfl (λ w h Y=>PySem.W.kIn_of Y) ?F
 case F =>
  intro w mg fa h KX G hmg
  refine' My.all_mk KX G hmg ?a_q40 ?F_q40 ?a_q35 ?F_q35 ?a_q43 ?F_q43 ?a_q25 ?F_q25 ?a_q44 ?F_q44 ?a_q26 ?F_q26 ?a_q2 ?i_q2 ?F_q2 ?a_q13 ?i_q13 ?F_q13 ?a_q18 ?i_q18 ?F_q18 ?a_q6 ?i_q6 ?F_q6 ?a_q30 ?i_q30 ?F_q30 ?a_q14 ?i_q14 ?F_q14 ?a_q0 ?i_q0 ?F_q0 ?a_q28 ?i_q28 ?F_q28 ?a_q15 ?i_q15 ?F_q15 ?a_q22 ?F_q22 ?a_q36 ?F_q36 ?a_put ?F_put ?a_q46 ?F_q46 ?a_q45 ?F_q45 ?a_q47 ?F_q47 ?a_q37 ?F_q37 ?a_q7 ?i_q7 ?F_q7 ?a_q27 ?i_q27 ?F_q27 ?a_q32 ?i_q32 ?F_q32 ?a_q41 ?i_q41 ?F_q41 ?a_q39 ?i_q39 ?F_q39 ?a_q31 ?i_q31 ?F_q31 ?a_q17 ?i_q17 ?F_q17 ?a_q1 ?i_q1 ?F_q1 ?a_q24 ?i_q24 ?F_q24 ?a_q3 ?i_q3 ?F_q3 ?a_q12 ?i_q12 ?F_q12 ?a_q11 ?i_q11 ?F_q11 ?a_q4 ?i_q4 ?F_q4 ?a_q8 ?i_q8 ?F_q8 ?a_q20 ?i_q20 ?F_q20 ?a_q21 ?i_q21 ?F_q21 ?a_q9 ?i_q9 ?F_q9 ?a_q5 ?i_q5 ?F_q5 ?a_q10 ?i_q10 ?F_q10 ?a_q16 ?F_q16 ?a_q19 ?F_q19 ?a_q29 ?F_q29 ?a_q42 ?F_q42 ?a_q23 ?F_q23 ?a_q34 ?F_q34 ?a_q38 ?F_q38 ?a_q33 ?F_q33 ?a_law ?F_law ?q_Log ?pg_Log ?hd_Log ?po_Log ?sa_Log ?mk_Log ?kc_Log ?na_Log_standing ?na_Log_undone ?q_NoDeed ?x_NoDeed ?q_NoPiece ?x_NoPiece ?q_NoRoom ?x_NoRoom ?q_NoSheet ?x_NoSheet ?q_NoWords ?x_NoWords ?q_Sheet ?pg_Sheet ?hd_Sheet ?po_Sheet ?sa_Sheet ?mk_Sheet ?kc_Sheet ?na_Sheet_versions ?q_Window ?pg_Window ?hd_Window ?po_Window ?sa_Window ?mk_Window ?kc_Window ?na_Window_number ?na_Window_base_save ?na_Window_base_sheet ?na_Window_draft_sheet ?na_Window_last_count ?na_Window_log ?g_DEEDS ?t_DEEDS ?e_DEEDS ?mro_NoDeed ?n_dict ?n_enumerate ?n_len ?n_list ?n_min ?n_range ?n_set ?n_sorted
  (case q_Log=>k_is)
  (case q_Sheet=>k_is)
  (case q_Window=>k_is)
  (case a_q40=>k_is)
  (case F_q40=>walk_at "fn")
  (case a_q35=>k_is)
  (case F_q35=>walk_at "fn")
  (case a_q43=>k_is)
  (case F_q43=>walk_at "fn")
  (case a_q25=>k_is)
  (case F_q25=>walk_at "fn")
  (case a_q44=>k_is)
  (case F_q44=>walk_at "fn")
  (case a_q26=>k_is)
  (case F_q26=>walk_at "fn")
  (case a_q2=>k_is)
  (case i_q2=>k_is)
  (case F_q2=>walk_at "fn")
  (case a_q13=>k_is)
  (case i_q13=>k_is)
  (case F_q13=>walk_at "fn")
  (case a_q18=>k_is)
  (case i_q18=>k_is)
  (case F_q18=>walk_at "fn")
  (case a_q6=>k_is)
  (case i_q6=>k_is)
  (case F_q6=>walk_at "fn")
  (case a_q30=>k_is)
  (case i_q30=>k_is)
  (case F_q30=>walk_at "fn")
  (case a_q14=>k_is)
  (case i_q14=>k_is)
  (case F_q14=>walk_at "fn")
  (case a_q0=>k_is)
  (case i_q0=>k_is)
  (case F_q0=>walk_at "fn")
  (case a_q28=>k_is)
  (case i_q28=>k_is)
  (case F_q28=>walk_at "fn")
  (case a_q15=>k_is)
  (case i_q15=>k_is)
  (case F_q15=>walk_at "fn")
  (case a_q22=>k_is)
  (case F_q22=>walk_at "fn")
  (case a_q36=>k_is)
  (case F_q36=>walk_at "fn")
  (case a_put=>k_is)
  (case F_put=>walk_at "fn")
  (case a_q46=>k_is)
  (case F_q46=>walk_at "fn")
  (case a_q45=>k_is)
  (case F_q45=>walk_at "fn")
  (case a_q47=>k_is)
  (case F_q47=>walk_at "fn")
  (case a_q37=>k_is)
  (case F_q37=>walk_at "fn")
  (case a_q7=>k_is)
  (case i_q7=>k_is)
  (case F_q7=>walk_at "fn")
  (case a_q27=>k_is)
  (case i_q27=>k_is)
  (case F_q27=>walk_at "fn")
  (case a_q32=>k_is)
  (case i_q32=>k_is)
  (case F_q32=>walk_at "fn")
  (case a_q41=>k_is)
  (case i_q41=>k_is)
  (case F_q41=>walk_at "fn")
  (case a_q39=>k_is)
  (case i_q39=>k_is)
  (case F_q39=>walk_at "fn")
  (case a_q31=>k_is)
  (case i_q31=>k_is)
  (case F_q31=>walk_at "fn")
  (case a_q17=>k_is)
  (case i_q17=>k_is)
  (case F_q17=>walk_at "fn")
  (case a_q1=>k_is)
  (case i_q1=>k_is)
  (case F_q1=>walk_at "fn")
  (case a_q24=>k_is)
  (case i_q24=>k_is)
  (case F_q24=>walk_at "fn")
  (case a_q3=>k_is)
  (case i_q3=>k_is)
  (case F_q3=>walk_at "fn")
  (case a_q12=>k_is)
  (case i_q12=>k_is)
  (case F_q12=>walk_at "fn")
  (case a_q11=>k_is)
  (case i_q11=>k_is)
  (case F_q11=>walk_at "fn")
  (case a_q4=>k_is)
  (case i_q4=>k_is)
  (case F_q4=>walk_at "fn")
  (case a_q8=>k_is)
  (case i_q8=>k_is)
  (case F_q8=>walk_at "fn")
  (case a_q20=>k_is)
  (case i_q20=>k_is)
  (case F_q20=>walk_at "fn")
  (case a_q21=>k_is)
  (case i_q21=>k_is)
  (case F_q21=>walk_at "fn")
  (case a_q9=>k_is)
  (case i_q9=>k_is)
  (case F_q9=>walk_at "fn")
  (case a_q5=>k_is)
  (case i_q5=>k_is)
  (case F_q5=>walk_at "fn")
  (case a_q10=>k_is)
  (case i_q10=>k_is)
  (case F_q10=>walk_at "fn")
  (case a_q16=>k_is)
  (case F_q16=>walk_at "fn")
  (case a_q19=>k_is)
  (case F_q19=>walk_at "fn")
  (case a_q29=>k_is)
  (case F_q29=>walk_at "fn")
  (case a_q42=>k_is)
  (case F_q42=>walk_at "fn")
  (case a_q23=>k_is)
  (case F_q23=>walk_at "fn")
  (case a_q34=>k_is)
  (case F_q34=>walk_at "fn")
  (case a_q38=>k_is)
  (case F_q38=>walk_at "fn")
  (case a_q33=>k_is)
  (case F_q33=>walk_at "fn")
  (case a_law=>k_is)
  (case F_law=>walk_at "fn")
  (case pg_Log=>k_is)
  (case hd_Log=>k_is)
  (case po_Log=>k_is)
  (case sa_Log=>k_is)
  (case mk_Log=>k_is)
  (case kc_Log=>k_is)
  (case na_Log_standing=>k_is)
  (case na_Log_undone=>k_is)
  (case q_NoDeed=>k_is)
  (case x_NoDeed=>refine' L2.XCls.mk ?_ ?_ ?_ ?_ ?_ ?_ ?_ ?_ ?_;all_goals (first | k_is | k_exc))
  (case q_NoPiece=>k_is)
  (case x_NoPiece=>refine' L2.XCls.mk ?_ ?_ ?_ ?_ ?_ ?_ ?_ ?_ ?_;all_goals (first | k_is | k_exc))
  (case q_NoRoom=>k_is)
  (case x_NoRoom=>refine' L2.XCls.mk ?_ ?_ ?_ ?_ ?_ ?_ ?_ ?_ ?_;all_goals (first | k_is | k_exc))
  (case q_NoSheet=>k_is)
  (case x_NoSheet=>refine' L2.XCls.mk ?_ ?_ ?_ ?_ ?_ ?_ ?_ ?_ ?_;all_goals (first | k_is | k_exc))
  (case q_NoWords=>k_is)
  (case x_NoWords=>refine' L2.XCls.mk ?_ ?_ ?_ ?_ ?_ ?_ ?_ ?_ ?_;all_goals (first | k_is | k_exc))
  (case pg_Sheet=>k_is)
  (case hd_Sheet=>k_is)
  (case po_Sheet=>k_is)
  (case sa_Sheet=>k_is)
  (case mk_Sheet=>k_is)
  (case kc_Sheet=>k_is)
  (case na_Sheet_versions=>k_is)
  (case pg_Window=>k_is)
  (case hd_Window=>k_is)
  (case po_Window=>k_is)
  (case sa_Window=>k_is)
  (case mk_Window=>k_is)
  (case kc_Window=>k_is)
  (case na_Window_number=>k_is)
  (case na_Window_base_save=>k_is)
  (case na_Window_base_sheet=>k_is)
  (case na_Window_draft_sheet=>k_is)
  (case na_Window_last_count=>k_is)
  (case na_Window_log=>k_is)
  (case g_DEEDS=>k_is)
  (case t_DEEDS=>k_is)
  (case e_DEEDS=>exact ⟨rfl,⟨_,rfl⟩,rfl,rfl,⟨_,rfl⟩,rfl,rfl,⟨_,rfl⟩,rfl,rfl,⟨_,rfl⟩,rfl,rfl,⟨_,rfl⟩,rfl,rfl,⟨_,rfl⟩,rfl,rfl,⟨_,rfl⟩,rfl,True.intro⟩)
  (case mro_NoDeed=>first | k_is | kit_is)
  (case n_dict=>k_is)
  (case n_enumerate=>k_is)
  (case n_len=>k_is)
  (case n_list=>k_is)
  (case n_min=>k_is)
  (case n_range=>k_is)
  (case n_set=>k_is)
  (case n_sorted=>k_is)
