import PyProof.Rows.All
import Wide.All
import OpenK.AllK
import Wide.FinOn
import Lean
import PyProof.EqAt
import PyProof.EqKinds
import PyProof.TupleCall
import PySem.Challenge.RW_twotabs_k48_slip_rows_spoiled
set_option Elab.async false
set_option linter.all false
set_option genSizeOfSpec false
set_option genSizeOf false
set_option maxRecDepth 100000
namespace My
open PySem PySem.W PyProof.Rows
noncomputable def zmc (tb:String→Option Builtin) (p:Program) (w:World) (n0:Nat) (ann:Option Value):Nat→SharedT→Thread→Option SharedT
 | 0,_,_=>none
 | n+1,s,t=>match through t with
  | true=>some s
  | false=>match stepOk n0 ann t with
   | false=>none
   | true=>match stepT (denote tb) p w s t with
    | some (s',t')=>zmc tb p w n0 ann n s' t'
    | none=>none
theorem zxg {tb:String→Option Builtin} {p:Program} {w:World} {n0:Nat} {ann:Option Value}:∀ {n:Nat} {s s':SharedT} {t:Thread},zmc tb p w n0 ann n s t=some s'→topRun tb p w n0 ann n s.abs t=some s'.abs
 | 0,_,_,_,h=>by cases h
 | n+1,s,s',t,h=>by
  unfold zmc at h
  unfold topRun
  cases he:through t with
  | true=>rw [he] at h;cases h;rfl
  | false =>
   rw [he] at h
   cases hk:stepOk n0 ann t with
   | false=>rw [hk] at h;cases h
   | true =>
    rw [hk] at h
    cases hs:stepT (denote tb) p w s t with
    | none=>rw [hs] at h;cases h
    | some r=>obtain ⟨s2,t2⟩:=r;rw [hs] at h;rw [stepT_spec hs];exact zxg h
noncomputable def treeOf (l:List Obj):BT:=(l.foldl (λ x o=>(x.1.ins x.2 o,x.2+1)) (BT.nil,0)).1
theorem zuk {p q:Program} {loose:List Str} {Xt:Shared→Bool} {α:Type} {Yf:Shared→α} {Ya:World→α} {N:Nat} {g0:Bool} {m0:Nat} {T0:Params→BT} {L0:Params→Life}
  (e:opening p=plainProg p.main.scope.names) (hN:Nat.ble 600 N=true) (f:∀ s,fenceModules? p s=some s)
  (hT:∀ P:Params,absHeap (T0 P) m0 (L0 P)=boot_heap P)
  (size:∀ P:Params,((boot_heap P).isNs mainGlobals,(boot_heap P).objs.size)=(true,m0))
  (all:∀ w:World,(λ os=>(zmc treeTable p w m0 ((boot_heap w.params).nsMap mainGlobals "__annotations__") N ⟨T0 w.params,m0,L0 w.params,Array.mk [],boot_drawn,boot_toks,os⟩ (topStub p)).map λ s=>(λ r:Shared=>((staticsOk (importedModules p.main.body) (boot_heap w.params) r.heap && namesBound p r.heap && gensDone r && laidKept (boot_heap w.params) r.heap),openSeen q loose (importedModules p.main.body) Xt g0 r,Yf r)) s.abs)=λ _=>some (true,openGood q loose,Ya w)) :
  LeftO p q loose Xt Yf Ya N g0:=λ w=>by
 obtain ⟨⟨h,gs,d,k,os⟩,e1,e2⟩:=Option.map_eq_some_iff.mp (boot_open e hN f w)
 obtain ⟨rfl,rfl,rfl,rfl⟩:h=boot_heap w.params∧gs=Array.mk []∧d=boot_drawn∧k=boot_toks:=by simpa using e2
 obtain ⟨z1,z2⟩:_∧_:=by simpa only [Prod.mk.injEq] using size w.params
 obtain ⟨s,h1,h2⟩:=Option.map_eq_some_iff.mp (congrFun (all w) os)
 obtain ⟨l1,l2,l3⟩:_∧_∧_:=by simpa only [Prod.mk.injEq] using h2
 have r:=zxg h1
 have r:topRun treeTable p w m0 ((boot_heap w.params).nsMap mainGlobals "__annotations__") N ⟨boot_heap w.params,Array.mk [],boot_drawn,boot_toks,os⟩ (topStub p)=some s.abs:=by
  have e3:(⟨T0 w.params,m0,L0 w.params,Array.mk [],boot_drawn,boot_toks,os⟩:SharedT).abs=⟨boot_heap w.params,Array.mk [],boot_drawn,boot_toks,os⟩:=by
   show (⟨absHeap (T0 w.params) m0 (L0 w.params),_,_,_,_⟩:Shared)=_
   rw [hT]
  rw [← e3]
  exact r
 have t:topFrom treeTable p w N ⟨boot_heap w.params,Array.mk [],boot_drawn,boot_toks,os⟩=some s.abs:=by
  unfold topFrom
  dsimp only
  rw [z1,z2,r]
  show (match staticsOk (importedModules p.main.body) (boot_heap w.params) s.abs.heap && namesBound p s.abs.heap && gensDone s.abs && laidKept (boot_heap w.params) s.abs.heap with | true=>_ | false=>_)=_
  rw [l1]
 unfold openEnds
 rw [e1]
 show (topFrom treeTable p w N _).map _=_
 rw [t]
 exact congrArg some (Prod.ext l2 l3)
end My
namespace My
open PySem PySem.W PyProof.Rows
abbrev allAt (p q:Program) (loose:List Str) (Xt:Shared→Bool) {α:Type} (Yf:Shared→α) (Ya:World→α) (N:Nat) (g0:Bool) (m0:Nat) (T0:Params→BT) (L0:Params→Life) (w:World):Prop :=
 (λ os=>(zmc treeTable p w m0 ((boot_heap w.params).nsMap mainGlobals "__annotations__") N ⟨T0 w.params,m0,L0 w.params,Array.mk [],boot_drawn,boot_toks,os⟩ (topStub p)).map λ s=>(λ r:Shared=>((staticsOk (importedModules p.main.body) (boot_heap w.params) r.heap && namesBound p r.heap && gensDone r && laidKept (boot_heap w.params) r.heap),openSeen q loose (importedModules p.main.body) Xt g0 r,Yf r)) s.abs)=λ _=>some (true,openGood q loose,Ya w)
theorem left_treeS {p q:Program} {loose:List Str} {Xt:Shared→Bool} {α:Type} {Yf:Shared→α} {Ya:World→α} {N:Nat} {g0:Bool} {m0:Nat} {T0:Params→BT} {L0:Params→Life} (row:String)
  (e:opening p=plainProg p.main.scope.names) (hN:Nat.ble 600 N=true) (f:∀ s,fenceModules? p s=some s)
  (hT:∀ P:Params,absHeap (T0 P) m0 (L0 P)=boot_heap P)
  (size:∀ P:Params,((boot_heap P).isNs mainGlobals,(boot_heap P).objs.size)=(true,m0))
  (hf:∀ w:World,allAt p q loose Xt Yf Ya N g0 m0 T0 L0 (w.withFollow row false)) (ht:∀ w:World,allAt p q loose Xt Yf Ya N g0 m0 T0 L0 (w.withFollow row true)):LeftO p q loose Xt Yf Ya N g0:=by
 refine zuk e hN f hT size λ w=>?_
 have h:allAt p q loose Xt Yf Ya N g0 m0 T0 L0 w:=by
  rw [← World.withFollow_self w row]
  cases w.params.followText row with
  | false=>exact hf w
  | true=>exact ht w
 exact h
end My
namespace My
open PySem PySem.W PyProof.Rows
abbrev at2 (p q:Program) (loose:List Str) (Xt:Shared→Bool) (N:Nat) (g0:Bool) (m0:Nat) (T0:Params→BT) (L0:Params→Life) (w:World):Prop :=
 (λ os=>(zmc treeTable p w m0 ((boot_heap w.params).nsMap mainGlobals "__annotations__") N ⟨T0 w.params,m0,L0 w.params,Array.mk [],boot_drawn,boot_toks,os⟩ (topStub p)).map λ s=>(λ r:Shared=>((staticsOk (importedModules p.main.body) (boot_heap w.params) r.heap && namesBound p r.heap && gensDone r && laidKept (boot_heap w.params) r.heap),(openSeen q loose (importedModules p.main.body) Xt g0 r).1)) s.abs)=λ _=>some (true,(openGood q loose).1)
abbrev at4 (p q:Program) (loose:List Str) (Xt:Shared→Bool) (N:Nat) (g0:Bool) (m0:Nat) (T0:Params→BT) (L0:Params→Life) (w:World):Prop :=
 (λ os=>(zmc treeTable p w m0 ((boot_heap w.params).nsMap mainGlobals "__annotations__") N ⟨T0 w.params,m0,L0 w.params,Array.mk [],boot_drawn,boot_toks,os⟩ (topStub p)).map λ s=>(λ r:Shared=>((openSeen q loose (importedModules p.main.body) Xt g0 r).2.1,(openSeen q loose (importedModules p.main.body) Xt g0 r).2.2.1,(openSeen q loose (importedModules p.main.body) Xt g0 r).2.2.2.1)) s.abs)=λ _=>some ((openGood q loose).2.1,(openGood q loose).2.2.1,(openGood q loose).2.2.2.1)
abbrev at5 (p q:Program) (loose:List Str) (Xt:Shared→Bool) (N:Nat) (g0:Bool) (m0:Nat) (T0:Params→BT) (L0:Params→Life) (w:World):Prop :=
 (λ os=>(zmc treeTable p w m0 ((boot_heap w.params).nsMap mainGlobals "__annotations__") N ⟨T0 w.params,m0,L0 w.params,Array.mk [],boot_drawn,boot_toks,os⟩ (topStub p)).map λ s=>(λ r:Shared=>(openSeen q loose (importedModules p.main.body) Xt g0 r).2.2.2.2) s.abs)=λ _=>some (openGood q loose).2.2.2.2
abbrev at3 (p:Program) {α:Type} (Yf:Shared→α) (Ya:World→α) (N:Nat) (m0:Nat) (T0:Params→BT) (L0:Params→Life) (w:World):Prop :=
 (λ os=>(zmc treeTable p w m0 ((boot_heap w.params).nsMap mainGlobals "__annotations__") N ⟨T0 w.params,m0,L0 w.params,Array.mk [],boot_drawn,boot_toks,os⟩ (topStub p)).map λ s=>(λ r:Shared=>Yf r) s.abs)=λ _=>some (Ya w)
theorem all_of {p q:Program} {loose:List Str} {Xt:Shared→Bool} {α:Type} {Yf:Shared→α} {Ya:World→α} {N:Nat} {g0:Bool} {m0:Nat} {T0:Params→BT} {L0:Params→Life} {w:World} (h2:at2 p q loose Xt N g0 m0 T0 L0 w) (h4:at4 p q loose Xt N g0 m0 T0 L0 w) (h5:at5 p q loose Xt N g0 m0 T0 L0 w) (h3:at3 p Yf Ya N m0 T0 L0 w):allAt p q loose Xt Yf Ya N g0 m0 T0 L0 w:=by
 unfold allAt
 funext os
 have b:=congrFun h2 os
 have c:=congrFun h3 os
 have d:=congrFun h4 os
 have e:=congrFun h5 os
 dsimp only at b c d e ⊢
 cases hX:zmc treeTable p w m0 ((boot_heap w.params).nsMap mainGlobals "__annotations__") N ⟨T0 w.params,m0,L0 w.params,Array.mk [],boot_drawn,boot_toks,os⟩ (topStub p) with
 | none=>rw [hX] at b;cases b
 | some s =>
  rw [hX] at b c d e
  rw [Option.map_some] at b c d e ⊢
  have d:=Option.some.inj d
  have b:=Option.some.inj b
  have hS:openSeen q loose (importedModules p.main.body) Xt g0 s.abs=openGood q loose:=Prod.ext (Prod.ext_iff.mp b).2 (Prod.ext (Prod.ext_iff.mp d).1 (Prod.ext (Prod.ext_iff.mp (Prod.ext_iff.mp d).2).1 (Prod.ext (Prod.ext_iff.mp (Prod.ext_iff.mp d).2).2 (Option.some.inj e))))
  have b1:=(Prod.ext_iff.mp b).1
  dsimp only at b1
  rw [b1,hS,Option.some.inj c]
end My
section
open PySem PySem.W PyProof.Rows
noncomputable def My.viewQ:Program:={ PySem.Challenge.pw_twotabs_k48_slip_rows_spoiled with main:={ PySem.Challenge.pw_twotabs_k48_slip_rows_spoiled.main with body:=[1,2,3,4,5,6,7,8,9,10,12,13,14,15,16,17,18,19,20,22,23,24,25,27,28,29,30,32,33,34,35,36,37,38,39,40,41,42,43,44,45,46,48,49,50,51,52,53,54,55,56,58,59,60,61,62,63,64,65,66,67,68,69,70].filterMap (PySem.Challenge.pw_twotabs_k48_slip_rows_spoiled.main.body[·]?) } }
open Lean in
local macro_rules
 | `(tactic| o_head $H)=>do
  let (hl,hw,hc):=(mkIdent `hl,mkIdent `hw,mkIdent `hc)
  `(tactic| refine W.holds_open (q:=My.viewQ) (loose:=["DEEDS", "SHAPES", "LEAST"]) (Xt:=λ s=>xlAt My.viewQ [] s && recOk (RowW.records PySem.Challenge.rw_twotabs_k48_slip_rows_spoiled.row.toRowW) s) (XP:=XL My.viewQ []) (Yf:=Hook.obs $H) (Ya:=Hook.val $H) (YP:=Hook.says $H) (N:=8438) ?$hl (Hook.of $H) (Hook.keeps $H) (λ s e=>xl_of s (Bool.and_eq_true_iff.mp e).1) XL.keeps (by rfl) (by rfl) (by rfl) (λ s e=>recFacts_of (Bool.and_eq_true_iff.mp e).2) (by rfl) (by assumption) (by decide +kernel) ⟨rfl,rfl,rfl,rfl,rfl,by decide +kernel⟩ ?$hw ?$hc)
local macro_rules | `(tactic| walk_at "fn") => `(tactic| (refine' L2.fun_mk ?l ?c ?k; (case l=>k_is); (case c=>k_is); (case k=>k_is)))
set_option maxRecDepth 100000 in
set_option maxHeartbeats 0 in
theorem My.dummy (hF:False):PySem.Challenge.rw_twotabs_k48_slip_rows_spoiled.Holds:=by
 w_on;o_law;k_head
 all_goals exact hF.elim
set_option maxRecDepth 100000 in
set_option maxHeartbeats 0 in
theorem My.hlb_false (w:World):My.at2 PySem.Challenge.rw_twotabs_k48_slip_rows_spoiled.row.prog My.viewQ ["DEEDS", "SHAPES", "LEAST"] (λ s=>xlAt My.viewQ [] s && recOk (RowW.records PySem.Challenge.rw_twotabs_k48_slip_rows_spoiled.row.toRowW) s) 8438 true 11 (λ P=>My.treeOf (boot_heap P).objs.toList) (λ P=>(boot_heap P).life) (w.withFollow "special-get-raises" false):=by
 kernel_rfl
set_option maxRecDepth 100000 in
set_option maxHeartbeats 0 in
theorem My.hld_false (w:World):My.at4 PySem.Challenge.rw_twotabs_k48_slip_rows_spoiled.row.prog My.viewQ ["DEEDS", "SHAPES", "LEAST"] (λ s=>xlAt My.viewQ [] s && recOk (RowW.records PySem.Challenge.rw_twotabs_k48_slip_rows_spoiled.row.toRowW) s) 8438 true 11 (λ P=>My.treeOf (boot_heap P).objs.toList) (λ P=>(boot_heap P).life) (w.withFollow "special-get-raises" false):=by
 kernel_rfl
set_option maxRecDepth 100000 in
set_option maxHeartbeats 0 in
theorem My.hle_false (w:World):My.at5 PySem.Challenge.rw_twotabs_k48_slip_rows_spoiled.row.prog My.viewQ ["DEEDS", "SHAPES", "LEAST"] (λ s=>xlAt My.viewQ [] s && recOk (RowW.records PySem.Challenge.rw_twotabs_k48_slip_rows_spoiled.row.toRowW) s) 8438 true 11 (λ P=>My.treeOf (boot_heap P).objs.toList) (λ P=>(boot_heap P).life) (w.withFollow "special-get-raises" false):=by
 kernel_rfl
set_option maxRecDepth 100000 in
set_option maxHeartbeats 0 in
theorem My.hlc_false (w:World):My.at3 PySem.Challenge.rw_twotabs_k48_slip_rows_spoiled.row.prog (kHook My.dummy.heap_39 [2,3,15,22,23,24,25,28,35,36,37,40,47,48,49,52,59,60,61,64,71,72,73,76,83,84,85,88,95,96,97,100,107,108,109,112,119,120,121,124,131,132,133,136,138,139,141,142,143,146,147,148,150,151,153,154,155,157,158,160,161,162,164,165,167,168,169,172,173,174,176,177,179,180,181,183,184,186,187,188,190,191,193,194,195,198,199,200,202,203,205,206,207,209,210,212,213,214,216,217,219,220,221,222,224,225,227,228,229,231,232,234,235,236,238,239,241,242,243,245,246,248,249,250,252,253,255,256,257,259,260,262,263,264,266,267,269,270,271,273,274,276,277,278,280,281,283,284,285,287,288,290,291,292,294,295,297,298,299,301,302,304,305,306,308,309,311,312,313,316,317,318,319,320,321,322,323,324,325,326,327,328,329,330,331,332,333,334,335,336,337,338,340,341,343,344,345,348,349,350,352,353,355,356,357,359,360,362,363,364,366,367,369,370,371,373,374,376,377,378,380,381,383,384,385,387,388,390,391,392,394,395,397,398,399,401,402,404,405,406,409,410,411,413,414,416,417,418,420,421,423,424,425,427,428,430,431,432,434,435,437,438,439,441,442,444,445,446,448,449,451,452,453,455,456,458,459] (λ _=>rfl)).obs (kHook My.dummy.heap_39 [2,3,15,22,23,24,25,28,35,36,37,40,47,48,49,52,59,60,61,64,71,72,73,76,83,84,85,88,95,96,97,100,107,108,109,112,119,120,121,124,131,132,133,136,138,139,141,142,143,146,147,148,150,151,153,154,155,157,158,160,161,162,164,165,167,168,169,172,173,174,176,177,179,180,181,183,184,186,187,188,190,191,193,194,195,198,199,200,202,203,205,206,207,209,210,212,213,214,216,217,219,220,221,222,224,225,227,228,229,231,232,234,235,236,238,239,241,242,243,245,246,248,249,250,252,253,255,256,257,259,260,262,263,264,266,267,269,270,271,273,274,276,277,278,280,281,283,284,285,287,288,290,291,292,294,295,297,298,299,301,302,304,305,306,308,309,311,312,313,316,317,318,319,320,321,322,323,324,325,326,327,328,329,330,331,332,333,334,335,336,337,338,340,341,343,344,345,348,349,350,352,353,355,356,357,359,360,362,363,364,366,367,369,370,371,373,374,376,377,378,380,381,383,384,385,387,388,390,391,392,394,395,397,398,399,401,402,404,405,406,409,410,411,413,414,416,417,418,420,421,423,424,425,427,428,430,431,432,434,435,437,438,439,441,442,444,445,446,448,449,451,452,453,455,456,458,459] (λ _=>rfl)).val 8438 11 (λ P=>My.treeOf (boot_heap P).objs.toList) (λ P=>(boot_heap P).life) (w.withFollow "special-get-raises" false):=by
 kernel_rfl
theorem My.hl_false (w:World):My.allAt PySem.Challenge.rw_twotabs_k48_slip_rows_spoiled.row.prog My.viewQ ["DEEDS", "SHAPES", "LEAST"] (λ s=>xlAt My.viewQ [] s && recOk (RowW.records PySem.Challenge.rw_twotabs_k48_slip_rows_spoiled.row.toRowW) s) (kHook My.dummy.heap_39 [2,3,15,22,23,24,25,28,35,36,37,40,47,48,49,52,59,60,61,64,71,72,73,76,83,84,85,88,95,96,97,100,107,108,109,112,119,120,121,124,131,132,133,136,138,139,141,142,143,146,147,148,150,151,153,154,155,157,158,160,161,162,164,165,167,168,169,172,173,174,176,177,179,180,181,183,184,186,187,188,190,191,193,194,195,198,199,200,202,203,205,206,207,209,210,212,213,214,216,217,219,220,221,222,224,225,227,228,229,231,232,234,235,236,238,239,241,242,243,245,246,248,249,250,252,253,255,256,257,259,260,262,263,264,266,267,269,270,271,273,274,276,277,278,280,281,283,284,285,287,288,290,291,292,294,295,297,298,299,301,302,304,305,306,308,309,311,312,313,316,317,318,319,320,321,322,323,324,325,326,327,328,329,330,331,332,333,334,335,336,337,338,340,341,343,344,345,348,349,350,352,353,355,356,357,359,360,362,363,364,366,367,369,370,371,373,374,376,377,378,380,381,383,384,385,387,388,390,391,392,394,395,397,398,399,401,402,404,405,406,409,410,411,413,414,416,417,418,420,421,423,424,425,427,428,430,431,432,434,435,437,438,439,441,442,444,445,446,448,449,451,452,453,455,456,458,459] (λ _=>rfl)).obs (kHook My.dummy.heap_39 [2,3,15,22,23,24,25,28,35,36,37,40,47,48,49,52,59,60,61,64,71,72,73,76,83,84,85,88,95,96,97,100,107,108,109,112,119,120,121,124,131,132,133,136,138,139,141,142,143,146,147,148,150,151,153,154,155,157,158,160,161,162,164,165,167,168,169,172,173,174,176,177,179,180,181,183,184,186,187,188,190,191,193,194,195,198,199,200,202,203,205,206,207,209,210,212,213,214,216,217,219,220,221,222,224,225,227,228,229,231,232,234,235,236,238,239,241,242,243,245,246,248,249,250,252,253,255,256,257,259,260,262,263,264,266,267,269,270,271,273,274,276,277,278,280,281,283,284,285,287,288,290,291,292,294,295,297,298,299,301,302,304,305,306,308,309,311,312,313,316,317,318,319,320,321,322,323,324,325,326,327,328,329,330,331,332,333,334,335,336,337,338,340,341,343,344,345,348,349,350,352,353,355,356,357,359,360,362,363,364,366,367,369,370,371,373,374,376,377,378,380,381,383,384,385,387,388,390,391,392,394,395,397,398,399,401,402,404,405,406,409,410,411,413,414,416,417,418,420,421,423,424,425,427,428,430,431,432,434,435,437,438,439,441,442,444,445,446,448,449,451,452,453,455,456,458,459] (λ _=>rfl)).val 8438 true 11 (λ P=>My.treeOf (boot_heap P).objs.toList) (λ P=>(boot_heap P).life) (w.withFollow "special-get-raises" false):=My.all_of (My.hlb_false w) (My.hld_false w) (My.hle_false w) (My.hlc_false w)
set_option maxRecDepth 100000 in
set_option maxHeartbeats 0 in
theorem My.hlb_true (w:World):My.at2 PySem.Challenge.rw_twotabs_k48_slip_rows_spoiled.row.prog My.viewQ ["DEEDS", "SHAPES", "LEAST"] (λ s=>xlAt My.viewQ [] s && recOk (RowW.records PySem.Challenge.rw_twotabs_k48_slip_rows_spoiled.row.toRowW) s) 8438 true 11 (λ P=>My.treeOf (boot_heap P).objs.toList) (λ P=>(boot_heap P).life) (w.withFollow "special-get-raises" true):=by
 kernel_rfl
set_option maxRecDepth 100000 in
set_option maxHeartbeats 0 in
theorem My.hld_true (w:World):My.at4 PySem.Challenge.rw_twotabs_k48_slip_rows_spoiled.row.prog My.viewQ ["DEEDS", "SHAPES", "LEAST"] (λ s=>xlAt My.viewQ [] s && recOk (RowW.records PySem.Challenge.rw_twotabs_k48_slip_rows_spoiled.row.toRowW) s) 8438 true 11 (λ P=>My.treeOf (boot_heap P).objs.toList) (λ P=>(boot_heap P).life) (w.withFollow "special-get-raises" true):=by
 kernel_rfl
set_option maxRecDepth 100000 in
set_option maxHeartbeats 0 in
theorem My.hle_true (w:World):My.at5 PySem.Challenge.rw_twotabs_k48_slip_rows_spoiled.row.prog My.viewQ ["DEEDS", "SHAPES", "LEAST"] (λ s=>xlAt My.viewQ [] s && recOk (RowW.records PySem.Challenge.rw_twotabs_k48_slip_rows_spoiled.row.toRowW) s) 8438 true 11 (λ P=>My.treeOf (boot_heap P).objs.toList) (λ P=>(boot_heap P).life) (w.withFollow "special-get-raises" true):=by
 kernel_rfl
set_option maxRecDepth 100000 in
set_option maxHeartbeats 0 in
theorem My.hlc_true (w:World):My.at3 PySem.Challenge.rw_twotabs_k48_slip_rows_spoiled.row.prog (kHook My.dummy.heap_39 [2,3,15,22,23,24,25,28,35,36,37,40,47,48,49,52,59,60,61,64,71,72,73,76,83,84,85,88,95,96,97,100,107,108,109,112,119,120,121,124,131,132,133,136,138,139,141,142,143,146,147,148,150,151,153,154,155,157,158,160,161,162,164,165,167,168,169,172,173,174,176,177,179,180,181,183,184,186,187,188,190,191,193,194,195,198,199,200,202,203,205,206,207,209,210,212,213,214,216,217,219,220,221,222,224,225,227,228,229,231,232,234,235,236,238,239,241,242,243,245,246,248,249,250,252,253,255,256,257,259,260,262,263,264,266,267,269,270,271,273,274,276,277,278,280,281,283,284,285,287,288,290,291,292,294,295,297,298,299,301,302,304,305,306,308,309,311,312,313,316,317,318,319,320,321,322,323,324,325,326,327,328,329,330,331,332,333,334,335,336,337,338,340,341,343,344,345,348,349,350,352,353,355,356,357,359,360,362,363,364,366,367,369,370,371,373,374,376,377,378,380,381,383,384,385,387,388,390,391,392,394,395,397,398,399,401,402,404,405,406,409,410,411,413,414,416,417,418,420,421,423,424,425,427,428,430,431,432,434,435,437,438,439,441,442,444,445,446,448,449,451,452,453,455,456,458,459] (λ _=>rfl)).obs (kHook My.dummy.heap_39 [2,3,15,22,23,24,25,28,35,36,37,40,47,48,49,52,59,60,61,64,71,72,73,76,83,84,85,88,95,96,97,100,107,108,109,112,119,120,121,124,131,132,133,136,138,139,141,142,143,146,147,148,150,151,153,154,155,157,158,160,161,162,164,165,167,168,169,172,173,174,176,177,179,180,181,183,184,186,187,188,190,191,193,194,195,198,199,200,202,203,205,206,207,209,210,212,213,214,216,217,219,220,221,222,224,225,227,228,229,231,232,234,235,236,238,239,241,242,243,245,246,248,249,250,252,253,255,256,257,259,260,262,263,264,266,267,269,270,271,273,274,276,277,278,280,281,283,284,285,287,288,290,291,292,294,295,297,298,299,301,302,304,305,306,308,309,311,312,313,316,317,318,319,320,321,322,323,324,325,326,327,328,329,330,331,332,333,334,335,336,337,338,340,341,343,344,345,348,349,350,352,353,355,356,357,359,360,362,363,364,366,367,369,370,371,373,374,376,377,378,380,381,383,384,385,387,388,390,391,392,394,395,397,398,399,401,402,404,405,406,409,410,411,413,414,416,417,418,420,421,423,424,425,427,428,430,431,432,434,435,437,438,439,441,442,444,445,446,448,449,451,452,453,455,456,458,459] (λ _=>rfl)).val 8438 11 (λ P=>My.treeOf (boot_heap P).objs.toList) (λ P=>(boot_heap P).life) (w.withFollow "special-get-raises" true):=by
 kernel_rfl
theorem My.hl_true (w:World):My.allAt PySem.Challenge.rw_twotabs_k48_slip_rows_spoiled.row.prog My.viewQ ["DEEDS", "SHAPES", "LEAST"] (λ s=>xlAt My.viewQ [] s && recOk (RowW.records PySem.Challenge.rw_twotabs_k48_slip_rows_spoiled.row.toRowW) s) (kHook My.dummy.heap_39 [2,3,15,22,23,24,25,28,35,36,37,40,47,48,49,52,59,60,61,64,71,72,73,76,83,84,85,88,95,96,97,100,107,108,109,112,119,120,121,124,131,132,133,136,138,139,141,142,143,146,147,148,150,151,153,154,155,157,158,160,161,162,164,165,167,168,169,172,173,174,176,177,179,180,181,183,184,186,187,188,190,191,193,194,195,198,199,200,202,203,205,206,207,209,210,212,213,214,216,217,219,220,221,222,224,225,227,228,229,231,232,234,235,236,238,239,241,242,243,245,246,248,249,250,252,253,255,256,257,259,260,262,263,264,266,267,269,270,271,273,274,276,277,278,280,281,283,284,285,287,288,290,291,292,294,295,297,298,299,301,302,304,305,306,308,309,311,312,313,316,317,318,319,320,321,322,323,324,325,326,327,328,329,330,331,332,333,334,335,336,337,338,340,341,343,344,345,348,349,350,352,353,355,356,357,359,360,362,363,364,366,367,369,370,371,373,374,376,377,378,380,381,383,384,385,387,388,390,391,392,394,395,397,398,399,401,402,404,405,406,409,410,411,413,414,416,417,418,420,421,423,424,425,427,428,430,431,432,434,435,437,438,439,441,442,444,445,446,448,449,451,452,453,455,456,458,459] (λ _=>rfl)).obs (kHook My.dummy.heap_39 [2,3,15,22,23,24,25,28,35,36,37,40,47,48,49,52,59,60,61,64,71,72,73,76,83,84,85,88,95,96,97,100,107,108,109,112,119,120,121,124,131,132,133,136,138,139,141,142,143,146,147,148,150,151,153,154,155,157,158,160,161,162,164,165,167,168,169,172,173,174,176,177,179,180,181,183,184,186,187,188,190,191,193,194,195,198,199,200,202,203,205,206,207,209,210,212,213,214,216,217,219,220,221,222,224,225,227,228,229,231,232,234,235,236,238,239,241,242,243,245,246,248,249,250,252,253,255,256,257,259,260,262,263,264,266,267,269,270,271,273,274,276,277,278,280,281,283,284,285,287,288,290,291,292,294,295,297,298,299,301,302,304,305,306,308,309,311,312,313,316,317,318,319,320,321,322,323,324,325,326,327,328,329,330,331,332,333,334,335,336,337,338,340,341,343,344,345,348,349,350,352,353,355,356,357,359,360,362,363,364,366,367,369,370,371,373,374,376,377,378,380,381,383,384,385,387,388,390,391,392,394,395,397,398,399,401,402,404,405,406,409,410,411,413,414,416,417,418,420,421,423,424,425,427,428,430,431,432,434,435,437,438,439,441,442,444,445,446,448,449,451,452,453,455,456,458,459] (λ _=>rfl)).val 8438 true 11 (λ P=>My.treeOf (boot_heap P).objs.toList) (λ P=>(boot_heap P).life) (w.withFollow "special-get-raises" true):=My.all_of (My.hlb_true w) (My.hld_true w) (My.hle_true w) (My.hlc_true w)
set_option maxRecDepth 100000 in
set_option maxHeartbeats 0 in
theorem My.hlQ:LeftO PySem.Challenge.rw_twotabs_k48_slip_rows_spoiled.row.prog My.viewQ ["DEEDS", "SHAPES", "LEAST"] (λ s=>xlAt My.viewQ [] s && recOk (RowW.records PySem.Challenge.rw_twotabs_k48_slip_rows_spoiled.row.toRowW) s) (kHook My.dummy.heap_39 [2,3,15,22,23,24,25,28,35,36,37,40,47,48,49,52,59,60,61,64,71,72,73,76,83,84,85,88,95,96,97,100,107,108,109,112,119,120,121,124,131,132,133,136,138,139,141,142,143,146,147,148,150,151,153,154,155,157,158,160,161,162,164,165,167,168,169,172,173,174,176,177,179,180,181,183,184,186,187,188,190,191,193,194,195,198,199,200,202,203,205,206,207,209,210,212,213,214,216,217,219,220,221,222,224,225,227,228,229,231,232,234,235,236,238,239,241,242,243,245,246,248,249,250,252,253,255,256,257,259,260,262,263,264,266,267,269,270,271,273,274,276,277,278,280,281,283,284,285,287,288,290,291,292,294,295,297,298,299,301,302,304,305,306,308,309,311,312,313,316,317,318,319,320,321,322,323,324,325,326,327,328,329,330,331,332,333,334,335,336,337,338,340,341,343,344,345,348,349,350,352,353,355,356,357,359,360,362,363,364,366,367,369,370,371,373,374,376,377,378,380,381,383,384,385,387,388,390,391,392,394,395,397,398,399,401,402,404,405,406,409,410,411,413,414,416,417,418,420,421,423,424,425,427,428,430,431,432,434,435,437,438,439,441,442,444,445,446,448,449,451,452,453,455,456,458,459] (λ _=>rfl)).obs (kHook My.dummy.heap_39 [2,3,15,22,23,24,25,28,35,36,37,40,47,48,49,52,59,60,61,64,71,72,73,76,83,84,85,88,95,96,97,100,107,108,109,112,119,120,121,124,131,132,133,136,138,139,141,142,143,146,147,148,150,151,153,154,155,157,158,160,161,162,164,165,167,168,169,172,173,174,176,177,179,180,181,183,184,186,187,188,190,191,193,194,195,198,199,200,202,203,205,206,207,209,210,212,213,214,216,217,219,220,221,222,224,225,227,228,229,231,232,234,235,236,238,239,241,242,243,245,246,248,249,250,252,253,255,256,257,259,260,262,263,264,266,267,269,270,271,273,274,276,277,278,280,281,283,284,285,287,288,290,291,292,294,295,297,298,299,301,302,304,305,306,308,309,311,312,313,316,317,318,319,320,321,322,323,324,325,326,327,328,329,330,331,332,333,334,335,336,337,338,340,341,343,344,345,348,349,350,352,353,355,356,357,359,360,362,363,364,366,367,369,370,371,373,374,376,377,378,380,381,383,384,385,387,388,390,391,392,394,395,397,398,399,401,402,404,405,406,409,410,411,413,414,416,417,418,420,421,423,424,425,427,428,430,431,432,434,435,437,438,439,441,442,444,445,446,448,449,451,452,453,455,456,458,459] (λ _=>rfl)).val 8438:=by
 exact My.left_treeS "special-get-raises" (m0:=11) (T0:=λ P=>My.treeOf (boot_heap P).objs.toList) (L0:=λ P=>(boot_heap P).life) (by kernel_rfl) (by kernel_rfl) (λ s=>by kernel_rfl) (λ P=>by kernel_rfl) (λ P=>by kernel_rfl) My.hl_false My.hl_true
end
namespace L2
open PySem PySem.Spec PyProof.Rows
noncomputable abbrev Key:=Sum Int Str
noncomputable def zfu:Key→Value→Bool
 | .inl k,v=>Value.isInt k v
 | .inr x,v=>Value.isStrOf x v
noncomputable def keyH (w:World):Key→Int
 | .inl k=>hashInt k
 | .inr x=>hashStr w x
theorem zdb:∀ {k:Key} {v:Value},zfu k v=true→(∃ i t,k=Sum.inl i∧v=Value.int i t) ∨ (∃ x t,k=Sum.inr x∧v=Value.str x t)
 | .inl i,v,h=>by
  obtain ⟨t,e⟩:=Value.isInt_shape (k:=i) (v:=v) h
  exact .inl ⟨i,t,rfl,e⟩
 | .inr x,v,h=>by
  obtain ⟨t,e⟩:=Value.isStrOf_shape (x:=x) (v:=v) h
  exact .inr ⟨x,t,rfl,e⟩
theorem zss (a b:Int):decide ((Sum.inl a:Key)=Sum.inl b)=(a == b):=by
 by_cases e:a=b
 ·subst e;simp
 ·have h:¬ (Sum.inl a:Key)=Sum.inl b:=λ q=>e (Sum.inl.inj q)
  rw [decide_eq_false h]
  exact (beq_eq_false_iff_ne.mpr e).symm
theorem zrq (a b:Str):decide ((Sum.inr a:Key)=Sum.inr b)=decide (a=b):=by
 by_cases e:a=b
 ·subst e;simp
 ·have h:¬ (Sum.inr a:Key)=Sum.inr b:=λ q=>e (Sum.inr.inj q)
  rw [decide_eq_false h,decide_eq_false e]
theorem zwt (a:Int) (b:Str):decide ((Sum.inl a:Key)=Sum.inr b)=false:=decide_eq_false (λ q=>nomatch q)
theorem zoq (a:Str) (b:Int):decide ((Sum.inr a:Key)=Sum.inl b)=false:=decide_eq_false (λ q=>nomatch q)
noncomputable def zul (prog:Program) (w:World):PySem.KeyKind prog w Key where
 is:=zfu
 hash:=keyH w
 inj:=λ v a b ha hb=>by
  rcases zdb ha with ⟨i,t,rfl,rfl⟩ | ⟨x,t,rfl,rfl⟩
  ·rcases zdb hb with ⟨j,u,rfl,e⟩ | ⟨y,u,rfl,e⟩
   ·injection e with e1 _;rw [e1]
   ·exact nomatch e
  ·rcases zdb hb with ⟨j,u,rfl,e⟩ | ⟨y,u,rfl,e⟩
   ·exact nomatch e
   ·injection e with e1 _;rw [e1]
 byValue:=λ k v h=>by
  rcases zdb h with ⟨i,t,rfl,rfl⟩ | ⟨x,t,rfl,rfl⟩ <;> rfl
 pyHash:=λ hv h=>by
  rcases zdb hv with ⟨i,t,rfl,rfl⟩ | ⟨x,t,rfl,rfl⟩
  ·exact wpAny_pyHash_int h
  ·exact wpAny_pyHash_str h
 eqBool:=λ hu hv h=>by
  rcases zdb hu with ⟨i,t,rfl,rfl⟩ | ⟨x,t,rfl,rfl⟩
  ·rcases zdb hv with ⟨j,u,rfl,rfl⟩ | ⟨y,u,rfl,rfl⟩
   ·rw [zss] at h;exact wpAny_eqBool_int h
   ·rw [zwt] at h;exact SeqAt.EqAt.int_str i t y u _ _ _ _ h
  ·rcases zdb hv with ⟨j,u,rfl,rfl⟩ | ⟨y,u,rfl,rfl⟩
   ·rw [zoq] at h;exact SeqAt.EqAt.str_int x t j u _ _ _ _ h
   ·rw [zrq] at h;exact wpAny_eqBool_str h
 «strs» := λ k x t v h=>by
  rcases zdb h with ⟨i,u,rfl,e⟩ | ⟨y,u,rfl,e⟩
  ·exact nomatch e
  ·injection e with e1 _
   subst e1
   cases v <;> rfl
end L2
namespace L2
open PySem PySem.Spec PyProof.Rows
inductive V where
 | non | bl (b:Bool) | int (i:Int) | str (x:Str) | byt (b:Array UInt8) | flt (b:UInt64) | ref (a:Addr) | ty (n:String)
 deriving DecidableEq
noncomputable def RelV:V→Value→Prop
 | .non,u=>u=Value.none
 | .bl b,u=>u=Value.bool b
 | .int i,u=>∃ t,u=Value.int i t
 | .str x,u=>∃ t,u=Value.str x t
 | .byt b,u=>∃ t,u=Value.bytes b t
 | .flt b,u=>∃ t,u=Value.float b t
 | .ref a,u=>u=Value.ref a
 | .ty n,u=>u=Value.type n
noncomputable abbrev Vals:List V→List Value→Prop:=Paired RelV
theorem Vals.length {xs:List V} {us:List Value} (r:Vals xs us):xs.length=us.length:=Paired.length r
theorem Vals.get:∀ {xs:List V} {us:List Value} {i:Nat} {x:V},Vals xs us→xs[i]? = some x→∃ u,us[i]? = some u∧RelV x u
 | _,_,_,_,.nil,e=>by simp at e
 | _,_,0,_,.cons r _,e=>by simp at e;subst e;exact ⟨_,rfl,r⟩
 | _,_,i+1,x,.cons _ t,e=>by
  obtain ⟨u,h1,h2⟩:=Vals.get (i:=i) (x:=x) t (by simpa using e)
  exact ⟨u,by simpa using h1,h2⟩
theorem Vals.append:∀ {xs ys:List V} {us ws:List Value},Vals xs us→Vals ys ws→Vals (xs++ys) (us++ws)
 | _,_,_,_,.nil,s=>s
 | _,_,_,_,.cons r t,s=>.cons r (Vals.append t s)
theorem Vals.take:∀ {xs:List V} {us:List Value} (n:Nat),Vals xs us→Vals (xs.take n) (us.take n)
 | _,_,0,_=>.nil
 | _,_,_+1,.nil=>.nil
 | _,_,n+1,.cons r t=>.cons r (Vals.take n t)
theorem Vals.drop:∀ {xs:List V} {us:List Value} (n:Nat),Vals xs us→Vals (xs.drop n) (us.drop n)
 | _,_,0,r=>r
 | _,_,_+1,.nil=>.nil
 | _,_,n+1,.cons _ t=>Vals.drop n t
noncomputable def RelO:Option V→Option Value→Prop
 | some v,some u=>RelV v u
 | none,none=>True
 | _,_=>False
noncomputable def KV {κ:Type}:List (κ×V)→List (κ×Value)→Prop:=Paired λ (p:κ×V) (q:κ×Value)=>p.1=q.1∧RelV p.2 q.2
noncomputable def kV:Key→V
 | .inl i=>.int i
 | .inr x=>.str x
inductive HO where
 | lst (xs:List V)
 | tup (xs:List V)
 | dK (kvs:List (Key×V)) | dT (kvs:List (List Key×V))
 | set (S:Int→Bool) (n:Nat)
 | ins (C dx:Addr) (fs:List (Str×V))
 | own (x:Addr)
 | xd (fs:List (Str×V))
 | met (f x:Addr)
 | rng (lo hi:Int)
 | frz (o:Obj) (u:HO)
 | tbl (ps:Array Value)
 | ext (φ:Heap→Prop)
noncomputable abbrev Hp:=Addr→Option HO
noncomputable def upd (H:Hp) (a:Addr) (o:HO):Hp:=λ b=>if b=a then some o else H b
theorem upd_same {H:Hp} {a:Addr} {o:HO}:upd H a o a=some o:=by unfold upd;rw [if_pos rfl]
theorem zwa {H:Hp} {a b:Addr} {o:HO} (h:b≠a):upd H a o b=H b:=by unfold upd;rw [if_neg h]
theorem zrp {H:Hp} {a:Addr} {o u:HO}:upd (upd H a o) a u=upd H a u:=by
 funext b;unfold upd;split <;> rfl
theorem zju {H:Hp} {a b:Addr} {o u:HO} (h:H a=some o) (h':H b=some u) (d:o≠u):a≠b:=by
 intro e;subst e;rw [h] at h';exact d (Option.some.inj h')
theorem zhb {H:Hp} {a b:Addr} {o:HO} (h:H a=some o) (h':H b=none):a≠b:=by
 intro e;subst e;rw [h] at h';cases h'
section
variable (P:Program) (w:World)
noncomputable def ObjOk (H:Hp) (h:Heap) (a:Addr):HO→Prop
 | .lst xs=>xs.length≤sizeLine∧∃ (its:List Value) (n:Nat),Vals xs its∧h.get? a=some { cls := .type "list",data := .seq its.toArray n }
 | .tup xs=>xs.length≤sizeLine∧∃ its:List Value,Vals xs its∧IsTup h a its.toArray
 | .dK kvs=>kvs.length≤sizeLine∧(a == sysModules)=false∧∃ vs,KV kvs vs∧h.DictOf (zul P w) a vs
 | .dT kvs=>kvs.length≤sizeLine∧(a == sysModules)=false∧∃ xs:List (List Key×Addr×Value),
   Paired (λ (p:List Key×V) (q:List Key×Addr×Value)=>p.1=q.1∧H q.2.1=some (.tup (p.1.map kV))∧RelV p.2 q.2.2) kvs xs ∧
   ∃ o es ep,h.get? a=some o∧o.ExactDict∧o.data = .dict es ep∧es.toList=xs.map (entryOfKey (tupleKind (zul P w)))∧(xs.map (·.1)).Nodup
 | .set S n=>h.SetOf (intKind P w) a S n
 | .ins C dx fs=>H dx=some (.own a)∧fs.length≤1000∧dx≠a∧h.get? a=some (W.instObj C dx) ∧
   ∃ mA,h.Ns1 dx mA∧(∀ f,RelO (fs.lookup f) (mA f))∧PySem.Within mA (fs.map (·.1))
 | .own _=>∃ o,h.get? a=some o
 | .xd fs=>∃ mA,h.Ns1 a mA∧∀ f,RelO (fs.lookup f) (mA f)
 | .rng lo hi=>∃ t u v,h.get? a=some { cls := .type "range",data := .fields #[.int lo t,.int hi u,.int 1 v] }
 | .frz o u=>h.get? a=some o∧ObjOk H h a u
 | .tbl ps=>h.get? a=some { cls := .none,data := .fields ps }
 | .met f x=>h.get? a=some (W.methodObj (.ref f) (.ref x))
 | .ext φ=>φ h∧(∃ o,h.get? a=some o)∧∀ h1 h2:Heap,φ h1→(∀ o,h1.get? a=some o→h2.get? a=some o)→φ h2
noncomputable def HOk (H:Hp) (h:Heap):Prop:=∀ a o,H a=some o→ObjOk P w H h a o
end
section
variable {P:Program} {w:World} {H H':Hp} {h h':Heap} {a:Addr} {o:HO}
theorem ObjOk.lt (x:ObjOk P w H h a o):a<h.objs.size:=by
 cases o with
 | lst xs=>obtain ⟨_,_,_,_,e⟩:=x;exact Heap.lt_size e
 | tup xs=>obtain ⟨_,_,_,p⟩:=x;exact p.lt
 | dK kvs=>obtain ⟨_,_,_,_,o,_,_,e,_⟩:=x;exact Heap.lt_size e
 | dT kvs=>obtain ⟨_,_,_,_,o,_,_,e,_⟩:=x;exact Heap.lt_size e
 | set S n=>obtain ⟨o,_,_,_,e,_⟩:=x;exact Heap.lt_size e
 | ins C dx fs=>obtain ⟨_,_,_,e,_⟩:=x;exact Heap.lt_size e
 | own y=>obtain ⟨_,e⟩:=x;exact Heap.lt_size e
 | xd fs=>obtain ⟨_,⟨_,_,_,e,_⟩,_⟩:=x;exact Heap.lt_size e
 | rng lo hi=>obtain ⟨_,_,_,e⟩:=x;exact Heap.lt_size e
 | frz ob u=>obtain ⟨e,_⟩:=x;exact Heap.lt_size e
 | tbl ps=>exact Heap.lt_size (show h.get? a=some _ from x)
 | met f y=>exact Heap.lt_size (show h.get? a=some _ from x)
 | ext φ=>obtain ⟨_,⟨_,e⟩,_⟩:=x;exact Heap.lt_size e
theorem Paired.mapP {α β:Type} {F G:α→β→Prop}:∀ {l₁:List α} {l₂:List β},Paired F l₁ l₂→(∀ a b,F a b→G a b)→Paired G l₁ l₂
 | _,_,.nil,_=>.nil
 | _,_,.cons r t,f=>.cons (f _ _ r) (Paired.mapP t f)
theorem ObjOk.stay (x:ObjOk P w H h a o) (k:∀ b u,(b=a ∨ H b=some (.own a))→h.get? b=some u→h'.get? b=some u)
  (ho:∀ b,H b=some (.own a)→H' b=some (.own a)) (ht:∀ b xs,H b=some (.tup xs)→H' b=some (.tup xs)):ObjOk P w H' h' a o:=by
 induction o with
 | lst xs=>obtain ⟨z,its,n,r,e⟩:=x;exact ⟨z,its,n,r,k _ _ (.inl rfl) e⟩
 | tup xs=>obtain ⟨z,its,r,ob,e,c⟩:=x;exact ⟨z,its,r,ob,k _ _ (.inl rfl) e,c⟩
 | dK kvs=>obtain ⟨z,y,vs,r,ob,es,ep,e,c⟩:=x;exact ⟨z,y,vs,r,ob,es,ep,k _ _ (.inl rfl) e,c⟩
 | dT kvs =>
  obtain ⟨z,y,xs,r,ob,es,ep,e,c⟩:=x
  exact ⟨z,y,xs,Paired.mapP r λ p q z=>⟨z.1,ht _ _ z.2.1,z.2.2⟩,ob,es,ep,k _ _ (.inl rfl) e,c⟩
 | set S n=>obtain ⟨ob,es,ep,t,e,c⟩:=x;exact ⟨ob,es,ep,t,k _ _ (.inl rfl) e,c⟩
 | ins C dx fs =>
  obtain ⟨d,z,ne,e,mA,⟨od,es,ep,e2,c⟩,r⟩:=x
  exact ⟨ho _ d,z,ne,k _ _ (.inl rfl) e,mA,⟨od,es,ep,k _ _ (.inr d) e2,c⟩,r⟩
 | own y=>obtain ⟨ob,e⟩:=x;exact ⟨ob,k _ _ (.inl rfl) e⟩
 | xd fs=>obtain ⟨mA,⟨od,es,ep,e,c⟩,r⟩:=x;exact ⟨mA,⟨od,es,ep,k _ _ (.inl rfl) e,c⟩,r⟩
 | rng lo hi=>obtain ⟨t,u,v,e⟩:=x;exact ⟨t,u,v,k _ _ (.inl rfl) e⟩
 | frz ob u ih=>obtain ⟨e,q⟩:=x;exact ⟨k _ _ (.inl rfl) e,ih q⟩
 | tbl ps =>
  have e:h.get? a=some { cls := .none,data := .fields ps }:=x
  show h'.get? a=some { cls := .none,data := .fields ps }
  exact k a _ (.inl rfl) e
 | met f y =>
  have e:h.get? a=some (W.methodObj (.ref f) (.ref y)):=x
  show h'.get? a=some (W.methodObj (.ref f) (.ref y))
  exact k a _ (.inl rfl) e
 | ext φ=>obtain ⟨p,⟨o,e⟩,st⟩:=x;exact ⟨st _ _ p λ o q=>k _ _ (.inl rfl) q,⟨o,k _ _ (.inl rfl) e⟩,st⟩
theorem HOk.lt (x:HOk P w H h) (e:H a=some o):a<h.objs.size:=(x a o e).lt
theorem HOk.fresh (x:HOk P w H h) (e:h.objs.size≤a):H a=none:=by
 cases q:H a with
 | none=>rfl
 | some u=>exact absurd (Nat.lt_of_lt_of_le (x.lt q) e) (Nat.lt_irrefl _)
theorem HOk.kept (x:HOk P w H h) (k:∀ b u,h.get? b=some u→h'.get? b=some u):HOk P w H h':=λ a o e =>
 (x a o e).stay (λ b u _ q=>k b u q) (λ _ q=>q) λ _ _ q=>q
theorem HOk.laid (x:HOk P w H h) (k:∀ b u,h.get? b=some u→h'.get? b=some u) (hp:h.objs.size≤a) (new:ObjOk P w (upd H a o) h' a o):HOk P w (upd H a o) h':=λ b u e=>by
 have hn:=x.fresh hp
 by_cases hb:b=a
 ·subst hb;rw [upd_same] at e;cases e;exact new
 ·rw [zwa hb] at e
  exact (x b u e).stay (λ c v _ q=>k c v q) (λ c q=>by rw [zwa (zhb q hn)];exact q) λ c xs q=>by rw [zwa (zhb q hn)];exact q
end
noncomputable def Rd (H:Hp) (a:Addr) (u:HO):Prop:=H a=some u ∨ ∃ o,H a=some (.frz o u)
theorem Rd.ok {P:Program} {w:World} {H:Hp} {h:Heap} {a:Addr} {u:HO} (r:Rd H a u) (x:HOk P w H h):ObjOk P w H h a u:=by
 rcases r with r | ⟨o,r⟩
 ·exact x a u r
 ·obtain ⟨_,q⟩:=x a _ r
  exact q
noncomputable def Mut:Option HO→Prop
 | some (.lst _)=>True
 | some (.dK _)=>True
 | some (.dT _)=>True
 | some (.set _ _)=>True
 | some (.ins _ _ _)=>True
 | some (.ext _)=>True
 | _=>False
section
variable {P:Program} {w:World} {H:Hp} {h h':Heap} {x e:Addr} {o':HO}
theorem HOk.write (ok:HOk P w H h) (mu:Mut (H x)) (he:e=x ∨ H e=some (.own x)) (k:∀ b u,b≠e→h.get? b=some u→h'.get? b=some u) (heo:∃ u,h'.get? e=some u)
  (new:ObjOk P w (upd H x o') h' x o'):HOk P w (upd H x o') h':=λ b u q=>by
 have nown:∀ c y,H c=some (.own y)→c≠x:=λ c y r z=>by subst z;rw [r] at mu;exact mu
 have ntup:∀ c xs,H c=some (.tup xs)→c≠x:=λ c xs r z=>by subst z;rw [r] at mu;exact mu
 by_cases hb:b=x
 ·subst hb;rw [upd_same] at q;cases q;exact new
 ·rw [zwa hb] at q
  by_cases hbe:b=e
  ·have q':H b=some (.own x):=by
    rcases he with z | z
    ·exact absurd (hbe.trans z) hb
    ·rw [hbe];exact z
   rw [q] at q';cases q'
   obtain ⟨v,hv⟩:=heo
   exact ⟨v,by rw [hbe];exact hv⟩
  ·refine (ok b u q).stay (λ c v hc r=>k c v ?_ r) (λ c r=>by rw [zwa (nown c b r)];exact r) λ c xs r=>by rw [zwa (ntup c xs r)];exact r
   rcases hc with rfl | hc
   ·exact hbe
   ·rintro rfl
    rcases he with z | z
    ·exact nown c b hc z
    ·rw [hc] at z;cases z;exact hb rfl
end
structure Un (fs ex:List Addr) (H H':Hp) (h h':Heap):Prop where
 keep:∀ b o,h.get? b=some o→H b=none→b∉fs→b∉ex→h'.get? b=some o
 slot:∀ b o,h.get? b=some o→H b=none→b∈fs→b∉ex→∃ sl,h'.get? b=some { o with slots:=sl }
 free:∀ b o,h.get? b=some o→H b=none→b∉ex→H' b=none
 there:∀ b o,h.get? b=some o→b∉ex→∃ o',h'.get? b=some o'
 tups:∀ b xs,H b=some (.tup xs)→H' b=some (.tup xs)
 frzs:∀ b o u,H b=some (.frz o u)→H' b=some (.frz o u)
 tbls:∀ b ps,H b=some (.tbl ps)→∃ more,H' b=some (.tbl (ps++more))
section
variable {fs fs' ex ex':List Addr} {H H1 H2:Hp} {h h1 h2 h':Heap} {a x e:Addr} {o:HO}
theorem Un.any (u:Un fs ex H H1 h h1) {b:Addr} {ob:Obj} (q:h.get? b=some ob) (n:H b=none) (hx:b∉ex):∃ sl,h1.get? b=some { ob with slots:=sl }:=by
 by_cases hb:b∈fs
 ·exact u.slot b ob q n hb hx
 ·exact ⟨ob.slots,u.keep b ob q n hb hx⟩
theorem Un.kept (k:∀ b u,h.get? b=some u→h'.get? b=some u):Un fs ex H H h h' :=
 ⟨λ b ob q _ _ _=>k b ob q,λ b ob q _ _ _=>⟨ob.slots,k b ob q⟩,λ _ _ _ n _=>n,λ b ob q _=>⟨ob,k b ob q⟩,λ _ _ q=>q,λ _ _ _ q=>q,λ _ ps q=>⟨#[],by rw [q];simp⟩⟩
theorem Un.refl:Un fs ex H H h h:=Un.kept λ _ _ q=>q
theorem Un.laid (k:∀ b u,h.get? b=some u→h'.get? b=some u) (hp:h.objs.size≤a) (hn:H a=none):Un fs ex H (upd H a o) h h' where
 keep:=λ b u q _ _ _=>k b u q
 slot:=λ b u q _ _ _=>⟨u.slots,k b u q⟩
 free:=λ b u q n _=>by rw [zwa (Nat.ne_of_lt (Nat.lt_of_lt_of_le (Heap.lt_size q) hp))];exact n
 there:=λ b u q _=>⟨u,k b u q⟩
 tups:=λ b xs q=>by rw [zwa (zhb q hn)];exact q
 frzs:=λ b u xs q=>by rw [zwa (zhb q hn)];exact q
 tbls:=λ b ps q=>⟨#[],by rw [zwa (zhb q hn),q];simp⟩
theorem Un.write (mu:Mut (H x)) (he:e=x ∨ H e=some (.own x)) (k:∀ b u,b≠e→h.get? b=some u→h'.get? b=some u) (heo:∃ u,h'.get? e=some u):Un fs ex H (upd H x o) h h':=by
 have hx:∀ b,H b=none→b≠x:=λ b n z=>by subst z;rw [n] at mu;exact mu
 have hb:∀ b,H b=none→b≠e:=λ b n z=>by
  subst z
  rcases he with r | r
  ·exact hx b n r
  ·rw [n] at r;cases r
 have hm:∀ b u,H b=some u→¬ Mut (some u)→b≠x:=λ b u q nm z=>by subst z;rw [q] at mu;exact nm mu
 refine ⟨λ b u q n _ _=>k b u (hb b n) q,λ b u q n _ _=>⟨u.slots,k b u (hb b n) q⟩,λ b u q n _=>by rw [zwa (hx b n)];exact n,λ b u q _=>?_,
  λ b xs q=>by rw [zwa (hm b _ q λ z=>z)];exact q,λ b u xs q=>by rw [zwa (hm b _ q λ z=>z)];exact q,λ b ps q=>⟨#[],by rw [zwa (hm b _ q λ z=>z),q];simp⟩⟩
 by_cases hbe:b=e
 ·subst hbe;exact heo
 ·exact ⟨u,k b u hbe q⟩
end
noncomputable def trk (h:Heap) (H:Hp):List Addr:=(List.range h.objs.size).filter λ a=>(H a).isSome
noncomputable def hidT (h:Heap) (H:Hp):Heap:=W.hideAll h (trk h H)
theorem zvk (h:Heap) (H:Hp):(hidT h H).objs.size=h.objs.size:=W.hideAll_size _ _
theorem zen {h:Heap} {H:Hp} {b:Addr} {o:Obj} (e:h.get? b=some o) (n:H b=none):(hidT h H).get? b=some o :=
 W.hideAll_get _ e λ hm=>by
  have q:(H b).isSome=true:=(List.mem_filter.mp hm).2
  rw [n] at q;simp at q
theorem zoo {h:Heap} {H:Hp} {b:Addr} {o:Obj} (e:(hidT h H).get? b=some o):h.get? b=some o∧H b=none:=by
 have e':h.get? b=some o:=W.of_hideAll (trk h H) e
 refine ⟨e',?_⟩
 cases q:H b with
 | none=>rfl
 | some x =>
  have hm:b∈trk h H:=List.mem_filter.mpr ⟨List.mem_range.mpr (Heap.lt_size e'),by simp [q]⟩
  have z:(hidT h H).get? b=none:=W.hideAll_none (trk h H) hm
  rw [z] at e;cases e
end L2
namespace L2
open PySem PySem.Spec PyProof.Rows
structure Mod (K:W.Frag) (mg:Str→Option Value) (base:Heap):Prop where
 kin:K.In base
 glob:base.Ns mainGlobals mg
 blt:∃ mb,base.Ns builtinsNs mb∧∀ x:Str,x ≠ "__name__" → mb x=bootBuiltins x
 nolimit:base.NoLimit
structure Cx where
 prog:Program
 w:World
 K:W.Frag
 mg:Str→Option Value
 base:Heap
 A:Around
 N:List Str
 s₀:Shared
 H₀:Hp
 env:Env
 outer:List Env
 stack:List Env
 ex:List Addr
 fn:Str→Bool
 calm:Bool
 pn:List (Addr×Obj)
 xe:Value→Shared→Prop
noncomputable def frs (l:List Env):List Addr:=l.filterMap (·.frame)
noncomputable abbrev Cx.fs (X:Cx):List Addr:=frs X.outer
noncomputable def Vis (sc:Scope) (x:Str):Prop:=sc.names.lookup x=some .local ∨ sc.names.lookup x=some .cell ∨ sc.names.lookup x=some .free
noncomputable def Loc (sc:Scope) (x:Str):Prop:=sc.names.lookup x=some .local ∨ sc.names.lookup x=some .cell
noncomputable def Look (env:Env) (h:Heap) (m:Str→Option Value) (x:Str) (u:Value):Prop :=
 (env.kindOf x=some .local∧m x=some u) ∨ ((env.kindOf x=some .cell ∨ env.kindOf x=some .free)∧∃ c,env.cells.lookup x=some c∧h.IsCell c (some u))
structure Cx.Ok (X:Cx):Prop where
 mod:Mod X.K X.mg X.base
 kind:X.env.scope.kind = .function
 glob:X.env.globals=mainGlobals
 blt:X.env.builtins=builtinsNs
 above:X.s₀.heap.objs.size≤X.env.locals
 inj:∀ x y c,X.env.cells.lookup x=some c→X.env.cells.lookup y=some c→x=y
 has:∀ x,(X.env.kindOf x=some .cell ∨ X.env.kindOf x=some .free)→∃ c,X.env.cells.lookup x=some c
 cab:∀ x c,X.fn x=true→X.env.cells.lookup x=some c→X.s₀.heap.objs.size≤c
 hd:X.calm=true→X.A.handled=none
 frames:X.A.frames=some X.stack
 stk:X.stack=X.outer ∨ (X.stack=X.env::X.outer∧X.env.frame=some X.env.locals)
 exf:∀ b∈X.ex,b≠X.env.locals∧∀ x c,X.env.cells.lookup x=some c→c≠b
 bs:∀ b o,X.base.get? b=some o→X.s₀.heap.get? b=some o∧X.H₀ b=none
 bsz:X.base.objs.size≤X.s₀.heap.objs.size
 noex:∀ b o,X.base.get? b=some o→b∉X.ex
 exfs:∀ b∈X.ex,b∉X.fs
 funs:X.s₀.heap.FunFrames X.base X.outer
 frf:∀ b∈X.fs,X.H₀ b=none
structure Inv (X:Cx) (pins:List (Addr×Obj)) (σ:List (Option V)) (H:Hp) (s:Shared):Prop where
 ok:X.Ok
 os:s.os=X.s₀.os
 bare:AllBare s.gens
 base:Un X.fs X.ex X.H₀ H X.s₀.heap s.heap
 loc:∃ m,s.heap.Ns X.env.locals m∧∀ (i:Nat) (x:Str) (v:V),X.N[i]? = some x→σ[i]? = some (some v)→Vis X.env.scope x→∃ u,RelV v u∧Look X.env s.heap m x u
 cell:∀ x c,X.env.cells.lookup x=some c→∃ v,s.heap.IsCell c v
 free:H X.env.locals=none
 freeC:∀ x c,X.env.cells.lookup x=some c→H c=none
 pin:∀ p∈X.pn++pins,s.heap.get? p.1=some p.2∧H p.1=none∧p.1≠X.env.locals∧p.1∉X.fs∧∀ v,p.2.data ≠ .cell v
 hok:HOk X.prog X.w H s.heap
 len:σ.length=X.N.length
section
variable {X:Cx} {pins:List (Addr×Obj)} {σ:List (Option V)} {H H':Hp} {s:Shared} {h':Heap}
theorem Cx.Ok.nofr (ok:X.Ok) {b:Addr} {o:Obj} (e:X.base.get? b=some o):b∉X.fs:=λ hb=>by
 have:=(ok.funs.mem hb).1
 rw [e] at this;cases this
theorem Inv.bs (I:Inv X pins σ H s):∀ b o,X.base.get? b=some o→s.heap.get? b=some o∧H b=none:=λ b o e =>
 ⟨I.base.keep b o (I.ok.bs b o e).1 (I.ok.bs b o e).2 (I.ok.nofr e) (I.ok.noex b o e),I.base.free b o (I.ok.bs b o e).1 (I.ok.bs b o e).2 (I.ok.noex b o e)⟩
theorem Inv.bk (I:Inv X pins σ H s):∀ b o,X.base.get? b=some o→s.heap.get? b=some o:=λ b o e=>(I.bs b o e).1
theorem Inv.mod (I:Inv X pins σ H s):Mod X.K X.mg X.base:=I.ok.mod
theorem Inv.kIn (I:Inv X pins σ H s):X.K.In s.heap:=I.ok.mod.kin.keeps I.bk
theorem Inv.lt (I:Inv X pins σ H s):X.env.locals<s.heap.objs.size:=let ⟨_,hn,_⟩:=I.loc;hn.lt
theorem Inv.sz (I:Inv X pins σ H s):X.s₀.heap.objs.size≤s.heap.objs.size:=Nat.le_trans I.ok.above (Nat.le_of_lt I.lt)
theorem Inv.nofs (I:Inv X pins σ H s) {a:Addr} (h:s.heap.objs.size≤a):a∉X.fs:=λ hb=>by
 obtain ⟨_,o,ho,_⟩:=I.ok.funs.mem hb
 exact absurd (Nat.lt_of_lt_of_le (Heap.lt_size ho) (Nat.le_trans I.sz h)) (Nat.lt_irrefl _)
theorem Inv.cne (I:Inv X pins σ H s):∀ x c,X.env.cells.lookup x=some c→c≠X.env.locals:=λ x c e z=>by
 obtain ⟨v,o,ho,hd⟩:=I.cell x c e
 obtain ⟨m,⟨o',es,ep,ho',hd',_⟩,_⟩:=I.loc
 rw [z,ho'] at ho;cases ho;rw [hd'] at hd;cases hd
theorem Inv.funs (I:Inv X pins σ H s):s.heap.FunFrames X.base X.outer:=by
 have all:∀ (l:List Env),(∀ b∈frs l,b∈X.fs)→X.s₀.heap.FunFrames X.base l→s.heap.FunFrames X.base l:=by
  intro l
  induction l with
  | nil=>intro _ _;trivial
  | cons env r ih =>
   intro hs hl
   obtain ⟨hk,⟨L,o,hf,hn,ho,hd⟩,hr⟩:=hl
   have hL:L∈X.fs:=hs L (by unfold frs;rw [List.filterMap_cons,hf];exact List.mem_cons_self)
   obtain ⟨sl,e⟩:=I.base.slot L o ho (I.ok.frf L hL) hL λ z=>I.ok.exfs L z hL
   exact ⟨hk,⟨L,_,hf,hn,e,hd⟩,ih (λ b hb=>hs b (by unfold frs;rw [List.filterMap_cons,hf];exact List.mem_cons_of_mem _ hb)) hr⟩
 exact all X.outer (λ _ hb=>hb) I.ok.funs
theorem Inv.stack (I:Inv X pins σ H s):s.heap.FunFrames X.base X.stack:=by
 rcases I.ok.stk with e | ⟨e,hf⟩
 ·rw [e];exact I.funs
 ·rw [e]
  obtain ⟨m,hn,_⟩:=I.loc
  refine .cons (by rw [I.ok.kind];decide) hf hn ?_ I.funs
  exact Heap.get?_none_of_le (Nat.le_trans I.ok.bsz I.ok.above)
theorem Inv.stkSub (I:Inv X pins σ H s):∀ b∈frs X.stack,b∈X.env.locals::X.fs:=λ b hb=>by
 rcases I.ok.stk with e | ⟨e,hf⟩
 ·rw [e] at hb;exact List.mem_cons_of_mem _ hb
 ·rw [e] at hb
  unfold frs at hb
  rw [List.filterMap_cons,hf] at hb
  exact hb
theorem Inv.stkFree (I:Inv X pins σ H s):∀ b∈frs X.stack,H b=none:=λ b hb=>by
 rcases List.mem_cons.mp (I.stkSub b hb) with e | hb
 ·rw [e];exact I.free
 ·obtain ⟨_,o,ho,_⟩:=I.ok.funs.mem hb
  exact I.base.free b o ho (I.ok.frf b hb) λ z=>I.ok.exfs b z hb
theorem Inv.step {g':Array GenState} {t':Nat} {d':Drawn} {ch:List Addr} (I:Inv X pins σ H s)
  (hch:∀ b∈ch,(b∈X.ex ∨ X.s₀.heap.objs.size≤b)∧b≠X.env.locals∧(∀ x c,X.env.cells.lookup x=some c→c≠b)∧∀ p∈X.pn++pins,p.1≠b)
  (keep:∀ b o,b≠X.env.locals→b∉X.fs→b∉ch→s.heap.get? b=some o→H b=none→h'.get? b=some o)
  (slot:∀ b o,b≠X.env.locals→b∈X.fs→b∉ch→s.heap.get? b=some o→H b=none→∃ sl,h'.get? b=some { o with slots:=sl }) (free:∀ b o,b∉ch→s.heap.get? b=some o→H b=none→H' b=none)
  (there:∀ b o,b∉ch→s.heap.get? b=some o→∃ o',h'.get? b=some o')
  (tups:∀ b xs,H b=some (.tup xs)→H' b=some (.tup xs)) (frzs:∀ b o u,H b=some (.frz o u)→H' b=some (.frz o u)) (tbls:∀ b ps,H b=some (.tbl ps)→∃ more,H' b=some (.tbl (ps++more)))
  (ns:∀ m,s.heap.Ns X.env.locals m→h'.Ns X.env.locals m) (hok:HOk X.prog X.w H' h') (hg:AllBare g') :
  Inv X pins σ H' { s with heap:=h',gens:=g',drawn:=d',toks:=t' }:=by
 have neL:∀ b o,X.s₀.heap.get? b=some o→b≠X.env.locals:=λ b o e=>Nat.ne_of_lt (Nat.lt_of_lt_of_le (Heap.lt_size e) I.ok.above)
 have neC:∀ b o,X.s₀.heap.get? b=some o→b∉X.ex→b∉ch:=λ b o e hx hb=>by
  rcases (hch b hb).1 with z | z
  ·exact hx z
  ·exact absurd (Nat.lt_of_lt_of_le (Heap.lt_size e) z) (Nat.lt_irrefl _)
 have cellK:∀ x c,X.env.cells.lookup x=some c→∀ v,s.heap.IsCell c v→h'.IsCell c v:=λ x c e v ⟨o,ho,hd⟩=>by
  have nch:c∉ch:=λ z=>(hch c z).2.2.1 x c e rfl
  by_cases hc:c∈X.fs
  ·obtain ⟨sl,q⟩:=slot c o (I.cne x c e) hc nch ho (I.freeC x c e)
   exact ⟨_,q,hd⟩
  ·exact ⟨o,keep c o (I.cne x c e) hc nch ho (I.freeC x c e),hd⟩
 refine ⟨I.ok,I.os,hg,⟨λ b o e n hb hx=>?_,λ b o e n hb hx=>?_,λ b o e n hx=>?_,λ b o e hx=>?_,λ b xs e=>tups b xs (I.base.tups b xs e),λ b o xs e=>frzs b o xs (I.base.frzs b o xs e),λ b ps e=>?_⟩,?_,λ x c e=>?_,?_,λ x c e=>?_,λ p hp=>?_,hok,I.len⟩
 ·exact keep b o (neL b o e) hb (neC b o e hx) (I.base.keep b o e n hb hx) (I.base.free b o e n hx)
 ·obtain ⟨sl,e1⟩:=I.base.slot b o e n hb hx
  obtain ⟨sl',e2⟩:=slot b _ (neL b o e) hb (neC b o e hx) e1 (I.base.free b o e n hx)
  exact ⟨sl',e2⟩
 ·obtain ⟨o',e1⟩:=I.base.there b o e hx
  exact free b o' (neC b o e hx) e1 (I.base.free b o e n hx)
 ·obtain ⟨o',e1⟩:=I.base.there b o e hx
  exact there b o' (neC b o e hx) e1
 ·obtain ⟨m1,e1⟩:=I.base.tbls b ps e
  obtain ⟨m2,e2⟩:=tbls b _ e1
  exact ⟨m1++m2,by rw [e2,Array.append_assoc]⟩
 ·obtain ⟨m,hn,hl⟩:=I.loc
  refine ⟨m,ns m hn,λ i x v e1 e2 e3=>?_⟩
  obtain ⟨u,r,l⟩:=hl i x v e1 e2 e3
  refine ⟨u,r,?_⟩
  rcases l with l | ⟨k,c,e,z⟩
  ·exact .inl l
  ·exact .inr ⟨k,c,e,cellK x c e _ z⟩
 ·obtain ⟨v,z⟩:=I.cell x c e
  exact ⟨v,cellK x c e v z⟩
 ·obtain ⟨m,⟨o,_,_,ho,_⟩,_⟩:=I.loc
  exact free _ o (λ z=>(hch _ z).2.1 rfl) ho I.free
 ·obtain ⟨v,o,ho,hd⟩:=I.cell x c e
  exact free c o (λ z=>(hch c z).2.2.1 x c e rfl) ho (I.freeC x c e)
 ·obtain ⟨e,n,ne,nf,d⟩:=I.pin p hp
  have nch:p.1∉ch:=λ z=>(hch p.1 z).2.2.2 p hp rfl
  exact ⟨keep p.1 p.2 ne nf nch e n,free p.1 p.2 nch e n,ne,nf,d⟩
theorem Inv.un {t':Nat} (I:Inv X pins σ H s) (u:Un X.fs [] H H' s.heap h') (hok:HOk X.prog X.w H' h'):Inv X pins σ H' { s with heap:=h',toks:=t' }:=by
 obtain ⟨m,⟨o,es,ep,ho,r⟩,_⟩:=id I.loc
 obtain ⟨sl,hL⟩:=u.any ho I.free (by simp)
 exact I.step (g':=s.gens) (d':=s.drawn) (ch:=[]) (λ _ z=>nomatch z) (λ b o _ hb _ e n=>u.keep b o e n hb (by simp)) (λ b o _ hb _ e n=>u.slot b o e n hb (by simp)) (λ b o _ e n=>u.free b o e n (by simp)) (λ b o _ e=>u.there b o e (by simp)) u.tups u.frzs u.tbls (λ m' hm=>by
  obtain ⟨o',es',ep',ho',r'⟩:=hm
  rw [ho] at ho';cases ho'
  exact ⟨_,es',ep',hL,r'⟩) hok I.bare
theorem Inv.call {g':Array GenState} {t':Nat} {d':Drawn} {ch:List Addr} (I:Inv X pins σ H s) (u:Un (frs X.stack) ch H H' s.heap h') (hok:HOk X.prog X.w H' h') (hg:AllBare g')
  (hch:∀ b∈ch,(b∈X.ex ∨ X.s₀.heap.objs.size≤b)∧b≠X.env.locals∧(∀ x c,X.env.cells.lookup x=some c→c≠b)∧∀ p∈X.pn++pins,p.1≠b) :
  Inv X pins σ H' { s with heap:=h',gens:=g',drawn:=d',toks:=t' }:=by
 obtain ⟨m,⟨o,es,ep,ho,r⟩,_⟩:=id I.loc
 obtain ⟨sl,hL⟩:=u.any ho I.free λ z=>(hch _ z).2.1 rfl
 exact I.step (ch:=ch) hch (λ b o hL hb hc e n=>u.keep b o e n (λ z=>(List.mem_cons.mp (I.stkSub b z)).elim hL hb) hc) (λ b o _ _ hc e n=>u.any e n hc) (λ b o hc e n=>u.free b o e n hc) (λ b o hc e=>u.there b o e hc) u.tups u.frzs u.tbls (λ m' hm=>by
  obtain ⟨o',es',ep',ho',r'⟩:=hm
  rw [ho] at ho';cases ho'
  exact ⟨_,es',ep',hL,r'⟩) hok hg
theorem Inv.turned {t':Nat} {it:Addr} (I:Inv X pins σ H s) (k:∀ b o,b≠it→s.heap.get? b=some o→h'.get? b=some o) (hn:H it=none) (hL:it≠X.env.locals)
  (h1:it∈X.ex ∨ X.s₀.heap.objs.size≤it) (h2:∀ x c,X.env.cells.lookup x=some c→c≠it) (h3:∀ p∈X.pn++pins,p.1≠it):Inv X pins σ H { s with heap:=h',toks:=t' }:=by
 have nit:∀ b u,H b=some u→b≠it:=λ b u e z=>by rw [z,hn] at e;cases e
 refine I.step (g':=s.gens) (d':=s.drawn) (ch:=[it]) (λ b hb=>?_) (λ b o _ _ hc e _=>k b o (λ z=>hc (by simp [z])) e) (λ b o _ _ hc e _=>⟨o.slots,k b o (λ z=>hc (by simp [z])) e⟩) (λ _ _ _ _ n=>n)
  (λ b o hc e=>⟨o,k b o (λ z=>hc (by simp [z])) e⟩) (λ _ _ e=>e) (λ _ _ _ e=>e) (λ b ps e=>⟨#[],by rw [e];simp⟩) (λ m hm=>?_) (λ b u e=>?_) I.bare
 ·have e:b=it:=by simpa using hb
  subst e
  exact ⟨h1,hL,h2,h3⟩
 ·obtain ⟨o,es,ep,ho,r⟩:=hm
  exact ⟨o,es,ep,k _ o (Ne.symm hL) ho,r⟩
 ·refine (I.hok b u e).stay (λ c v hc q=>k c v ?_ q) (λ _ q=>q) λ _ _ q=>q
  rcases hc with z | z
  ·rw [z];exact nit b u e
  ·exact nit c _ z
theorem Inv.tok (I:Inv X pins σ H s) (t:Nat):Inv X pins σ H { s with toks:=t }:=I.un (h':=s.heap) (t':=t) Un.refl I.hok
theorem Inv.kept {t':Nat} (I:Inv X pins σ H s) (k:∀ b u,s.heap.get? b=some u→h'.get? b=some u):Inv X pins σ H { s with heap:=h',toks:=t' }:=I.un (Un.kept k) (I.hok.kept k)
theorem Inv.laid {a:Addr} {o:HO} {t':Nat} (I:Inv X pins σ H s) (k:∀ b u,s.heap.get? b=some u→h'.get? b=some u) (hp:s.heap.objs.size≤a) (new:ObjOk X.prog X.w (upd H a o) h' a o) :
  Inv X pins σ (upd H a o) { s with heap:=h',toks:=t' }:=I.un (Un.laid k hp (I.hok.fresh hp)) (I.hok.laid k hp new)
theorem Inv.write {x e:Addr} {o:HO} {t':Nat} (I:Inv X pins σ H s) (mu:Mut (H x)) (he:e=x ∨ H e=some (.own x)) (k:∀ b u,b≠e→s.heap.get? b=some u→h'.get? b=some u) (heo:∃ u,h'.get? e=some u)
  (new:ObjOk X.prog X.w (upd H x o) h' x o):Inv X pins σ (upd H x o) { s with heap:=h',toks:=t' }:=I.un (Un.write mu he k heo) (I.hok.write mu he k heo new)
theorem Inv.weak {σ':List (Option V)} (I:Inv X pins σ H s) (hl:σ'.length=σ.length) (w:∀ (i:Nat) v,σ'[i]? = some (some v)→σ[i]? = some (some v)):Inv X pins σ' H s :=
 ⟨I.ok,I.os,I.bare,I.base,let ⟨m,hn,hl'⟩:=I.loc; ⟨m,hn,λ i x v e1 e2 e3=>hl' i x v e1 (w i v e2) e3⟩,I.cell,I.free,I.freeC,I.pin,I.hok,hl.trans I.len⟩
theorem Inv.pins_of {pins':List (Addr×Obj)} (I:Inv X pins σ H s) (h:∀ p∈pins',s.heap.get? p.1=some p.2∧H p.1=none∧p.1≠X.env.locals∧p.1∉X.fs∧∀ v,p.2.data ≠ .cell v):Inv X pins' σ H s :=
 ⟨I.ok,I.os,I.bare,I.base,I.loc,I.cell,I.free,I.freeC,λ p hp=>(List.mem_append.mp hp).elim (λ z=>I.pin p (List.mem_append_left _ z)) (h p),I.hok,I.len⟩
theorem zyf {N:List Str} (hN:N.Nodup) {i j:Nat} {x:Str} (a:N[i]? = some x) (b:N[j]? = some x):i=j:=by
 obtain ⟨h1,e1⟩:=List.getElem?_eq_some_iff.mp a
 obtain ⟨h2,e2⟩:=List.getElem?_eq_some_iff.mp b
 exact (List.getElem_inj hN).mp (e1.trans e2.symm)
theorem zoj {M:Model} {A:Around} {E:Value→Shared→Prop} {i:Nat} {x:Str} {v:V} {u:Value} {Q:Unit→Shared→Prop} (I:Inv X pins σ H s) (hN:X.N.Nodup) (hi:X.N[i]? = some x) (hx:Loc X.env.scope x) (r:RelV v u)
  (h:∀ s',Inv X pins (σ.set i (some v)) H s'→(∃ a,Heap.SameBut a s.heap s'.heap∧(a=X.env.locals ∨ X.env.cells.lookup x=some a))→Q () s') (hf:X.fn x=true ∨ X.env.scope.names.lookup x=some .local:=by first | exact .inl rfl | exact .inr rfl | assumption):wpAny M A (storeName X.env x u) Q E s:=by
 obtain ⟨m,hn,hl⟩:=id I.loc
 have hcls:(X.env.scope.kind == .class || (X.env.scope.kind == .module && X.env.locals != X.env.globals))=false:=by rw [I.ok.kind];rfl
 have hiσ:i<σ.length:=by rw [I.len];exact (List.getElem?_eq_some_iff.mp hi).1
 have cne:=I.cne
 have tracked:∀ {a:Addr} {h':Heap},(∃ o,s.heap.get? a=some o∧H a=none)→Heap.SameBut a s.heap h'→HOk X.prog X.w H h':=fun {a h'} ha hs b ob e=>by
  obtain ⟨_,_,hfree⟩:=ha
  refine (I.hok b ob e).stay (λ c w' hc q=>(hs.2 c ?_).trans q) (λ _ q=>q) λ _ _ q=>q
  rintro rfl
  rcases hc with rfl | hc
  ·rw [hfree] at e;cases e
  ·rw [hfree] at hc;cases hc
 rcases hx with hk | hk
 ·refine wpAny_storeName_local hk hn (λ h' hn' hs=>?_) hcls
  obtain ⟨oL,_,_,hoL,_⟩:=id hn
  refine h _ ⟨I.ok,I.os,I.bare,⟨λ b o e n hb hx=>?_,λ b o e n hb hx=>?_,I.base.free,λ b o e hx=>?_,I.base.tups,I.base.frzs,I.base.tbls⟩,⟨_,hn',λ j y v' e1 e2 e3=>?_⟩,λ y c e=>?_,I.free,I.freeC,λ p hp=>?_,tracked ⟨oL,hoL,I.free⟩ hs,by simpa using I.len⟩ ⟨_,hs,.inl rfl⟩
  ·exact (hs.2 b (Nat.ne_of_lt (Nat.lt_of_lt_of_le (Heap.lt_size e) I.ok.above))).trans (I.base.keep b o e n hb hx)
  ·obtain ⟨sl,e1⟩:=I.base.slot b o e n hb hx
   exact ⟨sl,(hs.2 b (Nat.ne_of_lt (Nat.lt_of_lt_of_le (Heap.lt_size e) I.ok.above))).trans e1⟩
  ·obtain ⟨o',e1⟩:=I.base.there b o e hx
   exact ⟨o',(hs.2 b (Nat.ne_of_lt (Nat.lt_of_lt_of_le (Heap.lt_size e) I.ok.above))).trans e1⟩
  ·by_cases hj:j=i
   ·subst hj
    rw [hi] at e1;cases e1
    rw [List.getElem?_set_self hiσ] at e2
    cases e2
    exact ⟨u,r,.inl ⟨hk,by simp⟩⟩
   ·rw [List.getElem?_set_ne (Ne.symm hj)] at e2
    obtain ⟨u',r',q⟩:=hl j y v' e1 e2 e3
    refine ⟨u',r',?_⟩
    rcases q with ⟨k,e⟩ | ⟨k,c,e,z⟩
    ·refine .inl ⟨k,?_⟩
     have:y≠x:=λ e=>hj (zyf hN e1 (e ▸ hi))
     simp [this,e]
    ·exact .inr ⟨k,c,e,z.sameBut hs (cne y c e)⟩
  ·obtain ⟨w',z⟩:=I.cell y c e
   exact ⟨w',z.sameBut hs (cne y c e)⟩
  ·obtain ⟨e,n,ne,nf,d⟩:=I.pin p hp
   exact ⟨(hs.2 p.1 ne).trans e,n,ne,nf,d⟩
 ·have hfn:X.fn x=true:=by
   rcases hf with z | z
   ·exact z
   ·rw [z] at hk;cases hk
  obtain ⟨c,hc⟩:=I.ok.has x (.inl hk)
  obtain ⟨w',z⟩:=I.cell x c hc
  refine wpAny_storeName_cell I.ok.kind hk hc z (λ h' hc' hs=>?_)
  obtain ⟨oc,hoc,hocd⟩:=id z
  refine h { s with heap:=h' } ⟨I.ok,I.os,I.bare,⟨λ b o e n hb hx=>?_,λ b o e n hb hx=>?_,I.base.free,λ b o e hx=>?_,I.base.tups,I.base.frzs,I.base.tbls⟩,⟨m,hn.sameBut hs (Ne.symm (cne x c hc)),λ j y v' e1 e2 e3=>?_⟩,λ y c' e=>?_,I.free,I.freeC,λ p hp=>?_,tracked ⟨oc,hoc,I.freeC x c hc⟩ hs,by simpa using I.len⟩ ⟨c,hs,.inr hc⟩
  ·exact (hs.2 b (Nat.ne_of_lt (Nat.lt_of_lt_of_le (Heap.lt_size e) (I.ok.cab x c hfn hc)))).trans (I.base.keep b o e n hb hx)
  ·obtain ⟨sl,e1⟩:=I.base.slot b o e n hb hx
   exact ⟨sl,(hs.2 b (Nat.ne_of_lt (Nat.lt_of_lt_of_le (Heap.lt_size e) (I.ok.cab x c hfn hc)))).trans e1⟩
  ·obtain ⟨o',e1⟩:=I.base.there b o e hx
   exact ⟨o',(hs.2 b (Nat.ne_of_lt (Nat.lt_of_lt_of_le (Heap.lt_size e) (I.ok.cab x c hfn hc)))).trans e1⟩
  ·by_cases hj:j=i
   ·subst hj
    rw [hi] at e1;cases e1
    rw [List.getElem?_set_self hiσ] at e2
    cases e2
    exact ⟨u,r,.inr ⟨.inl hk,c,hc,hc'⟩⟩
   ·rw [List.getElem?_set_ne (Ne.symm hj)] at e2
    obtain ⟨u',r',q⟩:=hl j y v' e1 e2 e3
    refine ⟨u',r',?_⟩
    rcases q with q | ⟨k,c',e,z'⟩
    ·exact .inl q
    ·refine .inr ⟨k,c',e,z'.sameBut hs ?_⟩
     rintro rfl
     exact hj (zyf hN e1 (I.ok.inj _ _ _ e hc ▸ hi))
  ·by_cases hcc:c'=c
   ·subst hcc;exact ⟨_,hc'⟩
   ·obtain ⟨w2,z2⟩:=I.cell y c' e
    exact ⟨w2,z2.sameBut hs hcc⟩
  ·obtain ⟨e,n,ne,nf,d⟩:=I.pin p hp
   refine ⟨(hs.2 p.1 ?_).trans e,n,ne,nf,d⟩
   intro q
   rw [q,hoc] at e
   have q':oc=p.2:=Option.some.inj e
   exact d w' (by rw [← q'];exact hocd)
theorem ztf {M:Model} {A:Around} {E:Value→Shared→Prop} {i:Nat} {x:Str} {v:V} {u:Value} {Q:Unit→Shared→Prop} (I:Inv X pins σ H s) (hN:X.N.Nodup) (hi:X.N[i]? = some x) (hx:Loc X.env.scope x) (r:RelV v u)
  (h:∀ s',Inv X pins (σ.set i (some v)) H s'→Q () s') (hf:X.fn x=true ∨ X.env.scope.names.lookup x=some .local:=by first | exact .inl rfl | exact .inr rfl | assumption):wpAny M A (storeName X.env x u) Q E s :=
 zoj I hN hi hx r (λ s' I' _=>h s' I') hf
theorem Inv.call' {s':Shared} {ch:List Addr} (I:Inv X pins σ H s) (ho:s'.os=s.os) (u:Un (frs X.stack) ch H H' s.heap s'.heap) (hok:HOk X.prog X.w H' s'.heap) (hg:AllBare s'.gens)
  (hch:∀ b∈ch,(b∈X.ex ∨ X.s₀.heap.objs.size≤b)∧b≠X.env.locals∧(∀ x c,X.env.cells.lookup x=some c→c≠b)∧∀ p∈X.pn++pins,p.1≠b):Inv X pins σ H' s':=by
 obtain ⟨h',g',d',t',o'⟩:=s'
 have e:o'=s.os:=ho
 subst e
 exact I.call (g':=g') (t':=t') (d':=d') u hok hg hch
end
noncomputable abbrev XK:=Value→Option Addr→Hp→Prop
noncomputable abbrev St:=List (Option V)
noncomputable abbrev VK:=V→Hp→Prop
noncomputable abbrev TE:=St→Hp→VK→Prop
noncomputable abbrev TT:=St→Hp→(Bool→Hp→Prop)→Prop
noncomputable abbrev TA:=St→Hp→(List V→Hp→Prop)→Prop
structure Ends where
 nx:St→Hp→Prop
 rt:VK
 bk:St→Hp→Prop:=λ _ _=>False
 ct:St→Hp→Prop:=λ _ _=>False
noncomputable abbrev TS:=Ends→St→Hp→Prop
noncomputable def EP (X:Cx) (pins:List (Addr×Obj)) (σ:St) (Q:VK) (u:Value) (s':Shared):Prop:=∃ v H',Inv X pins σ H' s'∧RelV v u∧Q v H'
noncomputable def TP (X:Cx) (pins:List (Addr×Obj)) (σ:St) (Q:Bool→Hp→Prop) (b:Bool) (s':Shared):Prop:=∃ H',Inv X pins σ H' s'∧Q b H'
noncomputable def AP (X:Cx) (pins:List (Addr×Obj)) (σ:St) (Q:List V→Hp→Prop) (us:List Value) (s':Shared):Prop:=∃ vs H',Inv X pins σ H' s'∧Vals vs us∧Q vs H'
noncomputable def SP (X:Cx) (pins:List (Addr×Obj)) (D:Ends) (f:Flow) (s':Shared):Prop :=
 match f with
 | .next=>∃ σ' H',Inv X pins σ' H' s'∧D.nx σ' H'
 | .brk=>∃ σ' H',Inv X pins σ' H' s'∧D.bk σ' H'
 | .cont=>∃ σ' H',Inv X pins σ' H' s'∧D.ct σ' H'
 | .ret u=>∃ v σ' H',Inv X pins σ' H' s'∧RelV v u∧D.rt v H'
structure PE (X:Cx) (e:Expr) (t:TE):Prop where
 run :
 ∀ (pins:List (Addr×Obj)) (s:Shared) (σ:St) (H:Hp) (Q:VK),Inv X pins σ H s→t σ H Q→wpAny (model X.prog X.w) X.A (eval e X.env) (EP X pins σ Q) X.xe s
noncomputable instance {X:Cx} {e:Expr} {t:TE}:CoeFun (PE X e t) (λ _ =>
 ∀ (pins:List (Addr×Obj)) (s:Shared) (σ:St) (H:Hp) (Q:VK),Inv X pins σ H s→t σ H Q→wpAny (model X.prog X.w) X.A (eval e X.env) (EP X pins σ Q) X.xe s
 ):=⟨λ h=>h.run⟩
structure PT (X:Cx) (e:Expr) (t:TT):Prop where
 run :
 ∀ (pins:List (Addr×Obj)) (s:Shared) (σ:St) (H:Hp) (Q:Bool→Hp→Prop),Inv X pins σ H s→t σ H Q→wpAny (model X.prog X.w) X.A (isTrue e X.env (eval e X.env)) (TP X pins σ Q) X.xe s
noncomputable instance {X:Cx} {e:Expr} {t:TT}:CoeFun (PT X e t) (λ _ =>
 ∀ (pins:List (Addr×Obj)) (s:Shared) (σ:St) (H:Hp) (Q:Bool→Hp→Prop),Inv X pins σ H s→t σ H Q→wpAny (model X.prog X.w) X.A (isTrue e X.env (eval e X.env)) (TP X pins σ Q) X.xe s
 ):=⟨λ h=>h.run⟩
structure PW (X:Cx) (e:Expr) (t:TT):Prop where
 run :
 ∀ (whole:Sem Value) (pins:List (Addr×Obj)) (s:Shared) (σ:St) (H:Hp) (Q:Bool→Hp→Prop),Inv X pins σ H s→t σ H Q→wpAny (model X.prog X.w) X.A (isTrue e X.env whole) (TP X pins σ Q) X.xe s
noncomputable instance {X:Cx} {e:Expr} {t:TT}:CoeFun (PW X e t) (λ _ =>
 ∀ (whole:Sem Value) (pins:List (Addr×Obj)) (s:Shared) (σ:St) (H:Hp) (Q:Bool→Hp→Prop),Inv X pins σ H s→t σ H Q→wpAny (model X.prog X.w) X.A (isTrue e X.env whole) (TP X pins σ Q) X.xe s
 ):=⟨λ h=>h.run⟩
theorem PW.pt {X:Cx} {e:Expr} {t:TT} (h:PW X e t):PT X e t := .mk (h _)
structure PA (X:Cx) (es:List Expr) (t:TA):Prop where
 run :
 ∀ (pos:Pos) (pins:List (Addr×Obj)) (s:Shared) (σ:St) (H:Hp) (Q:List V→Hp→Prop),Inv X pins σ H s→t σ H Q→wpAny (model X.prog X.w) X.A (spliced (backTo pos (starEach es X.env))) (AP X pins σ Q) X.xe s
noncomputable instance {X:Cx} {es:List Expr} {t:TA}:CoeFun (PA X es t) (λ _ =>
 ∀ (pos:Pos) (pins:List (Addr×Obj)) (s:Shared) (σ:St) (H:Hp) (Q:List V→Hp→Prop),Inv X pins σ H s→t σ H Q→wpAny (model X.prog X.w) X.A (spliced (backTo pos (starEach es X.env))) (AP X pins σ Q) X.xe s
 ):=⟨λ h=>h.run⟩
structure PS (X:Cx) (st:Stmt) (t:TS):Prop where
 run :
 ∀ (pins:List (Addr×Obj)) (s:Shared) (σ:St) (H:Hp) (D:Ends),Inv X pins σ H s→t D σ H→wpAny (model X.prog X.w) X.A (exec st X.env) (SP X pins D) X.xe s
noncomputable instance {X:Cx} {st:Stmt} {t:TS}:CoeFun (PS X st t) (λ _ =>
 ∀ (pins:List (Addr×Obj)) (s:Shared) (σ:St) (H:Hp) (D:Ends),Inv X pins σ H s→t D σ H→wpAny (model X.prog X.w) X.A (exec st X.env) (SP X pins D) X.xe s
 ):=⟨λ h=>h.run⟩
structure PSs (X:Cx) (st:List Stmt) (t:TS):Prop where
 run :
 ∀ (pins:List (Addr×Obj)) (s:Shared) (σ:St) (H:Hp) (D:Ends),Inv X pins σ H s→t D σ H→wpAny (model X.prog X.w) X.A (execs st X.env) (SP X pins D) X.xe s
noncomputable instance {X:Cx} {st:List Stmt} {t:TS}:CoeFun (PSs X st t) (λ _ =>
 ∀ (pins:List (Addr×Obj)) (s:Shared) (σ:St) (H:Hp) (D:Ends),Inv X pins σ H s→t D σ H→wpAny (model X.prog X.w) X.A (execs st X.env) (SP X pins D) X.xe s
 ):=⟨λ h=>h.run⟩
theorem thn {α:Type} {t:Sem α} {Q Q':α→Shared→Prop} {M:Model} {A:Around} {E:Value→Shared→Prop} {s:Shared} (h:wpAny M A t Q E s) (hQ:∀ a s,Q a s→Q' a s):wpAny M A t Q' E s:=wpAny_mono h hQ λ _ _ x=>x
end L2
namespace L2
open PySem PySem.Spec PyProof.Rows
section
variable {X:Cx}
noncomputable def tVar (i:Nat):TE:=λ σ H Q=>∃ v,σ[i]? = some (some v)∧Q v H
noncomputable def tC (v:V):TE:=λ _ H Q=>Q v H
theorem zqr {i:Nat} {x:Str} {pos:Pos} (hN:X.N[i]? = some x) (hv:Vis X.env.scope x) (hd:(x == ("__debug__" : Str))=false:=by decide) (hcd:(x == ("__classdict__" : Str))=false:=by decide):PE X (.Name x pos) (tVar i) := .mk <| by
 intro pins s σ H Q I h
 obtain ⟨v,e,h⟩:=h
 obtain ⟨m,hn,hl⟩:=I.loc
 obtain ⟨u,r,l⟩:=hl i x v hN e hv
 have fin:EP X pins σ Q u s:=⟨v,H,I,r,h⟩
 rcases l with ⟨hk,hm⟩ | ⟨hk,c,hc,hcell⟩
 ·exact wpAny_Name (wpAny_loadName_local I.ok.kind hk hn hm fin) hd
 ·rcases hk with hk | hk
  ·exact wpAny_Name (wpAny_loadName_cell I.ok.kind hk hc hcell fin) hd
  ·exact wpAny_Name (wpAny_loadName_free I.ok.kind hk hc hcell fin hcd) hd
theorem zha {i j pos}:PE X (.Constant (.int i) j pos) (tC (.int i)) := .mk <| λ _ _ _ H _ I h=>wpAny_Constant_int ⟨.int i,H,I.tok _,⟨_,rfl⟩,h⟩
theorem zrt {b j pos}:PE X (.Constant (.bool b) j pos) (tC (.bl b)) := .mk <| λ _ _ _ H _ I h=>Constant_bool ⟨.bl b,H,I,rfl,h⟩
theorem zrb {j pos}:PE X (.Constant .none j pos) (tC .non) := .mk <| λ _ _ _ H _ I h=>Constant_none ⟨.non,H,I,rfl,h⟩
theorem zda {x j pos}:PE X (.Constant (.str x) j pos) (tC (.str x)) := .mk <| λ _ _ _ H _ I h=>Calls.Constant_str ⟨.str x,H,I.tok _,⟨_,rfl⟩,h⟩
noncomputable def Gl (X:Cx) (x:Str):Prop:=X.env.kindOf x=some .globalImplicit
theorem zge {E:Value→Shared→Prop} {pins:List (Addr×Obj)} {s:Shared} {σ:St} {H:Hp} {x:Str} {u:Value} {pos:Pos} {Q:Value→Shared→Prop} (I:Inv X pins σ H s) (hg:Gl X x) (hm:X.mg x=some u) (h:Q u s)
  (hd:(x == ("__debug__" : Str))=false:=by decide):wpAny (model X.prog X.w) X.A (eval (.Name x pos) X.env) Q E s :=
 Calls.Name_function_global I.ok.kind hg (Calls.loadGlobal_global (by rw [I.ok.glob];exact I.mod.glob.keeps I.bk) hm h) hd
theorem zph {E:Value→Shared→Prop} {pins:List (Addr×Obj)} {s:Shared} {σ:St} {H:Hp} {x:Str} {u:Value} {pos:Pos} {Q:Value→Shared→Prop} (I:Inv X pins σ H s) (hg:Gl X x) (hm:X.mg x=none) (hv:bootBuiltins x=some u) (h:Q u s)
  (hn:x ≠ "__name__" := by decide) (hd:(x == ("__debug__" : Str))=false:=by decide):wpAny (model X.prog X.w) X.A (eval (.Name x pos) X.env) Q E s:=by
 obtain ⟨mb,h1,h2⟩:=I.mod.blt
 exact Calls.Name_function_global I.ok.kind hg (Calls.loadGlobal_builtin (by rw [I.ok.glob];exact I.mod.glob.keeps I.bk) hm (by rw [I.ok.blt];exact h1.keeps I.bk) ((h2 x hn).trans hv) h) hd
theorem zxb {x:Str} {v:V} {u:Value} {pos:Pos} (hg:Gl X x) (hm:X.mg x=some u) (r:RelV v u) (hd:(x == ("__debug__" : Str))=false:=by decide):PE X (.Name x pos) (tC v) := .mk <| λ _ _ _ H _ I h=>zge I hg hm ⟨v,H,I,r,h⟩ hd
theorem zdo {x:Str} {v:V} {u:Value} {pos:Pos} (hg:Gl X x) (hm:X.mg x=none) (hv:bootBuiltins x=some u) (r:RelV v u) (hn:x ≠ "__name__" := by decide) (hd:(x == ("__debug__" : Str))=false:=by decide):PE X (.Name x pos) (tC v) := .mk <| λ _ _ _ H _ I h=>zph I hg hm hv ⟨v,H,I,r,h⟩ hn hd
variable {a b:Expr} {ta tb:TE} {pos:Pos}
noncomputable def tB (t:TE):TT:=λ σ H Q=>t σ H λ x H1=>∃ c,x = .bl c∧Q c H1
theorem zld {e:Expr} {t:TE} (h:PE X e t) (he:∀ whole,isTrue e X.env whole=(do let v ← whole;standAt e.pos;holding [v] (truthy v)):=by intro _;rfl):PT X e (tB t) := .mk <| by
 intro pins s σ H Q I hw
 refine isTrue_plain (thn (h pins s σ H _ I hw) λ v s1 ⟨x,H1,I1,r1,q1⟩=>?_) (he _)
 obtain ⟨d,rfl,q⟩:=q1
 cases r1
 exact wpAny_truthy_bool ⟨H1,I1,q⟩
variable {tA tB':TT} {rest:List Expr}
noncomputable def tAnd (t u:TT):TT:=λ σ H Q=>t σ H λ c H1=>if c=true then u σ H1 Q else Q false H1
noncomputable def tOr (t u:TT):TT:=λ σ H Q=>t σ H λ c H1=>if c=true then Q true H1 else u σ H1 Q
noncomputable def tNot (t:TT):TT:=λ σ H Q=>t σ H λ c H1=>Q (!c) H1
theorem zaf (ha:PT X a tA):PW X (.BoolOp .And [a] pos) tA := .mk <| by
 intro wh pins s σ H Q I h
 refine isTrue_and (thn (ha pins s σ H Q I h) λ c s1 e=>?_)
 cases c with
 | true=>exact isTrue_and_nil e
 | false=>exact e
theorem zkf (ha:PT X a tA):PW X (.BoolOp .Or [a] pos) tA := .mk <| by
 intro wh pins s σ H Q I h
 refine isTrue_or (thn (ha pins s σ H Q I h) λ c s1 e=>?_)
 cases c with
 | false=>exact isTrue_or_nil e
 | true=>exact e
theorem zqh (ha:PT X a tA) (hb:PW X (.BoolOp .And (b::rest) pos) tB'):PW X (.BoolOp .And (a::b::rest) pos) (tAnd tA tB') := .mk <| by
 intro wh pins s σ H Q I h
 refine isTrue_and (thn (ha pins s σ H _ I h) λ c s1 ⟨H1,I1,q1⟩=>?_)
 cases c with
 | true=>exact hb wh pins s1 σ H1 Q I1 q1
 | false=>exact ⟨H1,I1,q1⟩
theorem zyi (ha:PT X a tA) (hb:PW X (.BoolOp .Or (b::rest) pos) tB'):PW X (.BoolOp .Or (a::b::rest) pos) (tOr tA tB') := .mk <| by
 intro wh pins s σ H Q I h
 refine isTrue_or (thn (ha pins s σ H _ I h) λ c s1 ⟨H1,I1,q1⟩=>?_)
 cases c with
 | true=>exact ⟨H1,I1,q1⟩
 | false=>exact hb wh pins s1 σ H1 Q I1 q1
theorem zne (ha:PT X a tA):PT X (.UnaryOp .Not a pos) (tNot tA) := .mk <| by
 intro pins s σ H Q I h
 exact isTrue_not (ha pins s σ H (λ c H1=>Q (!c) H1) I h)
noncomputable def zlv (ta tb:TE):TE:=λ σ H Q=>ta σ H λ x H1=>∃ c,x = .bl c∧if c=true then tb σ H1 Q else Q (.bl false) H1
noncomputable def zqw (ta:TE):TE:=λ σ H Q=>ta σ H λ x H1=>∃ c,x = .bl c∧Q (.bl (!c)) H1
theorem zfn {op} {t:TE} (h:PE X a t):PE X (.BoolOp op [a] pos) t := .mk <| λ pins s σ H Q I hw=>BoolOp_one (h pins s σ H Q I hw)
theorem zri (ha:PE X a ta) (hb:PE X (.BoolOp .And (b::rest) pos) tb):PE X (.BoolOp .And (a::b::rest) pos) (zlv ta tb) := .mk <| by
 intro pins s σ H Q I h
 refine BoolOp_and (thn (ha pins s σ H _ I h) λ v s1 ⟨x,H1,I1,r1,q1⟩=>?_)
 obtain ⟨c,rfl,q1⟩:=q1
 cases r1
 refine wpAny_truthy_bool ?_
 cases c with
 | true=>exact hb pins s1 σ H1 Q I1 q1
 | false=>exact ⟨.bl false,H1,I1,rfl,q1⟩
theorem zor (ha:PE X a ta):PE X (.UnaryOp .Not a pos) (zqw ta) := .mk <| by
 intro pins s σ H Q I h
 refine UnaryOp_ (thn (ha pins s σ H _ I h) λ v s1 ⟨x,H1,I1,r1,q1⟩=>?_)
 obtain ⟨c,rfl,q1⟩:=q1
 cases r1
 exact not_of (wpAny_truthy_bool ⟨.bl (!c),H1,I1,rfl,q1⟩)
noncomputable def tIf (t:TT) (ta tb:TE):TE:=λ σ H Q=>t σ H λ c H1=>if c=true then ta σ H1 Q else tb σ H1 Q
theorem zjj {c:Expr} (hc:PT X c tA) (ha:PE X a ta) (hb:PE X b tb):PE X (.IfExp c a b pos) (tIf tA ta tb) := .mk <| by
 intro pins s σ H Q I h
 refine wpAny_IfExp (thn (hc pins s σ H _ I h) λ d s1 ⟨H1,I1,q1⟩=>?_)
 cases d with
 | true=>exact ha pins s1 σ H1 Q I1 q1
 | false=>exact hb pins s1 σ H1 Q I1 q1
end
end L2
namespace L2
open PySem PySem.Spec PyProof.Rows
noncomputable def SqL (K:W.Frag) (H:Hp) (a:Addr) (xs:List V):Prop :=
 Rd H a (.lst xs) ∨
  ∃ (o:Obj) (its:Array Value) (n:Nat),K.lookup a=some o∧o.cls = .type "list" ∧ o.dict=none∧o.data = .seq its n∧its.size≤sizeLine∧Vals xs its.toList
noncomputable def SqT (K:W.Frag) (H:Hp) (a:Addr) (xs:List V):Prop :=
 Rd H a (.tup xs) ∨
  ∃ (o:Obj) (its:Array Value) (n:Nat),K.lookup a=some o∧o.cls = .type "tuple" ∧ o.data = .seq its n∧its.size≤sizeLine∧Vals xs its.toList
noncomputable def absV:Value→Option V
 | .none=>some .non
 | .bool b=>some (.bl b)
 | .int i _=>some (.int i)
 | .str x _=>some (.str x)
 | .bytes b _=>some (.byt b)
 | .float b _=>some (.flt b)
 | .ref a=>some (.ref a)
 | .type n=>some (.ty n)
 | _=>none
theorem RelV.abs {x:V} {u:Value} (r:RelV x u):absV u=some x:=by
 cases x with
 | non=>cases r;rfl
 | bl _=>cases r;rfl
 | int _=>obtain ⟨t,rfl⟩:=r;rfl
 | str _=>obtain ⟨t,rfl⟩:=r;rfl
 | byt _=>obtain ⟨t,rfl⟩:=r;rfl
 | flt _=>obtain ⟨t,rfl⟩:=r;rfl
 | ref _=>cases r;rfl
 | ty _=>cases r;rfl
theorem RelV.inj {x y:V} {u:Value} (r:RelV x u) (q:RelV y u):x=y:=Option.some.inj (r.abs.symm.trans q.abs)
theorem Vals.inj:∀ {xs ys:List V} {us:List Value},Vals xs us→Vals ys us→xs=ys
 | _,_,_,.nil,.nil=>rfl
 | _,_,_,.cons r t,.cons r' t'=>by rw [r.inj r',Vals.inj t t']
section
variable {X:Cx} {pins:List (Addr×Obj)} {σ:St} {H:Hp} {s:Shared} {a:Addr} {xs ys:List V}
theorem SqL.of {K:W.Frag} (h:H a=some (.lst xs)):SqL K H a xs := .inl (.inl h)
theorem SqT.of {K:W.Frag} (h:H a=some (.tup xs)):SqT K H a xs := .inl (.inl h)
theorem Inv.list (I:Inv X pins σ H s) (h:SqL X.K H a xs):∃ its:List Value,Vals xs its∧PlainL s.heap a its.toArray∧xs.length≤sizeLine:=by
 rcases h with h | ⟨o,its,n,hk,hc,hd,hs,hz,r⟩
 ·obtain ⟨z,its,n,r,e⟩:=h.ok I.hok
  exact ⟨its,r,⟨_,n,e,rfl,rfl,rfl⟩,z⟩
 ·refine ⟨its.toList,r,⟨o,n,I.kIn a o hk,hc,hd,by simpa using hs⟩,?_⟩
  have e:=r.length
  simp only [Array.length_toList] at e
  omega
theorem Inv.tuple (I:Inv X pins σ H s) (h:SqT X.K H a xs):∃ its:List Value,Vals xs its∧IsTup s.heap a its.toArray∧xs.length≤sizeLine:=by
 rcases h with h | ⟨o,its,n,hk,hc,hs,hz,r⟩
 ·obtain ⟨z,its,r,p⟩:=h.ok I.hok
  exact ⟨its,r,p,z⟩
 ·refine ⟨its.toList,r,⟨o,I.kIn a o hk,hc,n,by simpa using hs⟩,?_⟩
  have e:=r.length
  simp only [Array.length_toList] at e
  omega
theorem Inv.list_inj (I:Inv X pins σ H s) (h:SqL X.K H a xs) (h':SqL X.K H a ys):xs=ys:=by
 obtain ⟨its,r,⟨o,n,e,_,_,d⟩,_⟩:=I.list h
 obtain ⟨its',r',⟨o',n',e',_,_,d'⟩,_⟩:=I.list h'
 rw [e] at e';cases e'
 rw [d] at d'
 injection d' with d1 _
 have:its=its':=by simpa using congrArg Array.toList d1
 subst this
 exact r.inj r'
theorem Inv.tuple_inj (I:Inv X pins σ H s) (h:SqT X.K H a xs) (h':SqT X.K H a ys):xs=ys:=by
 obtain ⟨its,r,⟨o,e,_,n,d⟩,_⟩:=I.tuple h
 obtain ⟨its',r',⟨o',e',_,n',d'⟩,_⟩:=I.tuple h'
 rw [e] at e';cases e'
 rw [d] at d'
 injection d' with d1 _
 have:its=its':=by simpa using congrArg Array.toList d1
 subst this
 exact r.inj r'
end
noncomputable abbrev Cx.wish (X:Cx) (E:Value→Shared→Prop):Cx:={ X with xe:=E }
noncomputable abbrev Cx.nox (X:Cx):Cx:=X.wish λ _ _=>False
theorem Cx.Ok.wish {X:Cx} (ok:X.Ok) (E:Value→Shared→Prop):(X.wish E).Ok :=
 ⟨ok.mod,ok.kind,ok.glob,ok.blt,ok.above,ok.inj,ok.has,ok.cab,ok.hd,ok.frames,ok.stk,ok.exf,ok.bs,ok.bsz,ok.noex,ok.exfs,ok.funs,ok.frf⟩
theorem Cx.Ok.unwish {X:Cx} {E:Value→Shared→Prop} (ok:(X.wish E).Ok):X.Ok :=
 ⟨ok.mod,ok.kind,ok.glob,ok.blt,ok.above,ok.inj,ok.has,ok.cab,ok.hd,ok.frames,ok.stk,ok.exf,ok.bs,ok.bsz,ok.noex,ok.exfs,ok.funs,ok.frf⟩
section
variable {X:Cx} {pins:List (Addr×Obj)} {σ:St} {H:Hp} {s:Shared} {E:Value→Shared→Prop}
theorem Inv.wish (I:Inv X pins σ H s) (E:Value→Shared→Prop):Inv (X.wish E) pins σ H s:=⟨I.ok.wish E,I.os,I.bare,I.base,I.loc,I.cell,I.free,I.freeC,I.pin,I.hok,I.len⟩
theorem Inv.unwish (I:Inv (X.wish E) pins σ H s):Inv X pins σ H s:=⟨I.ok.unwish,I.os,I.bare,I.base,I.loc,I.cell,I.free,I.freeC,I.pin,I.hok,I.len⟩
theorem SP.unwish {D:Ends} {f:Flow} {s':Shared} (h:SP (X.wish E) pins D f s'):SP X pins D f s':=by
 cases f with
 | next=>obtain ⟨σ',H',I,q⟩:=h;exact ⟨σ',H',I.unwish,q⟩
 | brk=>obtain ⟨σ',H',I,q⟩:=h;exact ⟨σ',H',I.unwish,q⟩
 | cont=>obtain ⟨σ',H',I,q⟩:=h;exact ⟨σ',H',I.unwish,q⟩
 | ret u=>obtain ⟨v,σ',H',I,r,q⟩:=h;exact ⟨v,σ',H',I.unwish,r,q⟩
theorem PSs.nox {st:List Stmt} {t:TS} (h:PSs X.nox st t):PSs X st t := .mk <| λ pins s σ H D I hw =>
 wpAny_mono (h pins s σ H D (I.wish _) hw) (λ _ _ q=>q.unwish) λ _ _ z=>False.elim z
end
section
variable {X:Cx} {st:Stmt} {rest:List Stmt} {t u:TS} {e:Expr} {te:TE} {pos:Pos}
noncomputable def zsv:TS:=λ D σ H=>D.nx σ H
noncomputable def tSeq (t u:TS):TS:=λ D σ H=>t { D with nx:=u D } σ H
theorem zla:PSs X [] zsv := .mk <| λ _ _ σ H _ I h=>wpAny_execs_nil ⟨σ,H,I,h⟩
theorem zba (h1:PS X st t) (h2:PSs X rest u):PSs X (st::rest) (tSeq t u) := .mk <| by
 intro pins s σ H D I h
 refine wpAny_execs_cons (thn (h1 pins s σ H { D with nx:=u D } I h) λ f s1 q=>?_)
 cases f with
 | next =>
  obtain ⟨σ',H',I',q⟩:=q
  exact h2 pins s1 σ' H' D I' q
 | ret v=>exact q
 | brk=>exact q
 | cont=>exact q
theorem zga (h1:PS X st t):PSs X [st] t := .mk <| by
 intro pins s σ H D I h
 refine wpAny_execs_cons (thn (h1 pins s σ H D I h) λ f s1 q=>?_)
 cases f with
 | next=>exact wpAny_execs_nil q
 | ret v=>exact q
 | brk=>exact q
 | cont=>exact q
theorem Inv.quiet {pins:List (Addr×Obj)} {σ:St} {H:Hp} {s:Shared} (I:Inv X pins σ H s):interactive X.env=false:=by simp [interactive,I.ok.kind]
noncomputable def znv (te:TE):TS:=λ D σ H=>te σ H λ _ H1=>D.nx σ H1
theorem zrl (he:PE X e te) (hs:swapsWith e none pos.line X.env=pure false:=by rfl):PS X (.Expr e pos) (znv te) := .mk <| by
 intro pins s σ H D I h
 exact wpAny_Expr_any (thn (he pins s σ H _ I h) λ v s1 ⟨x,H1,I1,r1,q1⟩=>⟨σ,H1,I1,q1⟩) I.quiet hs
noncomputable def tRet (te:TE):TS:=λ D σ H=>te σ H D.rt
theorem zpa (he:PE X e te):PS X (.Return (some e) pos) (tRet te) := .mk <| by
 intro pins s σ H D I h
 exact wpAny_Return_some (thn (he pins s σ H _ I h) λ v s1 ⟨x,H1,I1,r1,q1⟩=>⟨x,σ,H1,I1,r1,q1⟩)
noncomputable def tIfS (c:TT) (t u:TS):TS:=λ D σ H=>c σ H λ b H1=>if b=true then t D σ H1 else u D σ H1
theorem zmb {c:Expr} {a b:List Stmt} {tc:TT} (hc:PT X c tc) (ha:PSs X a t) (hb:PSs X b u):PS X (.If c a b pos) (tIfS tc t u) := .mk <| by
 intro pins s σ H D I h
 refine wpAny_If (thn (hc pins s σ H _ I h) λ d s1 ⟨H1,I1,q1⟩=>?_)
 cases d with
 | true=>exact ha pins s1 σ H1 D I1 q1
 | false=>exact hb pins s1 σ H1 D I1 q1
end
noncomputable abbrev TG:=V→St→Hp→(St→Hp→Prop)→Prop
noncomputable abbrev TGs:=List V→St→Hp→(St→Hp→Prop)→Prop
structure PG (X:Cx) (target:Expr) (t:TG):Prop where
 run :
 ∀ (pins:List (Addr×Obj)) (s:Shared) (σ:St) (H:Hp) (v:V) (u:Value) (Q:St→Hp→Prop),Inv X pins σ H s→RelV v u→t v σ H Q →
  wpAny (model X.prog X.w) X.A (assign target X.env u) (λ _ s'=>∃ σ' H',Inv X pins σ' H' s'∧Q σ' H') X.xe s
noncomputable instance {X:Cx} {target:Expr} {t:TG}:CoeFun (PG X target t) (λ _ =>
 ∀ (pins:List (Addr×Obj)) (s:Shared) (σ:St) (H:Hp) (v:V) (u:Value) (Q:St→Hp→Prop),Inv X pins σ H s→RelV v u→t v σ H Q →
  wpAny (model X.prog X.w) X.A (assign target X.env u) (λ _ s'=>∃ σ' H',Inv X pins σ' H' s'∧Q σ' H') X.xe s
 ):=⟨λ h=>h.run⟩
structure PGs (X:Cx) (ts:List Expr) (t:TGs):Prop where
 run :
 ∀ (pins:List (Addr×Obj)) (s:Shared) (σ:St) (H:Hp) (vs:List V) (us:List Value) (Q:St→Hp→Prop),Inv X pins σ H s→Vals vs us→t vs σ H Q →
  wpAny (model X.prog X.w) X.A (assignInOrder ((assignEach ts X.env).map (·.2)) us) (λ _ s'=>∃ σ' H',Inv X pins σ' H' s'∧Q σ' H') X.xe s
noncomputable instance {X:Cx} {ts:List Expr} {t:TGs}:CoeFun (PGs X ts t) (λ _ =>
 ∀ (pins:List (Addr×Obj)) (s:Shared) (σ:St) (H:Hp) (vs:List V) (us:List Value) (Q:St→Hp→Prop),Inv X pins σ H s→Vals vs us→t vs σ H Q →
  wpAny (model X.prog X.w) X.A (assignInOrder ((assignEach ts X.env).map (·.2)) us) (λ _ s'=>∃ σ' H',Inv X pins σ' H' s'∧Q σ' H') X.xe s
 ):=⟨λ h=>h.run⟩
section
variable {X:Cx} {pos:Pos}
noncomputable def zbq (i:Nat):TG:=λ v σ H Q=>Q (σ.set i (some v)) H
theorem zab {i:Nat} {x:Str} (hN:X.N.Nodup) (hi:X.N[i]? = some x) (hx:Loc X.env.scope x) (hf:X.fn x=true ∨ X.env.scope.names.lookup x=some .local:=by first | exact .inl rfl | exact .inr rfl | assumption):PG X (.Name x pos) (zbq i) := .mk <| by
 intro pins s σ H v u Q I r h
 exact wpAny_assign_Name (ztf I hN hi hx r (λ s' I'=>⟨_,H,I',h⟩) hf)
noncomputable def gNil:TGs:=λ vs σ H Q=>vs=[]∧Q σ H
noncomputable def ziq (t:TG) (u:TGs):TGs:=λ vs σ H Q=>∃ v r,vs=v::r∧t v σ H λ σ' H'=>u r σ' H' Q
theorem zjd:PGs X [] gNil := .mk <| by
 intro pins s σ H vs us Q I r h
 obtain ⟨e,h⟩:=h
 subst e
 cases r
 exact assignInOrder_nil ⟨σ,H,I,h⟩
theorem zxa {e:Expr} {es:List Expr} {t:TG} {u:TGs} (h1:PG X e t) (h2:PGs X es u)
  (hs:(assignEach (e::es) X.env).map (·.2)=assign e X.env::(assignEach es X.env).map (·.2):=by rfl):PGs X (e::es) (ziq t u) := .mk <| by
 intro pins s σ H vs us Q I r h
 obtain ⟨v,vr,e1,h⟩:=h
 subst e1
 cases r with
 | cons r rr =>
  rw [hs]
  refine assignInOrder_cons (thn (h1 pins s σ H _ _ _ I r h) λ _ s1 ⟨σ1,H1,I1,q1⟩=>?_)
  exact h2 pins s1 σ1 H1 _ _ Q I1 rr q1
noncomputable def gTup (K:W.Frag) (n:Nat) (t:TGs):TG:=λ v σ H Q=>∃ a xs,v = .ref a∧SqT K H a xs∧xs.length=n∧t xs σ H Q
theorem zhh {es:List Expr} {k:Nat} {t:TGs} {n:Nat} (hc:X.calm=true) (h:PGs X es t)
  (hn:(assignEach es X.env).length=n:=by rfl) (hst:(assignEach es X.env).findIdx? (·.1)=none:=by rfl):PG X (.Tuple es k pos) (gTup X.K n t) := .mk <| by
 intro pins s σ H v u Q I r hw
 obtain ⟨a,xs,e1,hq,hl,hw⟩:=hw
 subst e1
 cases r
 obtain ⟨its,rv,ht,hz⟩:=I.tuple hq
 refine assign_Tuple_tuple (I.ok.hd hc) ht (by simp [hn,← hl,rv.length]) hst λ h' hx=>?_
 have I1:Inv X pins σ H { s with heap:=h' }:=I.kept (t':=s.toks) λ b o e=>hx b o (Nat.ne_of_lt (Heap.lt_size e)) e
 exact h pins _ σ H xs _ Q I1 (by simpa using rv) hw
noncomputable def tAsg (te:TE) (g:TG):TS:=λ D σ H=>te σ H λ x H1=>g x σ H1 D.nx
theorem zfh {tg e:Expr} {te:TE} {g:TG} (he:PE X e te) (hg:PG X tg g) (hs:swapsWithSole [tg] e pos.line X.env=pure false:=by rfl) (hw:swappedStores [tg] e X.env=pure none:=by rfl)
  (h1:(assignEach [tg] X.env).map (·.2)=[assign tg X.env]:=by rfl):PS X (.Assign [tg] e pos) (tAsg te g) := .mk <| by
 intro pins s σ H D I h
 refine wpAny_Assign_stores (thn (he pins s σ H _ I h) λ v s1 ⟨x,H1,I1,r1,q1⟩=>?_) hs hw
 rw [h1]
 exact thn (hg pins s1 σ H1 x v _ I1 r1 q1) λ _ s2 q=>q
theorem zsa {i:Nat} {x:Str} {e:Expr} {te:TE} {pos':Pos} (hN:X.N.Nodup) (hi:X.N[i]? = some x) (hx:Loc X.env.scope x) (he:PE X e te) (hs:swapsWith e (some (.Name x pos')) pos.line X.env=pure false:=by rfl) (hf:X.fn x=true ∨ X.env.scope.names.lookup x=some .local:=by first | exact .inl rfl | exact .inr rfl | assumption) :
  PS X (.Assign [.Name x pos'] e pos) (tAsg te (zbq i)) := .mk <| by
 intro pins s σ H D I h
 refine wpAny_Assign_Name (thn (he pins s σ H _ I h) λ v s1 ⟨y,H1,I1,r1,q1⟩=>?_) hs
 exact ztf I1 hN hi hx r1 (λ s2 I2=>⟨_,H1,I2,q1⟩) hf
end
section
variable {X:Cx} {pos:Pos}
end
structure It where
 go:Nat→Hp→Prop
 yld:Nat→Hp→V→Hp→Prop
 stop:Nat→Hp→Prop
noncomputable def FpOk (X:Cx) (pins:List (Addr×Obj)) (H:Hp) (b:Addr):Prop :=
 H b=none∧b≠X.env.locals∧b∉X.fs∧(b∈X.ex ∨ X.s₀.heap.objs.size≤b)∧(∀ x c,X.env.cells.lookup x=some c→c≠b)∧∀ p∈X.pn++pins,p.1≠b
theorem Inv.fpOk {X:Cx} {pins:List (Addr×Obj)} {σ:St} {H H':Hp} {s:Shared} {b:Addr} (I:Inv X pins σ H s) (hb:s.heap.objs.size≤b) (hn:H' b=none):FpOk X pins H' b:=by
 refine ⟨hn,Nat.ne_of_gt (Nat.lt_of_lt_of_le I.lt hb),I.nofs hb,.inr (Nat.le_trans I.sz hb),λ x c e z=>?_,λ p hp z=>?_⟩
 ·obtain ⟨v,q⟩:=I.cell x c e
  exact absurd (Nat.lt_of_lt_of_le q.lt (by rw [z];exact hb)) (Nat.lt_irrefl _)
 ·exact absurd (Nat.lt_of_lt_of_le (Heap.lt_size (I.pin p hp).1) (by rw [z];exact hb)) (Nat.lt_irrefl _)
structure Turn (P:Program) (w:World) (K:W.Frag) (tg:Expr) (J:It) (fp:List Addr) (it:Addr) (tn:Nat→Heap→Prop):Prop where
 mem:it∈fp
 obj:∀ i h,tn i h→∀ b∈fp,∃ o,h.get? b=some o∧∀ v,o.data ≠ .cell v
 keep:∀ i h h',tn i h→(∀ b∈fp,∀ o,h.get? b=some o→h'.get? b=some o)→tn i h'
 item:∀ (X:Cx),X.prog=P→X.w=w→X.K=K→X.calm=true→∀ (i:Nat) (pins:List (Addr×Obj)) (s:Shared) (σ:St) (H:Hp) (E:Value→Shared→Prop),Inv X pins σ H s→(∀ b∈fp,FpOk X pins H b)→tn i s.heap→J.go i H →
  wpAny (model P w) X.A (pyNext (.ref it)) (λ r s1=>∃ u,r=some u ∧
   wpAny (model P w) X.A (letOwnedTupleGo tg (.ref it) u) (λ _ s2=>∃ x H',Inv X pins σ H' s2∧RelV x u∧J.yld i H x H'∧tn (i+1) s2.heap∧∀ b∈fp,H' b=none) E s1) E s
 done:∀ (X:Cx),X.prog=P→X.w=w→X.K=K→X.calm=true→∀ (i:Nat) (pins:List (Addr×Obj)) (s:Shared) (σ:St) (H:Hp) (E:Value→Shared→Prop),Inv X pins σ H s→(∀ b∈fp,FpOk X pins H b)→tn i s.heap→J.stop i H →
  wpAny (model P w) X.A (pyNext (.ref it)) (λ r s1=>r=none∧Inv X pins σ H s1) E s
 self:∀ (A:Around) (i:Nat) (s:Shared) (Q:Value→Shared→Prop) (E:Value→Shared→Prop),tn i s.heap→Q (.ref it) s→wpAny (model P w) A (pyIter (.ref it)) Q E s
noncomputable abbrev TI:=St→Hp→(It→Hp→Prop)→Prop
noncomputable def PIE (X:Cx) (pins:List (Addr×Obj)) (σ:St) (tg:Expr) (R:It→Hp→Prop) (itv:Value) (s2:Shared):Prop :=
 ∃ (it:Addr) (fp:List Addr) (tn:Nat→Heap→Prop) (J:It) (H':Hp),itv = .ref it∧Inv X pins σ H' s2∧Turn X.prog X.w X.K tg J fp it tn∧tn 0 s2.heap∧(∀ b∈fp,FpOk X pins H' b)∧R J H'
structure PI (X:Cx) (tg iter:Expr) (wi:TI):Prop where
 run :
 ∀ (pins:List (Addr×Obj)) (s:Shared) (σ:St) (H:Hp) (R:It→Hp→Prop),Inv X pins σ H s→wi σ H R →
  wpAny (model X.prog X.w) X.A (eval iter X.env) (λ v s1=>wpAny (model X.prog X.w) X.A (pyIter v) (PIE X pins σ tg R) X.xe s1) X.xe s
noncomputable instance {X:Cx} {tg iter:Expr} {wi:TI}:CoeFun (PI X tg iter wi) (λ _ =>
 ∀ (pins:List (Addr×Obj)) (s:Shared) (σ:St) (H:Hp) (R:It→Hp→Prop),Inv X pins σ H s→wi σ H R →
  wpAny (model X.prog X.w) X.A (eval iter X.env) (λ v s1=>wpAny (model X.prog X.w) X.A (pyIter v) (PIE X pins σ tg R) X.xe s1) X.xe s
 ):=⟨λ h=>h.run⟩
theorem ziu {M:Model} {A:Around} {E:Value→Shared→Prop} {s:Shared} {tg:Expr} {it:Addr} {u:Value} {o:Obj} {n:String} {vs:Array Value} {Q:Unit→Shared→Prop} (ho:s.heap.get? it=some o) (hc:o.cls = .type n) (hd:o.data = .fields vs)
  (hn:["enumerate", "zip", "dict_itemiterator", "dict_reverseitemiterator", "odict_iterator", "itertools.zip_longest", "itertools.pairwise"].contains n=false) (hQ:Q () s):wpAny M A (letOwnedTupleGo tg (.ref it) u) Q E s:=by
 unfold letOwnedTupleGo
 cases tg <;> first
  | exact wpAny_pure hQ
  | (cases u <;> first
    | exact wpAny_pure hQ
    | (refine wpAny_bind (wpAny_load ho ?_)
       rw [hc,hd]
       show wpAny M A (if (["enumerate", "zip", "dict_itemiterator", "dict_reverseitemiterator", "odict_iterator", "itertools.zip_longest", "itertools.pairwise"].contains n && vs[0]? == some (rawInt _))=true then _ else _) Q E s
       rw [if_neg (by intro h;rw [hn,Bool.false_and] at h;cases h)]
       exact wpAny_pure hQ))
noncomputable def Itl (K:W.Frag) (a:Addr):It :=
 ⟨λ i H=>∃ xs x,SqL K H a xs∧xs[i]? = some x,λ i H x H'=>H'=H∧∀ xs,SqL K H a xs→xs[i]? = some x,λ i H=>∃ xs,SqL K H a xs∧xs.length≤i⟩
theorem zrk {P:Program} {w:World} {K:W.Frag} {tg:Expr} (a it:Addr):Turn P w K tg (Itl K a) [it] it (λ i h=>h.IsListIter it a i) where
 mem:=by simp
 obj:=λ i h st b hb=>by
  have e:b=it:=by simpa using hb
  subst e
  obtain ⟨o,e,c,d⟩:=st
  exact ⟨o,e,λ v z=>by rw [d] at z;cases z⟩
 keep:=λ i h h' st k=>st.at λ o e=>k it (by simp) o e
 item:=by
  intro X hP hw hK hc i pins s σ H E I hf st hg
  subst hP hw hK
  obtain ⟨xs,x,hq,hx⟩:=hg
  obtain ⟨its,rv,p,hz⟩:=I.list hq
  obtain ⟨u,hu,ru⟩:=rv.get hx
  obtain ⟨f0,f1,f2,f3,f4,f5⟩:=hf it (by simp)
  refine wpAny_pyNext_list_item st p.isList (x:=u) (by simpa using hu) λ h' st' sb=>?_
  have I1:Inv X pins σ H { s with heap:=h' }:=I.turned (t':=s.toks) (λ b o hb e=>(sb.2 b hb).trans e) f0 f1 f3 f4 f5
  obtain ⟨o,e,c,d⟩:=id st'
  exact ⟨u,rfl,ziu (s:={ s with heap:=h' }) e c d (by decide) ⟨x,H,I1,ru,⟨rfl,λ ys hy=>by rw [I.list_inj hy hq];exact hx⟩,st',λ b hb=>(hf b hb).1⟩⟩
 done:=by
  intro X hP hw hK hc i pins s σ H E I hf st hg
  subst hP hw hK
  obtain ⟨xs,hq,hx⟩:=hg
  obtain ⟨its,rv,p,hz⟩:=I.list hq
  obtain ⟨f0,f1,f2,f3,f4,f5⟩:=hf it (by simp)
  have hl:=rv.length
  exact wpAny_pyNext_list_end (I.ok.hd hc) st p.isList (by simp;omega) λ h' eb=>⟨rfl,I.turned (t':=s.toks) (λ b o hb e=>eb b o hb e) f0 f1 f3 f4 f5⟩
 self:=λ _ _ _ _ _ st h=>wpAny_pyIter_listiter st h
end L2
namespace L2
open PySem PySem.Spec PyProof.Rows
section
variable {X:Cx} {tg:Expr}
noncomputable def zdw (K:W.Frag) (tl:TE):TI:=λ σ H R=>tl σ H λ x H1=>∃ a,x = .ref a∧(∃ xs,SqL K H1 a xs)∧R (Itl K a) H1
theorem zkl {l:Expr} {tl:TE} (hl:PE X l tl):PI X tg l (zdw X.K tl) := .mk <| by
 intro pins s σ H R I h
 refine thn (hl pins s σ H _ I h) λ v s1 ⟨x,H1,I1,r1,q1⟩=>?_
 obtain ⟨a,e,⟨xs,hq⟩,q⟩:=q1
 subst e
 cases r1
 obtain ⟨its,rv,p,hz⟩:=I1.list hq
 refine wpAny_pyIter_list p.isList ?_
 refine ⟨s1.heap.objs.size,[s1.heap.objs.size],_,_,H1,rfl,I1.kept (t':=s1.toks) λ b o e=>Heap.get?_push_of_some _ e,zrk a _,⟨_,Heap.get?_push_size _ rfl,rfl,rfl⟩,λ b hb=>?_,q⟩
 have e:b=s1.heap.objs.size:=by simpa using hb
 subst e
 exact I1.fpOk (Nat.le_refl _) (I1.hok.fresh (Nat.le_refl _))
noncomputable def tFor (wi:TI) (g:TG) (tb:TS):TS:=λ D σ H=>wi σ H λ J H1=>∃ W:Nat→Nat→St→Hp→Prop,(∃ m,W 0 m σ H1)∧∀ i m σ H,W i m σ H →
 (J.stop i H∧D.nx σ H) ∨ (J.go i H∧∃ N:St→Hp→Prop,(∀ σ' H',N σ' H'→∃ m',m'<m∧W (i+1) m' σ' H')∧∀ x H',J.yld i H x H'→g x σ H' λ σ2 H2=>tb { D with nx:=N,ct:=N,bk:=D.nx } σ2 H2)
noncomputable def zth (fp:List Addr) (h:Heap):List (Addr×Obj):=fp.filterMap λ b=>(h.get? b).map λ o=>(b,o)
theorem zad {fp:List Addr} {h:Heap} {b:Addr} {o:Obj} (hb:b∈fp) (e:h.get? b=some o):(b,o)∈zth fp h:=List.mem_filterMap.mpr ⟨b,hb,by rw [e];rfl⟩
theorem zmj {fp:List Addr} {h:Heap} {p:Addr×Obj} (hp:p∈zth fp h):p.1∈fp∧h.get? p.1=some p.2:=by
 obtain ⟨b,hb,e⟩:=List.mem_filterMap.mp hp
 cases q:h.get? b with
 | none=>rw [q] at e;cases e
 | some o =>
  rw [q] at e
  have e':(b,o)=p:=Option.some.inj e
  subst e'
  exact ⟨hb,q⟩
theorem Inv.pinned {pins:List (Addr×Obj)} {σ:St} {H:Hp} {s:Shared} {fp:List Addr} (I:Inv X pins σ H s) (hf:∀ b∈fp,FpOk X pins H b) (ho:∀ b∈fp,∃ o,s.heap.get? b=some o∧∀ v,o.data ≠ .cell v):Inv X (pins++zth fp s.heap) σ H s :=
 I.pins_of λ p hp=>(List.mem_append.mp hp).elim (λ z=>I.pin p (List.mem_append_right _ z)) λ z=>by
  obtain ⟨hb,e⟩:=zmj z
  obtain ⟨f0,f1,f2,_⟩:=hf p.1 hb
  obtain ⟨o,e',d⟩:=ho p.1 hb
  rw [e] at e';cases e'
  exact ⟨e,f0,f1,f2,d⟩
theorem Inv.unpinned {pins pl:List (Addr×Obj)} {σ:St} {H:Hp} {s:Shared} (I:Inv X (pins++pl) σ H s):Inv X pins σ H s:=I.pins_of λ p hp=>I.pin p (List.mem_append_right _ (List.mem_append_left _ hp))
theorem zqp {iter:Expr} {body:List Stmt} {wi:TI} {g:TG} {tb:TS} {pos:Pos} (hp:PassesOwn (model X.prog X.w) X.A X.env X.xe) (hc:X.calm=true) (hi:PI X tg iter wi) (hg:PG X tg g) (hb:PSs X body tb)
  (hs:∀ x,foldedSetIterable iter X.env x=pure x:=by intro _;rfl):PS X (.For tg iter body [] pos) (tFor wi g tb) := .mk <| by
 intro pins s σ H D I h
 refine wpAny_For (thn (hi pins s σ H _ I h) λ v s1 h1=>thn h1 λ itv s2 h2=>?_) hs
 obtain ⟨it,fp,tn,J,H2,e,I2,T,st2,f2,W,⟨m0,w0⟩,turn⟩:=h2
 subst e
 have stat:∀ {H':Hp},(∀ b∈fp,H' b=none)→∀ b∈fp,FpOk X pins H' b:=λ hn b hb=>⟨hn b hb,(f2 b hb).2⟩
 refine codeAny_forLoop_any (λ n s'=>∃ i σ' H',Inv X pins σ' H' s'∧tn i s'.heap∧(∀ b∈fp,H' b=none)∧W i n σ' H') ?_ m0 ⟨0,σ,H2,I2,st2,λ b hb=>(f2 b hb).1,w0⟩
 rintro n s3 ⟨i,σ3,H3,I3,st3,fr3,w3⟩
 rcases turn i n σ3 H3 w3 with ⟨stop,qn⟩ | ⟨go,N,hN,step⟩
 ·refine wpAny_passesOwn hp (thn (T.done X rfl rfl rfl hc i pins s3 σ3 H3 X.xe I3 (stat fr3) st3 stop) λ r s4 ⟨hr,I4⟩=>?_)
  subst hr
  exact wpAny_execs_nil ⟨σ3,H3,I4,qn⟩
 ·refine wpAny_passesOwn hp (thn (T.item X rfl rfl rfl hc i pins s3 σ3 H3 X.xe I3 (stat fr3) st3 go) λ r s4 ⟨u,hr,h4⟩=>?_)
  subst hr
  refine wpAny_passesOwn hp (thn h4 λ _ s5 ⟨x,H5,I5,r5,y5,st5,fr5⟩=>?_)
  have I5':=I5.pinned (stat fr5) (T.obj _ _ st5)
  refine wpAny_passesOwn hp (thn (hg _ s5 σ3 H5 x u _ I5' r5 (step x H5 y5)) λ _ s6 ⟨σ6,H6,I6,q6⟩=>?_)
  refine wpAny_passesOwn hp (thn (hb _ s6 σ6 H6 _ I6 q6) λ f s7 q7=>?_)
  have again:∀ {σ7:St} {H7:Hp},Inv X (pins++zth fp s5.heap) σ7 H7 s7→N σ7 H7→∃ m,m<n∧∃ i σ' H',Inv X pins σ' H' s7∧tn i s7.heap∧(∀ b∈fp,H' b=none)∧W i m σ' H':=fun {σ7 H7} I7 n7=>by
   obtain ⟨m',hm,w7⟩:=hN σ7 H7 n7
   refine ⟨m',hm,i+1,σ7,H7,I7.unpinned,T.keep _ _ _ st5 λ b hb o e=>(I7.pin (b,o) (List.mem_append_right _ (List.mem_append_right _ (zad hb e)))).1,λ b hb=>?_,w7⟩
   obtain ⟨o,e,d⟩:=T.obj _ _ st5 b hb
   exact (I7.pin (b,o) (List.mem_append_right _ (List.mem_append_right _ (zad hb e)))).2.1
  cases f with
  | next=>obtain ⟨σ7,H7,I7,n7⟩:=q7;exact again I7 n7
  | cont=>obtain ⟨σ7,H7,I7,n7⟩:=q7;exact again I7 n7
  | brk=>obtain ⟨σ7,H7,I7,q7⟩:=q7;exact ⟨σ7,H7,I7.unpinned,q7⟩
  | ret v=>obtain ⟨x7,σ7,H7,I7,r7,q7⟩:=q7;exact ⟨x7,σ7,H7,I7.unpinned,r7,q7⟩
end
end L2
namespace L2
open PySem PySem.Spec PyProof.Rows
noncomputable abbrev R2:=V→V→Hp→VK→Prop
noncomputable def OpR (X:Cx) (f:Value→Value→Sem Value) (r:R2):Prop :=
 ∀ (pins:List (Addr×Obj)) (s:Shared) (σ:St) (H:Hp) (x y:V) (v u:Value) (Q:VK),Inv X pins σ H s→RelV x v→RelV y u→r x y H Q →
  wpAny (model X.prog X.w) X.A (f v u) (EP X pins σ Q) X.xe s
noncomputable def UnR (X:Cx) (f:Value→Sem Value) (r:V→Hp→VK→Prop):Prop :=
 ∀ (pins:List (Addr×Obj)) (s:Shared) (σ:St) (H:Hp) (x:V) (v:Value) (Q:VK),Inv X pins σ H s→RelV x v→r x H Q →
  wpAny (model X.prog X.w) X.A (f v) (EP X pins σ Q) X.xe s
noncomputable def zmi (X:Cx) (f:Value) (r:List V→Hp→VK→Prop):Prop :=
 ∀ (pins:List (Addr×Obj)) (s:Shared) (σ:St) (H:Hp) (xs:List V) (us:List Value) (Q:VK),Inv X pins σ H s→Vals xs us→r xs H Q →
  wpAny (model X.prog X.w) X.A (call f us) (EP X pins σ Q) X.xe s
noncomputable def tOp (r:R2) (ta tb:TE):TE:=λ σ H Q=>ta σ H λ x H1=>tb σ H1 λ y H2=>r x y H2 Q
noncomputable def tUn (r:V→Hp→VK→Prop) (ta:TE):TE:=λ σ H Q=>ta σ H λ x H1=>r x H1 Q
noncomputable def rI (C:Int→Int→Prop) (g:Int→Int→V):R2:=λ x y H Q=>∃ i j,x = .int i∧y = .int j∧C i j∧Q (g i j) H
noncomputable def rI0 (g:Int→Int→V):R2:=λ x y H Q=>∃ i j,x = .int i∧y = .int j∧Q (g i j) H
noncomputable def rU (g:Int→V):V→Hp→VK→Prop:=λ x H Q=>∃ i,x = .int i∧Q (g i) H
section
variable {X:Cx} {a b c:Expr} {ta tb tc:TE} {pos:Pos}
theorem binT (ha:PE X a ta) (hb:PE X b tb) {pins:List (Addr×Obj)} {s:Shared} {σ:St} {H:Hp} {R:V→V→Hp→Prop} (I:Inv X pins σ H s)
  (h:ta σ H λ x H1=>tb σ H1 λ y H2=>R x y H2) {Q:Value→Shared→Prop} {f:Value→Value→Sem Value}
  (hf:∀ v u s2 x y H2,Inv X pins σ H2 s2→RelV x v→RelV y u→R x y H2→wpAny (model X.prog X.w) X.A (f v u) Q X.xe s2) :
  wpAny (model X.prog X.w) X.A (eval a X.env) (λ v s₁=>wpAny (model X.prog X.w) X.A (eval b X.env) (λ u s₂=>wpAny (model X.prog X.w) X.A (f v u) Q X.xe s₂) X.xe s₁) X.xe s:=by
 refine thn (ha pins s σ H _ I h) λ v s1 ⟨x,H1,I1,r1,q1⟩=>?_
 refine thn (hb pins s1 σ H1 _ I1 q1) λ u s2 ⟨y,H2,I2,r2,q2⟩=>?_
 exact hf v u s2 x y H2 I2 r1 r2 q2
theorem zka {op:Operator} {r:R2} (ho:OpR X (binaryOp op) r) (ha:PE X a ta) (hb:PE X b tb):PE X (.BinOp a op b pos) (tOp r ta tb) := .mk <| by
 intro pins s σ H Q I h
 exact wpAny_BinOp (binT ha hb I h λ v u s2 x y H2 I2 rx ry q=>ho pins s2 σ H2 x y v u Q I2 rx ry q)
theorem zwv {op:UnaryOp} {r:V→Hp→VK→Prop} (ho:UnR X (unaryOp op) r) (ha:PE X a ta):PE X (.UnaryOp op a pos) (tUn r ta) := .mk <| by
 intro pins s σ H Q I h
 exact UnaryOp_ (thn (ha pins s σ H _ I h) λ v s1 ⟨x,H1,I1,r1,q1⟩=>ho pins s1 σ H1 x v Q I1 r1 q1)
theorem opI {f:Value→Value→Sem Value} {C:Int→Int→Prop} {g:Int→Int→Int}
  (rule:∀ (i j:Int) (t u:Tok) (s:Shared) (Q:Value→Shared→Prop) (E:Value→Shared→Prop),C i j→Q (.int (g i j) s.toks) { s with toks:=s.toks+1 }→wpAny (model X.prog X.w) X.A (f (.int i t) (.int j u)) Q E s) :
  OpR X f (rI C λ i j=>.int (g i j)):=by
 intro pins s σ H x y v u Q I rx ry h
 obtain ⟨i,j,rfl,rfl,hc,q⟩:=h
 obtain ⟨t,rfl⟩:=rx
 obtain ⟨t',rfl⟩:=ry
 exact rule i j t t' s _ _ hc ⟨.int (g i j),H,I.tok _,⟨_,rfl⟩,q⟩
theorem opI0 {f:Value→Value→Sem Value} {g:Int→Int→Int}
  (rule:∀ (i j:Int) (t u:Tok) (s:Shared) (Q:Value→Shared→Prop) (E:Value→Shared→Prop),Q (.int (g i j) s.toks) { s with toks:=s.toks+1 }→wpAny (model X.prog X.w) X.A (f (.int i t) (.int j u)) Q E s) :
  OpR X f (rI0 λ i j=>.int (g i j)):=by
 intro pins s σ H x y v u Q I rx ry h
 obtain ⟨i,j,rfl,rfl,q⟩:=h
 obtain ⟨t,rfl⟩:=rx
 obtain ⟨t',rfl⟩:=ry
 exact rule i j t t' s _ _ ⟨.int (g i j),H,I.tok _,⟨_,rfl⟩,q⟩
theorem opB0 {f:Value→Value→Sem Value} {g:Int→Int→Bool}
  (rule:∀ (i j:Int) (t u:Tok) (s:Shared) (Q:Value→Shared→Prop) (E:Value→Shared→Prop),Q (.bool (g i j)) s→wpAny (model X.prog X.w) X.A (f (.int i t) (.int j u)) Q E s) :
  OpR X f (rI0 λ i j=>.bl (g i j)):=by
 intro pins s σ H x y v u Q I rx ry h
 obtain ⟨i,j,rfl,rfl,q⟩:=h
 obtain ⟨t,rfl⟩:=rx
 obtain ⟨t',rfl⟩:=ry
 exact rule i j t t' s _ _ ⟨.bl (g i j),H,I,rfl,q⟩
noncomputable def CDiv (i j:Int):Prop:=0<j∧j<1073741824
noncomputable def CMul (i j:Int):Prop:=(-(2 ^ 64)<i∧i<2 ^ 64) ∨ (-(2 ^ 64)<j∧j<2 ^ 64)
theorem CMul.ok {i j:Int} (h:CMul i j):IntMulOk i j:=by
 rcases h with ⟨h1,h2⟩ | ⟨h1,h2⟩
 ·exact .of_left (intBits_le_64 h1 h2)
 ·exact .of_right (intBits_le_64 h1 h2)
theorem ztb:OpR X (binaryOp .Add) (rI0 λ i j=>.int (i+j)):=opI0 λ _ _ _ _ _ _ _ q=>add_int q
theorem zmk:OpR X (binaryOp .Sub) (rI0 λ i j=>.int (i - j)):=opI0 λ _ _ _ _ _ _ _ q=>sub_int q
theorem zde:OpR X (binaryOp .Mult) (rI CMul λ i j=>.int (i * j)):=opI λ _ _ _ _ _ _ _ hc q=>mul_int q hc.ok
theorem zlb:OpR X (binaryOp .FloorDiv) (rI CDiv λ i j=>.int (i / j)):=opI λ i j _ _ _ _ _ hc q=>by
 have h1:(0:Int)<j:=hc.1
 have h2:j<1073741824:=hc.2
 exact floordiv_int (by omega) (by rw [Int.fdiv_eq_ediv_of_nonneg i (by omega)];exact q) (.inl (PyProof.noPylong_small (by omega)))
theorem zsb:OpR X (binaryOp .Mod) (rI (λ _ j=>0<j) λ i j=>.int (i % j)):=opI λ i j _ _ _ _ _ hc q=>by
 have h1:(0:Int)<j:=hc
 exact mod_int' (by omega) (by rw [Int.fmod_eq_emod_of_nonneg i (by omega)];exact q)
theorem unI {f:Value→Sem Value} {g:Int→Int}
  (rule:∀ (i:Int) (t:Tok) (s:Shared) (Q:Value→Shared→Prop) (E:Value→Shared→Prop),Q (.int (g i) s.toks) { s with toks:=s.toks+1 }→wpAny (model X.prog X.w) X.A (f (.int i t)) Q E s) :
  UnR X f (rU λ i=>.int (g i)):=by
 intro pins s σ H x v Q I rx h
 obtain ⟨i,rfl,q⟩:=h
 obtain ⟨t,rfl⟩:=rx
 exact rule i t s _ _ ⟨.int (g i),H,I.tok _,⟨_,rfl⟩,q⟩
theorem zls:UnR X (unaryOp .USub) (rU λ i=>.int (-i)):=unI λ _ _ _ _ _ q=>neg_int q
end
noncomputable def scal:V→V→Bool
 | .non,.non=>true | .non,.int _=>true | .int _,.non=>true | .non,.bl _=>true | .bl _,.non=>true | .non,.str _=>true | .str _,.non=>true
 | .int _,.int _=>true | .bl _,.bl _=>true | .str _,.str _=>true | .byt _,.byt _=>true
 | .int _,.str _=>true | .str _,.int _=>true | .bl _,.str _=>true | .str _,.bl _=>true
 | _,_=>false
noncomputable def rEq:R2:=λ x y H Q=>scal x y=true∧Q (.bl (decide (x=y))) H
noncomputable def rNe:R2:=λ x y H Q=>scal x y=true∧Q (.bl (!decide (x=y))) H
theorem zjl {i j:Int}:decide (V.int i=V.int j)=(i == j):=by
 rw [Bool.eq_iff_iff]
 simp
theorem zxn {i j:Bool}:decide (V.bl i=V.bl j)=(i == j):=by
 rw [Bool.eq_iff_iff]
 simp
theorem zpl {i j:Str}:decide (V.str i=V.str j)=(i == j):=by
 rw [Bool.eq_iff_iff]
 simp
theorem zql {i j:Array UInt8}:decide (V.byt i=V.byt j)=(i.toList == j.toList):=by
 rw [Bool.eq_iff_iff]
 cases i
 cases j
 simp
section
variable {X:Cx} {a b c:Expr} {ta tb tc:TE} {pos:Pos}
theorem zcb {pins:List (Addr×Obj)} {σ:St} {H:Hp} {s:Shared} {Q:VK} {k k':Bool} (I:Inv X pins σ H s) (q:Q (.bl k) H) (e:k=k'):EP X pins σ Q (.bool k') s:=by
 subst e
 exact ⟨.bl k,H,I,rfl,q⟩
theorem zdd:OpR X (compareOp .Eq) rEq:=by
 intro pins s σ H x y v u Q I rx ry h
 obtain ⟨hs,q⟩:=h
 cases x with
 | non =>
  cases rx
  cases y with
  | non=>cases ry;exact PySem.EqNone.eq_none_none (zcb I q (by simp))
  | bl j=>cases ry;exact PySem.EqNone.eq_none_bool (zcb I q (by simp))
  | int j=>obtain ⟨t',rfl⟩:=ry;exact PySem.EqNone.eq_none_int (zcb I q (by simp))
  | str j=>obtain ⟨t',rfl⟩:=ry;exact PySem.EqNone.eq_none_str (zcb I q (by simp))
  | _=>exact absurd (show false=true from hs) Bool.false_ne_true
 | bl i =>
  cases rx
  cases y with
  | non=>cases ry;exact PySem.EqNone.eq_bool_none (zcb I q (by simp))
  | bl j=>cases ry;exact eq_bool (zcb I q zxn)
  | str j=>obtain ⟨t',rfl⟩:=ry;exact PySem.EqMixed.eq_bool_str (zcb I q (by simp))
  | _=>exact absurd (show false=true from hs) Bool.false_ne_true
 | int i =>
  obtain ⟨t,rfl⟩:=rx
  cases y with
  | non=>cases ry;exact PySem.EqNone.eq_int_none (zcb I q (by simp))
  | int j=>obtain ⟨t',rfl⟩:=ry;exact eq_int (zcb I q zjl)
  | str j=>obtain ⟨t',rfl⟩:=ry;exact PySem.EqMixed.eq_int_str (zcb I q (by simp))
  | _=>exact absurd (show false=true from hs) Bool.false_ne_true
 | str i =>
  obtain ⟨t,rfl⟩:=rx
  cases y with
  | non=>cases ry;exact PySem.EqNone.eq_str_none (zcb I q (by simp))
  | bl j=>cases ry;exact PySem.EqMixed.eq_str_bool (zcb I q (by simp))
  | int j=>obtain ⟨t',rfl⟩:=ry;exact PySem.EqMixed.eq_str_int (zcb I q (by simp))
  | str j=>obtain ⟨t',rfl⟩:=ry;exact eq_str (zcb I q zpl)
  | _=>exact absurd (show false=true from hs) Bool.false_ne_true
 | byt i =>
  obtain ⟨t,rfl⟩:=rx
  cases y with
  | byt j=>obtain ⟨t',rfl⟩:=ry;exact W.eq_bytes (zcb I q zql)
  | _=>exact absurd (show false=true from hs) Bool.false_ne_true
 | _=>cases y <;> exact absurd (show false=true from hs) Bool.false_ne_true
theorem zvm:OpR X (compareOp .NotEq) rNe:=by
 intro pins s σ H x y v u Q I rx ry h
 obtain ⟨hs,q⟩:=h
 cases x with
 | non =>
  cases rx
  cases y with
  | non=>cases ry;exact PySem.EqNone.ne_none_none (zcb I q (by simp))
  | bl j=>cases ry;exact PySem.EqNone.ne_none_bool (zcb I q (by simp))
  | int j=>obtain ⟨t',rfl⟩:=ry;exact PySem.EqNone.ne_none_int (zcb I q (by simp))
  | str j=>obtain ⟨t',rfl⟩:=ry;exact PySem.EqNone.ne_none_str (zcb I q (by simp))
  | _=>exact absurd (show false=true from hs) Bool.false_ne_true
 | bl i =>
  cases rx
  cases y with
  | non=>cases ry;exact PySem.EqNone.ne_bool_none (zcb I q (by simp))
  | bl j=>cases ry;exact ne_bool (zcb I q (congrArg not zxn))
  | str j=>obtain ⟨t',rfl⟩:=ry;exact PySem.EqMixed.ne_bool_str (zcb I q (by simp))
  | _=>exact absurd (show false=true from hs) Bool.false_ne_true
 | int i =>
  obtain ⟨t,rfl⟩:=rx
  cases y with
  | non=>cases ry;exact PySem.EqNone.ne_int_none (zcb I q (by simp))
  | int j=>obtain ⟨t',rfl⟩:=ry;exact ne_int (zcb I q (congrArg not zjl))
  | str j=>obtain ⟨t',rfl⟩:=ry;exact PySem.EqMixed.ne_int_str (zcb I q (by simp))
  | _=>exact absurd (show false=true from hs) Bool.false_ne_true
 | str i =>
  obtain ⟨t,rfl⟩:=rx
  cases y with
  | non=>cases ry;exact PySem.EqNone.ne_str_none (zcb I q (by simp))
  | bl j=>cases ry;exact PySem.EqMixed.ne_str_bool (zcb I q (by simp))
  | int j=>obtain ⟨t',rfl⟩:=ry;exact PySem.EqMixed.ne_str_int (zcb I q (by simp))
  | str j=>obtain ⟨t',rfl⟩:=ry;exact ne_str (zcb I q (congrArg not zpl))
  | _=>exact absurd (show false=true from hs) Bool.false_ne_true
 | byt i =>
  obtain ⟨t,rfl⟩:=rx
  cases y with
  | byt j=>obtain ⟨t',rfl⟩:=ry;exact W.ne_bytes (zcb I q (congrArg not zql))
  | _=>exact absurd (show false=true from hs) Bool.false_ne_true
 | _=>cases y <;> exact absurd (show false=true from hs) Bool.false_ne_true
theorem zkq:OpR X (compareOp .Lt) (rI0 λ i j=>.bl (decide (i<j))):=opB0 λ _ _ _ _ _ _ _ q=>lt_int q
theorem zku:OpR X (compareOp .Gt) (rI0 λ i j=>.bl (decide (j<i))):=opB0 λ _ _ _ _ _ _ _ q=>gt_int q
theorem zkv:OpR X (compareOp .GtE) (rI0 λ i j=>.bl (decide (j≤i))):=opB0 λ _ _ _ _ _ _ _ q=>ge_int q
theorem zmd:OpR X (compareOp .In) (λ x y H Q=>∃ i j,x = .str i∧y = .str j∧Q (.bl (!(Builtin.Str.occurrences j i 0 j.length 1).isEmpty)) H):=by
 intro pins s σ H x y v u Q I rx ry h
 obtain ⟨i,j,rfl,rfl,q⟩:=h
 obtain ⟨t,rfl⟩:=rx
 obtain ⟨t',rfl⟩:=ry
 exact in_str (zcb I q rfl)
theorem zkh:OpR X (compareOp .Is) (λ x y H Q=>y = .non∧Q (.bl (decide (x = .non))) H):=by
 intro pins s σ H x y v u Q I rx ry h
 obtain ⟨rfl,q⟩:=h
 cases ry
 refine is_none_gen (zcb I q ?_)
 cases x <;> first
  | (cases rx;rfl)
  | (obtain ⟨t,rfl⟩:=rx;rfl)
theorem zsl:OpR X (compareOp .IsNot) (λ x y H Q=>y = .non∧Q (.bl (!decide (x = .non))) H):=by
 intro pins s σ H x y v u Q I rx ry h
 obtain ⟨rfl,q⟩:=h
 cases ry
 refine isnot_none_gen (zcb I q ?_)
 cases x <;> first
  | (cases rx;rfl)
  | (obtain ⟨t,rfl⟩:=rx;rfl)
theorem zrd:OpR X (compareOp .NotIn) (λ x y H Q=>∃ i j,x = .str i∧y = .str j∧Q (.bl (!(!(Builtin.Str.occurrences j i 0 j.length 1).isEmpty))) H):=by
 intro pins s σ H x y v u Q I rx ry h
 obtain ⟨i,j,rfl,rfl,q⟩:=h
 obtain ⟨t,rfl⟩:=rx
 obtain ⟨t',rfl⟩:=ry
 exact notIn_str (zcb I q rfl)
theorem zta (b:Expr) {op:CmpOp} (h:op ≠ .In:=by decide) (h2:op ≠ .NotIn:=by decide):behindInMarks op b=false:=by
 have e1:(op == CmpOp.In)=false:=by cases op <;> first | rfl | exact absurd rfl h
 have e2:(op == CmpOp.NotIn)=false:=by cases op <;> first | rfl | exact absurd rfl h2
 cases b <;> simp [behindInMarks,e1,e2]
theorem zpd {op:CmpOp} {r:R2} (ho:OpR X (compareOp op) r) (ha:PE X a ta) (hb:PE X b tb) (hm:behindInMarks op b=false):PE X (.Compare a [op] [b] pos) (tOp r ta tb) := .mk <| by
 intro pins s σ H Q I h
 exact wpAny_Compare1 (binT ha hb I h λ v u s2 x y H2 I2 rx ry q=>ho pins s2 σ H2 x y v u Q I2 rx ry q) hm
noncomputable def zxv (t:TE):TT:=λ σ H Q=>t σ H λ x H'=>∃ k,x = .bl k∧Q k H'
theorem zia {op:CmpOp} {r:R2} (ho:OpR X (compareOp op) r) (ha:PE X a ta) (hb:PE X b tb) (hm:behindInMarks op b=false):PT X (.Compare a [op] [b] pos) (zxv (tOp r ta tb)) := .mk <| by
 intro pins s σ H Q I h
 refine wpAny_isTrue_Compare1 (thn (ha pins s σ H _ I h) λ v s1 ⟨x,H1,I1,r1,q1⟩=>thn (hb pins s1 σ H1 _ I1 q1) λ u s2 ⟨y,H2,I2,r2,q2⟩ =>
  thn (ho pins s2 σ H2 x y v u _ I2 r1 r2 q2) λ c s3 ⟨z,H3,I3,r3,k,e,q3⟩=>?_) hm
 subst e
 cases r3
 exact wpAny_truthy_bool ⟨H3,I3,q3⟩
theorem zuh:(sizeLine:Nat)<2 ^ 63:=by rw [sizeLine_eq];decide
theorem zfa:OpR X (binaryOp .Add) (λ x y H Q=>∃ i j,x = .str i∧y = .str j∧i.length+j.length≤sizeLine∧Q (.str (i++j)) H):=by
 intro pins s σ H x y v u Q I rx ry h
 obtain ⟨i,j,rfl,rfl,hz,q⟩:=h
 obtain ⟨t,rfl⟩:=rx
 obtain ⟨t',rfl⟩:=ry
 exact add_str (λ t' tk=>⟨.str (i++j),H,I.tok _,⟨_,rfl⟩,q⟩) hz
theorem zyl {x:V} {us:List Value} (r:Vals [x] us):∃ u,us=[u]∧RelV x u:=by
 cases r with
 | cons r1 r2=>cases r2;exact ⟨_,rfl,r1⟩
theorem zvj:zmi X (.type "int") (λ xs H Q=>(∃ i,xs=[.int i]∧Q (.int i) H) ∨ ∃ k,xs=[.bl k]∧Q (.int (if k then 1 else 0)) H):=by
 intro pins s σ H xs us Q I r h
 rcases h with ⟨i,rfl,q⟩ | ⟨k,rfl,q⟩
 ·obtain ⟨u,rfl,t,rfl⟩:=zyl r
  exact call_int_int ⟨.int i,H,I,⟨_,rfl⟩,q⟩
 ·obtain ⟨u,rfl,r1⟩:=zyl r
  cases r1
  exact call_int_bool ⟨.int (if k then 1 else 0),H,I.tok _,⟨_,rfl⟩,q⟩
theorem zqb:zmi X (.type "str") (λ xs H Q=>∃ i,xs=[.int i]∧i.natAbs.log2<1920∧Q (.str (toString i)) H):=by
 intro pins s σ H xs us Q I r h
 obtain ⟨i,rfl,hz,q⟩:=h
 obtain ⟨u,rfl,t,rfl⟩:=zyl r
 exact PySem.P.str_of_int hz ⟨.str _,H,I.tok _,⟨_,rfl⟩,q⟩
end
end L2
namespace L2
open PySem PySem.Spec PyProof.Rows
section
variable {prog:Program} {w:World} {A:Around} {E:Value→Shared→Prop} {s:Shared} {K:W.Frag} {x dx C f:Addr} {mA:Str→Option Value} {name:Str} {v:Value}
end
section
variable {P:Program} {w:World} {H H':Hp} {h h':Heap} {a C dx:Addr} {fs fs':List (Str×V)}
end
section
variable {X:Cx} {pins:List (Addr×Obj)} {σ:St} {H:Hp} {s:Shared} {a C dx:Addr} {fs:List (Str×V)} {f:Str} {v:V} {A:Around} {E:Value→Shared→Prop}
end
section
variable {X:Cx} {o e value:Expr} {f:Str} {pos pos' tpos:Pos} {ta tv:TE}
end
section
variable {X:Cx} {pins:List (Addr×Obj)} {σ:St} {H:Hp} {s:Shared} {A:Around} {E:Value→Shared→Prop} {Q:Value→Shared→Prop} {c:Value} {b:Bool}
end
end L2
namespace L2
open PySem PySem.Spec PyProof.Rows
structure Room (k:Nat) (A:Around):Prop where
 hd:A.handled=none
 dp:A.depth+3 * k+5<recursionLimit
 un:A.units+16 * k+200<cLine
theorem Room.mono {j k:Nat} {A:Around} (r:Room k A) (h:j≤k):Room j A:=⟨r.hd,by have:=r.dp;omega,by have:=r.un;omega⟩
theorem Room.deeper {k:Nat} {A:Around} (r:Room (k+1) A) (env:Env):Room k (A.deeper env) :=
 ⟨r.hd,by have:=r.dp;show A.depth+1+3 * k+5<_;omega,by have:=r.un;show A.units+3+16 * k+200<_;omega⟩
theorem Room.depth {k:Nat} {A:Around} (r:Room k A):A.depth<recursionLimit:=by have:=r.dp;omega
theorem Room.units {k:Nat} {A:Around} (r:Room k A):A.units+64<cLine:=by have:=r.un;omega
noncomputable def tNil:TA:=λ _ H Q=>Q [] H
noncomputable def zaw (ta:TE) (tr:TA):TA:=λ σ H Q=>ta σ H λ x H1=>tr σ H1 λ xs H2=>Q (x::xs) H2
section
variable {X:Cx} {e:Expr} {es:List Expr} {te:TE} {t:TA} {pos:Pos}
theorem zea:PA X [] tNil := .mk <| λ _ _ _ _ H Q I h=>Calls.spliced_nil ⟨[],H,I,.nil,h⟩
theorem zaa (ha:PE X e te) (hr:PA X es t) (hs:starEach (e::es) X.env=(false,eval e X.env)::starEach es X.env:=by rfl):PA X (e::es) (zaw te t) := .mk <| by
 intro pos pins s σ H Q I h
 rw [hs]
 show wpAny _ _ (spliced ((false,eval e X.env)::backTo pos (starEach es X.env))) _ _ s
 refine Calls.spliced_cons (thn (ha pins s σ H _ I h) λ u s1 ⟨x,H1,I1,r1,q1⟩=>?_)
 exact thn (hr pos pins s1 σ H1 _ I1 q1) λ us s2 ⟨xs,H2,I2,r2,q2⟩=>⟨x::xs,H2,I2,.cons r1 r2,q2⟩
noncomputable def tTup (t:TA):TE:=λ σ H Q=>t σ H λ xs H1=>xs.length≤sizeLine∧∀ p,H1 p=none→Q (.ref p) (upd H1 p (.tup xs))
noncomputable def tLst (t:TA):TE:=λ σ H Q=>t σ H λ xs H1=>xs.length≤sizeLine∧∀ p,H1 p=none→Q (.ref p) (upd H1 p (.lst xs))
theorem zjc {x1} (h:PA X es t):PE X (.Tuple es x1 pos) (tTup t) := .mk <| by
 intro pins s σ H Q I hq
 refine wpAny_Tuple_spliced (thn (h pos pins s σ H _ I hq) λ us s1 ⟨xs,H1,I1,r,z,q⟩=>⟨by rw [← r.length];exact z,?_⟩)
 have hf:H1 s1.heap.objs.size=none:=I1.hok.fresh (Nat.le_refl _)
 refine ⟨.ref s1.heap.objs.size,upd H1 s1.heap.objs.size (.tup xs),I1.laid (t':=s1.toks) (λ b u e=>Heap.get?_push_of_some _ e) (Nat.le_refl _) ?_,rfl,q _ hf⟩
 exact ⟨z,us,r,⟨_,Heap.get?_push_size _ rfl,rfl,_,rfl⟩⟩
theorem zib (h:PA X es t):PE X (.List es pos) (tLst t) := .mk <| by
 intro pins s σ H Q I hq
 refine wpAny_List_spliced (thn (h pos pins s σ H _ I hq) λ us s1 ⟨xs,H1,I1,r,z,q⟩=>⟨by rw [← r.length];exact z,?_⟩)
 have hf:H1 s1.heap.objs.size=none:=I1.hok.fresh (Nat.le_refl _)
 refine ⟨.ref s1.heap.objs.size,upd H1 s1.heap.objs.size (.lst xs),I1.laid (t':=s1.toks) (λ b u e=>Heap.get?_push_of_some _ e) (Nat.le_refl _) ?_,rfl,q _ hf⟩
 exact ⟨z,us,0,r,Heap.get?_push_size _ rfl⟩
end
noncomputable abbrev Sp:=List V→Hp→VK→XK→Prop
noncomputable abbrev CXT:=List Env→Hp→Shared→XK→Value→Shared→Prop
structure Env0 (P:Program) (w:World) (K:W.Frag) (mg:Str→Option Value) (base:Heap) (A:Around) (outer:List Env) (s:Shared) (H:Hp):Prop where
 frames:A.frames=some outer
 mod:Mod K mg base
 bs:∀ b o,base.get? b=some o→s.heap.get? b=some o∧H b=none
 bsz:base.objs.size≤s.heap.objs.size
 funs:s.heap.FunFrames base outer
 frf:∀ b∈frs outer,H b=none
 hok:HOk P w H s.heap
 bare:AllBare s.gens
noncomputable def CE (outer:List Env) (P:Program) (w:World) (H:Hp) (s:Shared) (Q:VK) (u:Value) (s':Shared):Prop :=
 ∃ v H',s'.os=s.os∧AllBare s'.gens∧Un (frs outer) [] H H' s.heap s'.heap∧HOk P w H' s'.heap∧RelV v u∧Q v H'
noncomputable def CR (CX:CXT) (outer:List Env) (P:Program) (w:World) (H:Hp) (s:Shared) (Q:VK) (E:XK) (r:Result) (s':Shared):Prop :=
 match r with
 | .ok (.ret u)=>CE outer P w H s Q u s'
 | .ok _=>False
 | .error e=>CX outer H s E e s'
structure FnOk (P:Program) (w:World) (K:W.Frag) (mg:Str→Option Value) (base:Heap) (CX:CXT) (k:Nat) (f:Addr) (fd:FuncData) (ps:List Str) (sp:Sp):Prop where
 len:∀ vs H Q E,sp vs H Q E→vs.length=ps.length
 run:∀ (A:Around) (outer:List Env) (s:Shared) (H:Hp) (args:Args) (us:List Value) (vs:List V) (Q:VK) (E:XK),Room k A→Env0 P w K mg base A outer s H→BindsTo s fd args (ps.zip us)→Vals vs us→sp vs H Q E →
  codeAny (model P w) A (.call (.ref f) args) (CR CX outer P w H s Q E) s
theorem FnOk.imp {P:Program} {w:World} {K:W.Frag} {mg:Str→Option Value} {base:Heap} {CX:CXT} {k:Nat} {f:Addr} {fd:FuncData} {ps:List Str} {sp sp':Sp} (F:FnOk P w K mg base CX k f fd ps sp)
  (h:∀ vs H Q E,sp' vs H Q E→sp vs H Q E):FnOk P w K mg base CX k f fd ps sp' :=
 ⟨λ vs H Q E q=>F.len vs H Q E (h _ _ _ _ q),λ A outer s H args us vs Q E hr he hb hv hs=>F.run A outer s H args us vs Q E hr he hb hv (h _ _ _ _ hs)⟩
section
variable {X:Cx} {pins:List (Addr×Obj)} {σ:St} {H:Hp} {s s':Shared}
theorem Inv.env0 (I:Inv X pins σ H s):Env0 X.prog X.w X.K X.mg X.base X.A X.stack s H :=
 ⟨I.ok.frames,I.ok.mod,I.bs,Nat.le_trans I.ok.bsz I.sz,I.stack,I.stkFree,I.hok,I.bare⟩
theorem Inv.after {Q:VK} {u:Value} (I:Inv X pins σ H s) (h:CE X.stack X.prog X.w H s Q u s'):EP X pins σ Q u s':=by
 obtain ⟨v,H',os,bare,un,hok,r,q⟩:=h
 obtain ⟨hh,g,d,t,os'⟩:=s'
 obtain rfl:os'=s.os:=os
 exact ⟨v,H',I.call (h':=hh) (g':=g) (d':=d) (t':=t) (ch:=[]) un hok bare (λ b z=>absurd z (by simp)),r,q⟩
end
noncomputable def zlr (sp:Sp) (dvs:List V) (E:XK) (t:TA):TE:=λ σ H Q=>t σ H λ vs H1=>sp (vs++dvs) H1 Q E
noncomputable def Binds (K:W.Frag) (fd:FuncData) (ps:List Str) (ds:List Value):Prop :=
 ∀ (s:Shared) (us:List Value),K.In s.heap→(us++ds).length=ps.length→BindsTo s fd ⟨us,[]⟩ (ps.zip (us++ds))
theorem Binds.all {K:W.Frag} {fd:FuncData} {ps:List Str} (h:∀ us:List Value,us.length=ps.length→bindArgs fd ⟨us,[]⟩=pure (ps.zip us)):Binds K fd ps []:=λ s us _ hl=>by
 rw [List.append_nil] at hl ⊢
 exact .of_eq (h us hl)
noncomputable def zti (CX:CXT) (X:Cx) (E:XK):Prop:=∀ (pins:List (Addr×Obj)) (σ:St) (H:Hp) (s:Shared) (e:Value) (s':Shared),Inv X pins σ H s→CX X.stack H s E e s'→X.xe e s'
section
variable {X:Cx} {CX:CXT} {k:Nat} {f C:Addr} {fd:FuncData} {ps:List Str} {sp:Sp} {dvs:List V} {ds:List Value} {E:XK} {x m:Str} {p pos apos:Pos} {e o:Expr} {es:List Expr} {ta:TE} {t:TA}
theorem zjp {pins:List (Addr×Obj)} {σ:St} {H:Hp} {s:Shared} {Q:VK} {us:List Value} {vs:List V} (F:FnOk X.prog X.w X.K X.mg X.base CX k f fd ps sp) (hr:Room k X.A) (hb:Binds X.K fd ps ds) (hd:Vals dvs ds) (hx:zti CX X E)
  (I:Inv X pins σ H s) (r:Vals vs us) (h:sp (vs++dvs) H Q E):wpAny (model X.prog X.w) X.A (call (.ref f) us) (EP X pins σ Q) X.xe s:=by
 have r2:Vals (vs++dvs) (us++ds):=r.append hd
 have hl:(us++ds).length=ps.length:=by rw [← r2.length];exact F.len _ _ _ _ h
 refine wpAny_call (codeAny_mono (F.run X.A X.stack s H ⟨us,[]⟩ (us++ds) (vs++dvs) Q E hr I.env0 (hb s us I.kIn hl) r2 h) λ r s' hq=>?_)
 cases r with
 | error e=>exact hx pins σ H s e s' I hq
 | ok fl =>
  cases fl with
  | ret u=>exact I.after hq
  | next=>exact False.elim hq
  | brk=>exact False.elim hq
  | cont=>exact False.elim hq
theorem zma (F:FnOk X.prog X.w X.K X.mg X.base CX k f fd ps sp) (hr:Room k X.A) (hg:Gl X x) (hm:X.mg x=some (.ref f)) (hk:W.keepIn X.K (.ref f)=true) (hb:Binds X.K fd ps ds) (hd:Vals dvs ds) (hx:zti CX X E)
  (ha:PA X (e::es) t) (hdb:(x == ("__debug__" : Str))=false:=by decide) (he:starEach (e::es) X.env=(false,eval e X.env)::starEach es X.env:=by rfl) (hpl:(backTo pos (starEach es X.env)).any (·.1)=false:=by rfl) :
  PE X (.Call (.Name x p) (e::es) [] pos) (zlr sp dvs E t) := .mk <| by
 intro pins s σ H Q I h
 refine wpAny_Call_Name_kw (zge I hg hm ?_ hdb)
 refine W.callWith_K (h₀:=X.base) I.ok.mod.kin hk (thn (ha pos pins s σ H _ I h) λ us s1 ⟨vs,H1,I1,r,q⟩=>⟨I1.kIn,?_⟩) he hpl
 exact zjp F hr hb hd hx I1 r q
theorem znm (F:FnOk X.prog X.w X.K X.mg X.base CX k f fd ps sp) (hr:Room k X.A) (hg:Gl X x) (hm:X.mg x=some (.ref f)) (hk:W.keepIn X.K (.ref f)=true) (hb:Binds X.K fd ps ds) (hd:Vals dvs ds) (hx:zti CX X E)
  (hdb:(x == ("__debug__" : Str))=false:=by decide):PE X (.Call (.Name x p) [] [] pos) (zlr sp dvs E tNil) := .mk <| by
 intro pins s σ H Q I h
 refine wpAny_Call_Name_kw (zge I hg hm ?_ hdb)
 exact W.callWith_K0 I.kIn hk (zjp (us:=[]) F hr hb hd hx I .nil h)
end
section
variable {X:Cx} {CX:CXT} {k:Nat} {f C:Addr} {fd:FuncData} {ps ks:List Str} {sp:Sp} {E:XK} {x m:Str} {p pos apos kpos:Pos} {e o:Expr} {es:List Expr} {kws:List Keyword} {te ta:TE} {t tk:TA} {nm:Option Str}
variable {g:List Value→List Value→List Value} {gV:List V→List V→List V}
end
structure FnScope (N P:List Str) (sc:Scope):Prop where
 kind:sc.kind = .function
 co:sc.isCoroutine=false
 gen:sc.isGenerator=false
 nd:N.Nodup
 pre:N.take P.length=P
 par:∀ x∈P,sc.names.lookup x=some .local ∨ sc.names.lookup x=some .cell
 nofree:∀ y∈sc.names,y.2 ≠ .free
theorem zrg {kindOf:Str→Option NameKind} {x:Str}:∀ {binds:List (Str×Value)} {m:Str→Option Value},(∀ v,(x,v)∉binds)→bindL kindOf binds m x=m x
 | [],_,_=>rfl
 | (n,v)::r,m,h=>by
  unfold bindL
  rw [zrg λ w hw=>h w (List.mem_cons_of_mem _ hw)]
  split
  ·have:x≠n:=by rintro rfl;exact h v List.mem_cons_self
   simp [this]
  ·rfl
theorem zzg {kindOf:Str→Option NameKind} {x:Str}:∀ {binds:List (Str×Value)} {m:Str→Option Value},(∀ v,(x,v)∉binds)→bindC kindOf binds m x=m x
 | [],_,_=>rfl
 | (n,v)::r,m,h=>by
  unfold bindC
  rw [zzg λ w hw=>h w (List.mem_cons_of_mem _ hw)]
  split
  ·rfl
  ·have:x≠n:=by rintro rfl;exact h v List.mem_cons_self
   simp [this]
theorem ztg {kindOf:Str→Option NameKind} {x:Str} {v:Value}:∀ {P:List Str} {vs:List Value} {i:Nat} {m:Str→Option Value},P.Nodup→P[i]? = some x→vs[i]? = some v→kindOf x=some .local →
  bindL kindOf (P.zip vs) m x=some v
 | [],_,_,_,_,h,_,_=>by simp at h
 | _::_,[],_,_,_,_,h,_=>by simp at h
 | p::P,w::vs,0,m,nd,h1,h2,hk=>by
  simp at h1 h2;subst h1;subst h2
  show bindL kindOf ((p,w)::P.zip vs) m p=_
  unfold bindL
  rw [zrg λ v hv=>(List.nodup_cons.mp nd).1 (List.of_mem_zip hv).1,if_pos hk]
  simp
 | p::P,w::vs,i+1,m,nd,h1,h2,hk=>by
  show bindL kindOf ((p,w)::P.zip vs) m x=_
  unfold bindL
  exact ztg (i:=i) (List.nodup_cons.mp nd).2 (by simpa using h1) (by simpa using h2) hk
theorem zmg {kindOf:Str→Option NameKind} {x:Str} {v:Value}:∀ {P:List Str} {vs:List Value} {i:Nat} {m:Str→Option Value},P.Nodup→P[i]? = some x→vs[i]? = some v→kindOf x≠some .local →
  bindC kindOf (P.zip vs) m x=some v
 | [],_,_,_,_,h,_,_=>by simp at h
 | _::_,[],_,_,_,_,h,_=>by simp at h
 | p::P,w::vs,0,m,nd,h1,h2,hk=>by
  simp at h1 h2;subst h1;subst h2
  show bindC kindOf ((p,w)::P.zip vs) m p=_
  unfold bindC
  rw [zzg λ v hv=>(List.nodup_cons.mp nd).1 (List.of_mem_zip hv).1,if_neg hk]
  simp
 | p::P,w::vs,i+1,m,nd,h1,h2,hk=>by
  show bindC kindOf ((p,w)::P.zip vs) m x=_
  unfold bindC
  exact zmg (i:=i) (List.nodup_cons.mp nd).2 (by simpa using h1) (by simpa using h2) hk
noncomputable def zxj (N:List Str) (vs:List V):St:=vs.map some++List.replicate (N.length - vs.length) none
noncomputable def cxOf (CX:CXT) (P:Program) (w:World) (K:W.Frag) (mg:Str→Option Value) (base:Heap) (N:List Str) (qual:Str) (scope:Scope) (f:Addr) (cd:Value) (A:Around) (outer:List Env) (s:Shared) (H:Hp) (E:XK):Cx where
 prog:=P
 w:=w
 K:=K
 mg:=mg
 base:=base
 A:=A.deeper (envOfC qual scope s.heap.objs.size f cd)
 N:=N
 s₀:=s
 H₀:=H
 env:=envOfC qual scope s.heap.objs.size f cd
 outer:=outer
 stack:=envOfC qual scope s.heap.objs.size f cd::outer
 ex:=[]
 calm:=true
 fn:=λ _=>true
 pn:=[]
 xe:=λ e s'=>wpAny (model P w) (A.deeper (envOfC qual scope s.heap.objs.size f cd)) (leaving (envOfC qual scope s.heap.objs.size f cd) e) (λ _ s''=>CX outer H s E e s'') (λ e' s''=>CX outer H s E e' s'') s'
theorem zgj {sc:Scope} {n:Nat} {x:Str} (h:sc.names.lookup x=some .cell):∃ c,(cellsFrom n sc.names []).lookup x=some c:=by
 have q:=W.cellsFrom_some sc.names n [] (.inl h)
 exact Option.isSome_iff_exists.mp q
theorem zzj {CX:CXT} {P:Program} {w:World} {K:W.Frag} {mg:Str→Option Value} {base:Heap} {N ps:List Str} {qual:Str} {scope:Scope} {f:Addr} {cd:Value} {A:Around} {outer:List Env} {s s1:Shared} {H:Hp} {E:XK} {us:List Value} {vs:List V}
  (S:FnScope N ps scope) (hd:A.handled=none) (e0:Env0 P w K mg base A outer s H) (hl:vs.length=ps.length) (r:Vals vs us)
  (x:InCallC s s.heap.objs.size (bindL (envOfC qual scope s.heap.objs.size f cd).kindOf (ps.zip us) λ _=>none) (cellsFrom (s.heap.objs.size+1) scope.names []) (bindC (envOfC qual scope s.heap.objs.size f cd).kindOf (ps.zip us) λ _=>none) s1) :
  Inv (cxOf CX P w K mg base N qual scope f cd A outer s H E) [] (zxj N vs) H s1:=by
 have hpl:ps.length≤N.length:=by have:=congrArg List.length S.pre;rw [List.length_take] at this;omega
 obtain ⟨h1,tk,rfl,hk⟩:=x.done
 have noA:∀ b:Addr,b∉(cxOf CX P w K mg base N qual scope f cd A outer s H E).ex:=λ b z=>absurd (show b∈([]:List Addr) from z) (by simp)
 refine ⟨⟨e0.mod,S.kind,rfl,rfl,Nat.le_refl _,λ y z c h1 h2=>?_,λ y hy=>?_,λ y c _ h=>?_,λ _=>hd,Around.frames_deeper e0.frames,.inr ⟨rfl,rfl⟩,λ b z=>absurd z (noA b),e0.bs,e0.bsz,λ b _ _=>noA b,λ b z=>absurd z (noA b),e0.funs,e0.frf⟩,
  rfl,e0.bare,Un.kept hk,⟨_,x.toInCall.ns,λ i y v h1 h2 h3=>?_⟩,λ y c h=>⟨_,x.cell y c h⟩,e0.hok.fresh (Nat.le_refl _),λ y c h=>?_,λ p hp=>absurd (show p∈([]:List (Addr×Obj)) from hp) (by simp),e0.hok.kept hk,?_⟩
 ·exact name_of_addr x.apart (PySem.mem_of_lookup h1) (PySem.mem_of_lookup h2)
 ·have hy:scope.names.lookup y=some .cell ∨ scope.names.lookup y=some .free:=hy
  rcases hy with hy | hy
  ·exact zgj hy
  ·exact absurd rfl (S.nofree _ (PySem.mem_of_lookup hy))
 ·exact Nat.le_of_lt (x.above y c (PySem.mem_of_lookup h))
 ·have hi:i<vs.length:=by
   unfold zxj at h2
   by_cases hi:i<vs.length
   ·exact hi
   ·rw [List.getElem?_append_right (by simpa using hi)] at h2
    rw [List.getElem?_replicate] at h2
    split at h2 <;> cases h2
  have ha:vs[i]? = some v:=by
   unfold zxj at h2
   rw [List.getElem?_append_left (by simpa using hi),List.getElem?_map] at h2
   cases e:vs[i]? with
   | none=>rw [e] at h2;cases h2
   | some a=>rw [e] at h2;cases h2;rfl
  obtain ⟨u,hu,rv⟩:=r.get ha
  have hp:ps[i]? = some y:=by
   rw [← S.pre,List.getElem?_take_of_lt (by omega)];exact h1
  have ndP:ps.Nodup:=by rw [← S.pre];exact S.nd.sublist (List.take_sublist _ _)
  refine ⟨u,rv,?_⟩
  rcases S.par y (List.mem_of_getElem? hp) with k | k
  ·exact .inl ⟨k,ztg ndP hp hu k⟩
  ·obtain ⟨c,e⟩:=zgj (n:=s.heap.objs.size+1) k
   refine .inr ⟨.inl k,c,e,?_⟩
   have q:=x.cell y c e
   rw [zmg ndP hp hu (by show scope.names.lookup y≠_;rw [k];decide)] at q
   exact q
 ·exact e0.hok.fresh (Nat.le_of_lt (x.above y c (PySem.mem_of_lookup h)))
 ·unfold zxj
  show _=N.length
  rw [List.length_append,List.length_map,List.length_replicate]
  omega
theorem zqu {CX:CXT} {P:Program} {w:World} {K:W.Frag} {mg:Str→Option Value} {base:Heap} {k:Nat} {f:Addr} {name qual:Str} {params:Arguments} {body:List Stmt} {scope:Scope} {dV kV doc pm cdv ct oc:Value} {an od:Option Addr}
  {osl:Array (Option Value)} {N ps:List Str} {sp:Sp} (lk:K.lookup f=some ⟨oc,od,.func (W.fnOf name qual params body scope dV kV doc pm an cdv ct),osl⟩) (hcd:W.codeIn K cdv qual=true) (S:FnScope N ps scope)
  (len:∀ vs H Q E,sp vs H Q E→vs.length=ps.length)
  (hbody:∀ (A:Around) (outer:List Env) (s:Shared) (H:Hp) (vs:List V) (Q:VK) (E:XK),Room k (A.deeper (envOfC qual scope s.heap.objs.size f cdv))→sp vs H Q E →
   ∃ t,PSs (cxOf CX P w K mg base N qual scope f cdv A outer s H E) body t∧t { nx:=λ _ H'=>Q .non H',rt:=Q } (zxj N vs) H) :
  FnOk P w K mg base CX (k+1) f (W.fnOf name qual params body scope dV kV doc pm an cdv ct) ps sp:=by
 refine ⟨len,λ A outer s H args us vs Q E hr e0 hb r hsp=>?_⟩
 have hl:=len _ _ _ _ hsp
 have KX:K.In s.heap:=e0.mod.kin.keeps λ b o e=>(e0.bs b o e).1
 have lim:s.heap.NoLimit:=e0.mod.nolimit.keeps λ b o e=>(e0.bs b o e).1
 have hkind:∀ y∈ps.zip us,scope.names.lookup y.1=some .local ∨ (scope.names.lookup y.1=some .cell∧((cellsFrom (s.heap.objs.size+1) scope.names []).lookup y.1).isSome=true):=λ ⟨n,v⟩ hy=>by
  rcases S.par n (List.of_mem_zip hy).1 with q | q
  ·exact .inl q
  ·exact .inr ⟨q,W.cellsFrom_some _ _ _ (.inl q)⟩
 refine codeAny_call_function hr.depth (KX _ _ lk) rfl S.co S.gen rfl (W.codeRec_of KX hcd) (hb _ _ _ _ ?_)
 refine wpAny_newFunctionEnv_cells S.kind hkind λ env he s1 x=>?_
 subst he
 refine ⟨lim.keeps x.toInCall.keep,codeAny_func ?_⟩
 obtain ⟨t,ht,hq⟩:=hbody A outer s H vs Q E (hr.deeper _) hsp
 have I:Inv (cxOf CX P w K mg base N qual scope f cdv A outer s H E) [] (zxj N vs) H s1:=zzj S hr.hd e0 hl r x
 refine wpAny_mono (ht [] s1 (zxj N vs) H _ I hq) (λ fl s' hs=>?_) λ e s' hs=>hs
 have fin:∀ {σ':St} {H':Hp} {v:V} {u:Value},Inv (cxOf CX P w K mg base N qual scope f cdv A outer s H E) [] σ' H' s'→RelV v u→Q v H'→CE outer P w H s Q u s' :=
  fun {σ' H' v u} J rv q=>⟨v,H',J.os,J.bare,J.base,J.hok,rv,q⟩
 cases fl with
 | ret u =>
  obtain ⟨v,σ',H',J,rv,q⟩:=hs
  exact fin J rv q
 | next =>
  obtain ⟨σ',H',J,q⟩:=hs
  exact fin (v:=V.non) (u:=Value.none) J rfl q
 | brk =>
  obtain ⟨_,_,_,q⟩:=hs
  exact False.elim q
 | cont =>
  obtain ⟨_,_,_,q⟩:=hs
  exact False.elim q
end L2
namespace L2
open PySem PySem.Spec PyProof.Rows
section
variable {X:Cx} {x:Str} {p pos:Pos} {e:Expr} {es:List Expr} {t:TA} {id T:String} {r:List V→Hp→VK→Prop}
noncomputable def tCB (r:List V→Hp→VK→Prop) (t:TA):TE:=λ σ H Q=>t σ H λ vs H1=>r vs H1 Q
theorem zva (hc:zmi X (.builtin id) r) (hg:Gl X x) (hm:X.mg x=none) (hv:bootBuiltins x=some (.builtin id)) (ha:PA X (e::es) t) (hn:x ≠ "__name__" := by decide) (hdb:(x == ("__debug__" : Str))=false:=by decide)
  (he:starEach (e::es) X.env=(false,eval e X.env)::starEach es X.env:=by rfl) (hpl:(backTo pos (starEach es X.env)).any (·.1)=false:=by rfl):PE X (.Call (.Name x p) (e::es) [] pos) (tCB r t) := .mk <| by
 intro pins s σ H Q I h
 refine wpAny_Call_Name_kw (zph I hg hm hv ?_ hn hdb)
 exact PyProof.Rows.callWith_builtin1 (thn (ha pos pins s σ H _ I h) λ us s1 ⟨vs,H1,I1,r1,q1⟩=>hc pins s1 σ H1 vs us Q I1 r1 q1) he hpl
theorem zfb (hc:zmi X (.type T) r) (hg:Gl X x) (hm:X.mg x=none) (hv:bootBuiltins x=some (.type T)) (ha:PA X (e::es) t) (hn:x ≠ "__name__" := by decide) (hdb:(x == ("__debug__" : Str))=false:=by decide)
  (he:starEach (e::es) X.env=(false,eval e X.env)::starEach es X.env:=by rfl) (hpl:(backTo pos (starEach es X.env)).any (·.1)=false:=by rfl):PE X (.Call (.Name x p) (e::es) [] pos) (tCB r t) := .mk <| by
 intro pins s σ H Q I h
 refine wpAny_Call_Name_kw (zph I hg hm hv ?_ hn hdb)
 exact PyProof.Rows.callWith_type1 (thn (ha pos pins s σ H _ I h) λ us s1 ⟨vs,H1,I1,r1,q1⟩=>hc pins s1 σ H1 vs us Q I1 r1 q1) he hpl
end
end L2
namespace HT
open PySem PyProof.Rows
section
open PySem.SeqAt
open PySem.AutoSeq1 (wpAny_loadPart')
open PySem.MeetsSeq PySem.MeetsSeq2 PySem.MeetsSeq3
end
section
variable {prog:Program} {w:World} {A:Around} {E:Value→Shared→Prop} {s:Shared}
theorem cat_tup {t b:Addr} {vs ws:List Value} {Q:Value→Shared→Prop} (ht:IsTup s.heap t vs.toArray) (hb:IsTup s.heap b ws.toArray) (hv:vs≠[])
  (h1:ws=[]→Q (.ref t) s) (h2:ws≠[]→Q (.ref s.heap.objs.size) { s with heap:=s.heap.push { cls := .type "tuple",data := .seq (vs++ws).toArray } })
  (hsz:vs.length+ws.length≤sizeLine):wpAny (model prog w) A (binaryOp .Add (.ref t) (.ref b)) Q E s:=by
 obtain ⟨⟨cls,dd,data,sl⟩,ho,hc,n,hd⟩:=id ht
 obtain ⟨⟨cls2,dd2,data2,sl2⟩,ho2,hc2,n2,hd2⟩:=id hb
 simp only at hc hd hc2 hd2
 subst hc hd hc2 hd2
 have e:vs.toArray++ws.toArray=(vs++ws).toArray:=by simp
 by_cases hw:ws=[]
 ·exact concat_meets ⟨_,ho,rfl⟩ ⟨_,ho2,rfl⟩ noFill_tuple_add seq_tuple_add PySem.F.slot_tuple_add PySem.F.entry_tuple_add (PySem.F.args_tuple_add_2 _ _)
   (tuple_addW1 t b vs.toArray ws.toArray n n2 dd dd2 sl sl2 (by simpa using hv) (by simp [hw])) ⟨ho,ho2,h1 hw⟩
 ·refine concat_meets ⟨_,ho,rfl⟩ ⟨_,ho2,rfl⟩ noFill_tuple_add seq_tuple_add PySem.F.slot_tuple_add PySem.F.entry_tuple_add (PySem.F.args_tuple_add_2 _ _)
   (tuple_addW2 t b vs.toArray ws.toArray n n2 dd dd2 sl sl2 (by simpa using hv) (by simpa using hw) (by rw [List.size_toArray,List.size_toArray];exact hsz)) ⟨ho,ho2,?_⟩
  rw [e]
  exact h2 hw
noncomputable def sIx (n d:Nat):Option Int→Nat
 | none=>d
 | some v=>if v<0 then (v+(n:Int)).toNat else min v.toNat n
theorem sIx_none (n d:Nat):sIx n d none=d:=rfl
theorem sIx_nat (n d k:Nat):sIx n d (some (k:Int))=min k n:=by
 show (if (k:Int)<0 then ((k:Int)+(n:Int)).toNat else min (k:Int).toNat n)=min k n
 rw [if_neg (by omega),Int.toNat_natCast]
theorem sIx_le (n d:Nat) (hd:d≤n) (o:Option Int):sIx n d o≤n:=by
 cases o with
 | none=>exact hd
 | some v =>
  show (if v<0 then (v+(n:Int)).toNat else min v.toNat n)≤n
  by_cases hv:v<0
  ·rw [if_pos hv];omega
  ·rw [if_neg hv];exact Nat.min_le_right _ _
theorem znl (v:Int) (n d:Nat):(if v<0 then max (v+(n:Int)) 0 else min v (n:Int))=((sIx n d (some v):Nat):Int):=by
 show (if v<0 then max (v+(n:Int)) 0 else min v (n:Int))=(((if v<0 then (v+(n:Int)).toNat else min v.toNat n):Nat):Int)
 by_cases hv:v<0
 ·simp only [if_pos hv];omega
 ·simp only [if_neg hv];omega
theorem zei (lo hi:Option Int) (n:Nat):Builtin.Slice.sliceAdjust lo hi 1 (n:Int)=(((sIx n 0 lo:Nat):Int),((sIx n n hi:Nat):Int)):=by
 have h1:¬ ((1:Int)<0):=by omega
 unfold Builtin.Slice.sliceAdjust
 simp only [h1,if_false]
 refine Prod.ext ?_ ?_
 ·cases lo with
  | none=>rfl
  | some v=>exact znl v n 0
 ·cases hi with
  | none=>rfl
  | some v=>exact znl v n n
theorem znh (i j:Nat):Builtin.Slice.slicePlaces (i:Int) (j:Int) 1=j - i:=by
 unfold Builtin.Slice.slicePlaces
 have h1:(1:Int) > 0:=by omega
 simp only [h1,if_true,Int.ediv_one]
 split <;> omega
theorem zwe {v:Value} {o:Option Int} {Q:Option Int→Shared→Prop} (p:IsPart v o) (h:Q o s):wpAny (model prog w) A (Builtin.Slice.slicePartIndex v) Q E s:=by
 cases p with
 | none=>exact slicePart_none h
 | int i t=>exact slicePart_int h
theorem zgc {sl:Addr} {vl vu:Value} {lo hi:Option Int} {n:Nat} {Q:Int×Int×Nat→Shared→Prop} (hs:s.heap.IsSliceOf sl vl vu .none) (pl:IsPart vl lo) (pu:IsPart vu hi)
  (h:Q (((sIx n 0 lo:Nat):Int),1,sIx n n hi - sIx n 0 lo) s):wpAny (model prog w) A (Builtin.Slice.sliceApplied (.ref sl) (pure (n:Int))) Q E s:=by
 obtain ⟨os,hos,hcs,hds⟩:=id hs
 unfold Builtin.Slice.sliceApplied Builtin.Slice.sliceFields
 refine wpAny_bind (wpAny_bind (wpAny_field hos hds (x:=vl) rfl (wpAny_bind (wpAny_field hos hds (x:=vu) rfl (wpAny_bind (wpAny_field hos hds (x := .none) rfl (wpAny_pure ?_)))))))
 refine wpAny_bind (slicePart_none ?_)
 show wpAny _ _ (if ((1:Int) == 0)=true then _ else _) _ _ s
 rw [if_neg (by decide)]
 refine wpAny_bind (zwe pl (wpAny_bind (zwe pu (wpAny_bind (wpAny_pure ?_)))))
 show wpAny _ _ (match Builtin.Slice.sliceAdjust lo hi 1 (n:Int) with | (lo,hi)=>pure (lo,(1:Int),Builtin.Slice.slicePlaces lo hi 1)) _ _ s
 rw [zei lo hi n]
 show wpAny _ _ (pure (((sIx n 0 lo:Nat):Int),(1:Int),Builtin.Slice.slicePlaces ((sIx n 0 lo:Nat):Int) ((sIx n n hi:Nat):Int) 1)) _ _ s
 rw [znh]
 exact wpAny_pure h
theorem zum (xs:Array Value) (i k:Nat):((List.range k).filterMap λ (m:Nat)=>xs[((i:Int)+(m:Int) * 1).toNat]?).toArray=((xs.toList.drop i).take k).toArray:=by
 have e:(λ (m:Nat)=>xs[((i:Int)+(m:Int) * 1).toNat]?)=λ m=>xs[i+m]?:=by
  funext m
  have:((i:Int)+(m:Int) * 1).toNat=i+m:=by omega
  rw [this]
 rw [e]
 have:=pick_run xs i k
 rw [List.filterMap_map] at this
 have e2:((λ x=>xs[x]?) ∘ λ x=>i+x)=λ m=>xs[i+m]?:=rfl
 rw [e2] at this
 rw [this]
theorem getItem_tuple_cut {t sl:Addr} {items:Array Value} {vl vu:Value} {lo hi:Option Int} {Q:Value→Shared→Prop} (ht:IsTup s.heap t items) (hs:s.heap.IsSliceOf sl vl vu .none) (pl:IsPart vl lo) (pu:IsPart vu hi)
  (hw:¬ (sIx items.size 0 lo=0∧sIx items.size items.size hi=items.size))
  (h:Q (.ref s.heap.objs.size) { s with heap:=s.heap.push { cls := .type "tuple",data := .seq ((items.toList.drop (sIx items.size 0 lo)).take (sIx items.size items.size hi - sIx items.size 0 lo)).toArray } })
  (hsz:items.size≤sizeLine):wpAny (model prog w) A (getItem (.ref t) (.ref sl)) Q E s:=by
 have htake:sizeOk (.seq ((items.toList.drop (sIx items.size 0 lo)).take (sIx items.size items.size hi - sIx items.size 0 lo)).toArray):=by
  show ((items.toList.drop (sIx items.size 0 lo)).take (sIx items.size items.size hi - sIx items.size 0 lo)).toArray.size≤sizeLine
  rw [List.size_toArray,List.length_take,List.length_drop,Array.length_toList]
  omega
 have hj:sIx items.size items.size hi≤items.size:=sIx_le _ _ (Nat.le_refl _) hi
 obtain ⟨os,hos,hcs,hds⟩:=id hs
 have hTs:s.TypeIs (.ref sl) "slice" := ⟨os,hos,hcs⟩
 unfold getItem
 try with_reducible refine wpAny_holding ?_
 first | refine wpAny_bind (wpAny_pure ?_) | skip
 refine wpAny_bind (wpAny_sequenceKey ht.typeIs (by decide) ?_)
 refine wpAny_bind (wpAny_callSpecial?_slot (name:=Str.ofString "__getitem__") ht.typeIs PyProof.Rows.slot_tuple_getitem
  (wpAny_call_entry PyProof.Rows.slot_tuple_getitem ht.typeIs entry_tuple_getitem ?_ (args_tuple_getitem _ _)))
 show wpAny _ _ (Builtin.Tuple.tupleItemsOf (.ref t) >>= _) _ _ s
 refine wpAny_bind (tupleItemsOf_ ht ?_)
 refine wpAny_bind (wpAny_typeOf hTs ?_)
 rw [if_pos (by decide)]
 refine wpAny_bind (zgc hs pl pu ?_)
 have hno:¬ ((((sIx items.size 0 lo:Nat):Int) == 0 && (1:Int) == 1 && (sIx items.size items.size hi - sIx items.size 0 lo) == items.size)=true):=by
  intro q
  rw [Bool.and_eq_true,Bool.and_eq_true] at q
  have q1:((sIx items.size 0 lo:Nat):Int)=0:=eq_of_beq q.1.1
  have q2:sIx items.size items.size hi - sIx items.size 0 lo=items.size:=eq_of_beq q.2
  exact hw ⟨by omega,by omega⟩
 show wpAny _ _ (if (((sIx items.size 0 lo:Nat):Int) == 0 && (1:Int) == 1 && (sIx items.size items.size hi - sIx items.size 0 lo) == items.size)=true then _ else _) _ _ s
 rw [if_neg hno,zum]
 first
  | exact wpAny_bind (m:=Builtin.Tuple.tupleExact _) (wpAny_newObj_type (wpAny_pure ⟨_,rfl,wpAny_pure h⟩) htake)
  | exact wpAny_bind (m:=Builtin.Tuple.tupleExact _) (wpAny_newObj_type (wpAny_bind (wpAny_pure (wpAny_pure ⟨_,rfl,wpAny_pure h⟩))) htake)
  | exact wpAny_bind (wpAny_bind (m:=Builtin.Tuple.tupleExact _) (wpAny_newObj_type (wpAny_pure (wpAny_pure ⟨_,rfl,wpAny_pure h⟩)) htake))
  | exact wpAny_bind (wpAny_bind (m:=Builtin.Tuple.tupleExact _) (wpAny_newObj_type (wpAny_pure ⟨_,rfl,wpAny_pure h⟩) htake))
end
end HT
namespace L2
open PySem PySem.Spec PyProof.Rows
noncomputable abbrev TO:=St→Hp→(Option Int→Hp→Prop)→Prop
noncomputable def PO (X:Cx) (e:Option Expr) (t:TO):Prop :=
 ∀ (pins:List (Addr×Obj)) (s:Shared) (σ:St) (H:Hp) (Q:Option Int→Hp→Prop),Inv X pins σ H s→t σ H Q →
  wpAny (model X.prog X.w) X.A (evalPart e X.env) (λ u s'=>∃ o H',Inv X pins σ H' s'∧IsPart u o∧Q o H') X.xe s
noncomputable def zmo:TO:=λ _ H Q=>Q none H
noncomputable def zhv (t:TE):TO:=λ σ H Q=>t σ H λ x H1=>∃ i,x = .int i∧Q (some i) H1
section
variable {X:Cx} {e:Expr} {te:TE} {lo hi:Option Expr} {tl th:TO} {pos p2:Pos}
theorem zeb:PO X none zmo:=by
 intro pins s σ H Q I h
 rw [evalPart_none]
 exact wpAny_pure ⟨none,H,I,.none,h⟩
theorem zza (h:PE X e te):PO X (some e) (zhv te):=by
 intro pins s σ H Q I hw
 rw [evalPart_some]
 refine thn (h pins s σ H _ I hw) λ u s1 ⟨x,H1,I1,r1,q1⟩=>?_
 obtain ⟨i,rfl,q⟩:=q1
 obtain ⟨t,rfl⟩:=r1
 exact ⟨some i,H1,I1,.int i t,q⟩
noncomputable def SlR (X:Cx) (r:V→Option Int→Option Int→Hp→VK→Prop):Prop :=
 ∀ (pins:List (Addr×Obj)) (s:Shared) (σ:St) (H:Hp) (x:V) (v vl vu:Value) (lo hi:Option Int) (sl:Addr) (Q:VK),Inv X pins σ H s→RelV x v→s.heap.IsSliceOf sl vl vu .none→IsPart vl lo→IsPart vu hi→r x lo hi H Q →
  ∃ T id,typeLookup (.type T) "__getitem__" = pure (some (.builtin id))∧s.TypeIs v T∧wpAny (model X.prog X.w) X.A (getItem v (.ref sl)) (EP X pins σ Q) X.xe s
noncomputable def tSl (r:V→Option Int→Option Int→Hp→VK→Prop) (te:TE) (tl th:TO):TE:=λ σ H Q=>te σ H λ x H1=>tl σ H1 λ l H2=>th σ H2 λ u H3=>r x l u H3 Q
theorem zua {r:V→Option Int→Option Int→Hp→VK→Prop} (hr:SlR X r) (he:PE X e te) (hl:PO X lo tl) (hu:PO X hi th):PE X (.Subscript e (.Slice lo hi none p2) pos) (tSl r te tl th) := .mk <| by
 intro pins s σ H Q I h
 refine Subscript_ (thn (he pins s σ H _ I h) λ v s1 ⟨x,H1,I1,r1,q1⟩=>?_)
 refine wpAny_Slice (thn (hl pins s1 σ H1 _ I1 q1) λ vl s2 ⟨l,H2,I2,pl,q2⟩=>thn (hu pins s2 σ H2 _ I2 q2) λ vu s3 ⟨u,H3,I3,pu,q3⟩=>?_)
 rw [evalPart_none]
 refine wpAny_pure ?_
 have I4:Inv X pins σ H3 { s3 with heap:=s3.heap.push { cls := .type "slice",data := .fields #[vl,vu,.none] } }:=I3.kept (t':=s3.toks) λ b ob q=>Heap.get?_push_of_some _ q
 obtain ⟨T,id,hT,ht,hg⟩:=hr pins { s3 with heap:=s3.heap.push { cls := .type "slice",data := .fields #[vl,vu,.none] } } σ H3 x v vl vu l u s3.heap.objs.size Q I4 r1 (Heap.IsSliceOf.new ..) pl pu q3
 show wpAny (model X.prog X.w) X.A (subscriptTail e (.Slice lo hi none p2) v (.ref s3.heap.objs.size)) (EP X pins σ Q) X.xe { s3 with heap:=s3.heap.push { cls := .type "slice",data := .fields #[vl,vu,.none] } }
 exact tail_any (ops:=[.ref s3.heap.objs.size,v]) ht hT hg (by with_unfolding_all rfl)
noncomputable def cutV (xs:List V) (lo hi:Option Int):List V:=(xs.drop (HT.sIx xs.length 0 lo)).take (HT.sIx xs.length xs.length hi - HT.sIx xs.length 0 lo)
theorem zed (xs:List V) (lo hi:Option Int):(cutV xs lo hi).length≤xs.length:=by
 unfold cutV
 rw [List.length_take,List.length_drop]
 omega
noncomputable def rSlT (K:W.Frag):V→Option Int→Option Int→Hp→VK→Prop:=λ x lo hi H Q=>∃ a xs,x = .ref a∧SqT K H a xs ∧
 ¬ (HT.sIx xs.length 0 lo=0∧HT.sIx xs.length xs.length hi=xs.length)∧∀ p,H p=none→Q (.ref p) (upd H p (.tup (cutV xs lo hi)))
theorem zds:SlR X (rSlT X.K):=by
 intro pins s σ H x v vl vu lo hi sl Q I rx hs pl pu h
 obtain ⟨a,xs,rfl,hx,hw,q⟩:=h
 cases rx
 obtain ⟨its,r,ht,hz⟩:=I.tuple hx
 have hlen:its.toArray.size=xs.length:=by rw [List.size_toArray];exact r.length.symm
 refine ⟨"tuple",_,PyProof.Rows.slot_tuple_getitem.lookup,ht.typeIs,?_⟩
 refine HT.getItem_tuple_cut ht hs pl pu (by rw [hlen];exact hw) ?_ (by rw [hlen];exact hz)
 rw [hlen]
 refine ⟨.ref s.heap.objs.size,_,I.laid (t':=s.toks) (o := .tup (cutV xs lo hi)) (λ b ob q=>Heap.get?_push_of_some _ q) (Nat.le_refl _) ?_,rfl,q _ (I.hok.fresh (Nat.le_refl _))⟩
 exact ⟨Nat.le_trans (zed xs lo hi) hz,_,(r.drop (HT.sIx xs.length 0 lo)).take (HT.sIx xs.length xs.length hi - HT.sIx xs.length 0 lo),IsTup.new _ _⟩
noncomputable def zvu (K:W.Frag):R2:=λ x y H Q=>∃ a b xs ys,x = .ref a∧y = .ref b∧SqT K H a xs∧SqT K H b ys∧xs≠[]∧xs.length+ys.length≤sizeLine ∧
 (ys=[]→Q (.ref a) H)∧(ys≠[]→∀ p,H p=none→Q (.ref p) (upd H p (.tup (xs++ys))))
theorem Vals.nil_iff {xs:List V} {us:List Value} (r:Vals xs us):us=[]↔xs=[]:=by
 cases r with
 | nil=>simp
 | cons _ _=>simp
theorem zwn:OpR X (binaryOp .Add) (zvu X.K):=by
 intro pins s σ H x y v u Q I rx ry h
 obtain ⟨a,b,xs,ys,rfl,rfl,ha,hb,hx,hz,q1,q2⟩:=h
 cases rx
 cases ry
 obtain ⟨its,r1,p1,_⟩:=I.tuple ha
 obtain ⟨its2,r2,p2,_⟩:=I.tuple hb
 refine HT.cat_tup p1 p2 (λ z=>hx (r1.nil_iff.mp z)) (λ z=>⟨.ref a,H,I,rfl,q1 (r2.nil_iff.mp z)⟩) (λ z=>?_) (by rw [← r1.length,← r2.length];exact hz)
 refine ⟨.ref s.heap.objs.size,_,I.laid (t':=s.toks) (o := .tup (xs++ys)) (λ b ob q=>Heap.get?_push_of_some _ q) (Nat.le_refl _) ?_,rfl,q2 (λ w=>z (r2.nil_iff.mpr w)) _ (I.hok.fresh (Nat.le_refl _))⟩
 exact ⟨by rw [List.length_append];exact hz,_,r1.append r2,IsTup.new _ _⟩
end
end L2
namespace L2
open PySem PySem.Spec PyProof.Rows
noncomputable def ixN (n:Nat) (i:Int):Option Nat:=if 0≤i then (if i<n then some i.toNat else none) else if -(n:Int)≤i then some (i+n).toNat else none
noncomputable def atI {α:Type} (xs:List α) (i:Int):Option α:=(ixN xs.length i).bind λ j=>xs[j]?
theorem zdq {n:Nat} {i:Int} {j:Nat} (h:ixN n i=some j):seqIndex? i n=some j∧j<n ∧ -(n:Int)≤i∧i<n:=by
 unfold ixN at h
 by_cases h0:0≤i
 ·rw [if_pos h0] at h
  by_cases h1:i<n
  ·rw [if_pos h1] at h
   have e:i.toNat=j:=Option.some.inj h
   exact ⟨by rw [seqIndex_of h0 h1,e],by omega,by omega,h1⟩
  ·rw [if_neg h1] at h;cases h
 ·rw [if_neg h0] at h
  by_cases h1 : -(n:Int)≤i
  ·rw [if_pos h1] at h
   have e:(i+n).toNat=j:=Option.some.inj h
   exact ⟨by rw [seqIndex_neg (by omega) h1,e],by omega,h1,by omega⟩
  ·rw [if_neg h1] at h;cases h
theorem zwh {α:Type} {xs:List α} {i:Int} {v:α} (h:atI xs i=some v):∃ j,seqIndex? i xs.length=some j∧xs[j]? = some v∧j<xs.length ∧ -(xs.length:Int)≤i∧i<xs.length:=by
 unfold atI at h
 cases e:ixN xs.length i with
 | none=>rw [e] at h;cases h
 | some j =>
  rw [e] at h
  obtain ⟨h1,h2,h3,h4⟩:=zdq e
  exact ⟨j,h1,h,h2,h3,h4⟩
theorem zpg {α:Type} {xs:List α} {j:Nat} {v:α} (h:xs[j]? = some v):atI xs (j:Int)=some v:=by
 have hj:j<xs.length:=(List.getElem?_eq_some_iff.mp h).1
 have e:ixN xs.length (j:Int)=some j:=by
  unfold ixN
  rw [if_pos (by omega),if_pos (by omega)];simp
 unfold atI;rw [e];exact h
theorem ztm {α:Type} (xs:List α) (v:α):atI (xs++[v]) (-1)=some v:=by
 have hl:(xs++[v]).length=xs.length+1:=by simp
 have e:ixN (xs++[v]).length (-1)=some xs.length:=by
  unfold ixN
  rw [hl,if_neg (by decide),if_pos (by omega)]
  congr 1
  omega
 unfold atI
 rw [e]
 show (xs++[v])[xs.length]? = some v
 simp
noncomputable def zop (b:Expr):Prop:=∀ o i,subscripted b false o i=operate [o,i] (getItem o i)
noncomputable def IxR (X:Cx) (r:R2):Prop :=
 ∀ (value slice:Expr) (pins:List (Addr×Obj)) (s:Shared) (σ:St) (H:Hp) (x y:V) (v u:Value) (Q:VK),Inv X pins σ H s→RelV x v→RelV y u→r x y H Q →
  subscripted slice false v u=operate [v,u] (getItem v u)→wpAny (model X.prog X.w) X.A (subscriptTail value slice v u) (EP X pins σ Q) X.xe s
noncomputable def MtR (X:Cx) (id:String) (r:V→List V→Hp→VK→Prop):Prop :=
 ∀ (pins:List (Addr×Obj)) (s:Shared) (σ:St) (H:Hp) (x:V) (xs:List V) (v:Value) (us:List Value) (Q:VK),Inv X pins σ H s→RelV x v→Vals xs us→r x xs H Q →
  wpAny (model X.prog X.w) X.A (call (.builtin id) (v::us)) (EP X pins σ Q) X.xe s
section
variable {X:Cx} {a b:Expr} {ta tb:TE} {pos:Pos}
theorem zle {r:R2} (hr:IxR X r) (ha:PE X a ta) (hb:PE X b tb) (hs:zop b):PE X (.Subscript a b pos) (tOp r ta tb) := .mk <| by
 intro pins s σ H Q I h
 exact Subscript_ (binT ha hb I h λ v u s2 x y H2 I2 rx ry q=>hr a b pins s2 σ H2 x y v u Q I2 rx ry q (hs _ _))
noncomputable def rIxL (K:W.Frag):R2:=λ x y H Q=>∃ p xs i v,x = .ref p∧y = .int i∧SqL K H p xs∧atI xs i=some v∧Q v H
noncomputable def rIxT (K:W.Frag):R2:=λ x y H Q=>∃ p xs i v,x = .ref p∧y = .int i∧SqT K H p xs∧atI xs i=some v∧Q v H
noncomputable def rIxS:R2:=λ x y H Q=>∃ z i c,x = .str z∧y = .int i∧z.length≤sizeLine∧atI z.cps.toList i=some c∧Q (.str ⟨#[c]⟩) H
theorem zyb:IxR X (rIxL X.K):=by
 intro value slice pins s σ H x y v u Q I rx ry h hs
 obtain ⟨p,xs,i,z,rfl,rfl,hq,he,q⟩:=h
 cases rx
 obtain ⟨t,rfl⟩:=ry
 obtain ⟨its,r,pl,hz⟩:=I.list hq
 obtain ⟨j,h1,h2,h3,h4,h5⟩:=zwh he
 obtain ⟨w,ew,rw'⟩:=r.get h2
 have hl:=r.length
 have hn:=zuh
 have fin:EP X pins σ Q w s:=⟨z,H,I,rw',q⟩
 by_cases h0:0≤i
 ·have hj:i.toNat=j:=by
   rw [seqIndex_of h0 h5] at h1
   exact Option.some.inj h1
  exact item_listR pl.isList h0 (by omega) (by rw [hj];simpa using ew) fin hs
 ·have hj:(i+(its.toArray.size:Int)).toNat=j:=by
   rw [seqIndex_neg (by omega) h4] at h1
   rw [List.size_toArray,← hl]
   exact Option.some.inj h1
  exact subscriptTail_builtinR (x:=w) pl.isList.typeIs slot_list_getitem.lookup
   (wpAny_getItem_list_neg (Q:=λ r s'=>r=w∧EP X pins σ Q r s') pl.isList (by omega) (by rw [List.size_toArray] <;> omega) (by omega) (by rw [hj];simpa using ew) ⟨rfl,fin⟩) hs
theorem zap:IxR X (rIxT X.K):=by
 intro value slice pins s σ H x y v u Q I rx ry h hs
 obtain ⟨p,xs,i,z,rfl,rfl,hq,he,q⟩:=h
 cases rx
 obtain ⟨t,rfl⟩:=ry
 obtain ⟨its,r,pl,hz⟩:=I.tuple hq
 obtain ⟨j,h1,h2,h3,h4,h5⟩:=zwh he
 obtain ⟨w,ew,rw'⟩:=r.get h2
 have hl:=r.length
 have hn:=zuh
 have fin:EP X pins σ Q w s:=⟨z,H,I,rw',q⟩
 exact subscriptTail_builtinR (x:=w) pl.typeIs slot_tuple_getitem.lookup
  (getItem_tuple (j:=j) (Q:=λ r s'=>r=w∧EP X pins σ Q r s') pl (by omega) (by omega) (by rw [List.size_toArray,← hl];exact h1) (by simpa using ew) ⟨rfl,fin⟩) hs
theorem zkm:IxR X rIxS:=by
 intro value slice pins s σ H x y v u Q I rx ry h hs
 obtain ⟨z,i,c,rfl,rfl,hz,he,q⟩:=h
 obtain ⟨t,rfl⟩:=rx
 obtain ⟨t',rfl⟩:=ry
 obtain ⟨j,h1,h2,h3,h4,h5⟩:=zwh he
 have hl:z.cps.toList.length=z.length:=by simp [Str.length]
 rw [hl] at h1 h4 h5
 have hn:=zuh
 exact tail_any (typeIs_str s z t) slot_str_getitem.lookup (getItem_str (c:=c) (by
  have e1:decide (i < -(2 ^ 63:Int))=false:=decide_eq_false (by omega)
  have e2:decide (i ≥ 2 ^ 63)=false:=decide_eq_false (by omega)
  rw [e1,e2,Bool.or_false]) (by rw [h1];simpa using h2) ⟨.str ⟨#[c]⟩,H,I.tok _,⟨_,rfl⟩,q⟩) hs
theorem zzf (lo hi:Option Int) (n:Nat):(sliceBounds lo hi none n).1=((HT.sIx n 0 lo:Nat):Int)∧(sliceBounds lo hi none n).2.1=((HT.sIx n n hi:Nat):Int)∧(sliceBounds lo hi none n).2.2=1:=by
 refine ⟨?_,?_,rfl⟩
 ·cases lo with
  | none=>simp [sliceBounds,HT.sIx]
  | some i =>
   simp only [sliceBounds,HT.sIx,Option.getD_none,show (1:Int) > 0 by decide,if_true]
   by_cases h:i<0
   ·simp only [h,if_true] <;> omega
   ·simp only [h,if_false] <;> omega
 ·cases hi with
  | none=>simp [sliceBounds,HT.sIx]
  | some i =>
   simp only [sliceBounds,HT.sIx,Option.getD_none,show (1:Int) > 0 by decide,if_true]
   by_cases h:i<0
   ·simp only [h,if_true] <;> omega
   ·simp only [h,if_false] <;> omega
theorem zrf (its:List Value) (lo hi:Option Int):slicePick its.toArray lo hi none=((its.drop (HT.sIx its.length 0 lo)).take (HT.sIx its.length its.length hi - HT.sIx its.length 0 lo)).toArray:=by
 obtain ⟨h1,h2,h3⟩:=zzf lo hi its.toArray.size
 unfold slicePick
 rw [h1,h2,h3]
 simp only [sliceRange_one,pick_run,List.size_toArray] <;> rfl
noncomputable def rSlL (K:W.Frag):V→Option Int→Option Int→Hp→VK→Prop:=λ x lo hi H Q=>∃ a xs,x = .ref a∧SqL K H a xs∧∀ p,H p=none→Q (.ref p) (upd H p (.lst (cutV xs lo hi)))
theorem zob:SlR X (rSlL X.K):=by
 intro pins s σ H x v vl vu lo hi sl Q I rx hs pl pu h
 obtain ⟨a,xs,rfl,hx,q⟩:=h
 cases rx
 obtain ⟨its,r,ht,hz⟩:=I.list hx
 have hlen:=r.length
 refine ⟨"list",_,slot_list_getitem.lookup,ht.isList.typeIs,?_⟩
 refine wpAny_getItem_list_slice ht.isList hs pl pu .none (by simp) ?_ (by rw [List.size_toArray] <;> omega)
 rw [zrf,← hlen]
 refine ⟨.ref s.heap.objs.size,_,I.laid (t':=s.toks) (o := .lst (cutV xs lo hi)) (λ b ob q=>Heap.get?_push_of_some _ q) (Nat.le_refl _) ?_,rfl,q _ (I.hok.fresh (Nat.le_refl _))⟩
 exact ⟨Nat.le_trans (zed xs lo hi) hz,_,0,(r.drop (HT.sIx xs.length 0 lo)).take (HT.sIx xs.length xs.length hi - HT.sIx xs.length 0 lo),Heap.get?_push_size _ rfl⟩
noncomputable def zdl:V→Bool
 | .non=>true
 | .bl _=>true
 | .int _=>true
 | .str _=>true
 | _=>false
noncomputable def eqV:V→V→Bool
 | .non,.non=>true
 | .bl a,.bl b=>a == b
 | .bl a,.int b=>(if a then 1 else 0) == b
 | .int a,.bl b=>a == (if b then 1 else 0)
 | .int a,.int b=>a == b
 | .str a,.str b=>a == b
 | _,_=>false
theorem zxr {A:Around} {s:Shared} {y x:V} {u v:Value} (ry:RelV y u) (rx:RelV x v) (fy:zdl y=true) (fx:zdl x=true):SeqAt.EqAt A s u v (eqV y x):=by
 cases y with
 | non =>
  cases ry
  cases x with
  | non=>cases rx;exact SeqAt.EqAt.same _
  | bl b=>cases rx;exact SeqAt.EqAt.none_bool b
  | int b=>obtain ⟨t,rfl⟩:=rx;exact SeqAt.EqAt.none_int b t
  | str b=>obtain ⟨t,rfl⟩:=rx;exact SeqAt.EqAt.none_str b t
  | _=>exact absurd (show false=true from fx) Bool.false_ne_true
 | bl a =>
  cases ry
  cases x with
  | non=>cases rx;exact SeqAt.EqAt.bool_none a
  | bl b=>cases rx;exact SeqAt.EqAt.bool_bool a b
  | int b=>obtain ⟨t,rfl⟩:=rx;exact SeqAt.EqAt.bool_int a b t
  | str b=>obtain ⟨t,rfl⟩:=rx;exact SeqAt.EqAt.bool_str a b t
  | _=>exact absurd (show false=true from fx) Bool.false_ne_true
 | int a =>
  obtain ⟨t',rfl⟩:=ry
  cases x with
  | non=>cases rx;exact SeqAt.EqAt.int_none a t'
  | bl b=>cases rx;exact SeqAt.EqAt.int_bool a t' b
  | int b=>obtain ⟨t,rfl⟩:=rx;exact SeqAt.EqAt.int_int a t' b t
  | str b=>obtain ⟨t,rfl⟩:=rx;exact SeqAt.EqAt.int_str a t' b t
  | _=>exact absurd (show false=true from fx) Bool.false_ne_true
 | str a =>
  obtain ⟨t',rfl⟩:=ry
  cases x with
  | non=>cases rx;exact SeqAt.EqAt.str_none a t'
  | bl b=>cases rx;exact SeqAt.EqAt.str_bool a t' b
  | int b=>obtain ⟨t,rfl⟩:=rx;exact SeqAt.EqAt.str_int a t' b t
  | str b=>obtain ⟨t,rfl⟩:=rx;exact SeqAt.EqAt.str_str a t' b t
  | _=>exact absurd (show false=true from fx) Bool.false_ne_true
 | _=>exact absurd (show false=true from fy) Bool.false_ne_true
noncomputable def eqU (x:V) (u:Value):Bool:=match u with
 | .none=>eqV .non x
 | .bool b=>eqV (.bl b) x
 | .int i _=>eqV (.int i) x
 | .str z _=>eqV (.str z) x
 | _=>false
theorem zco {x y:V} {u:Value} (r:RelV y u) (f:zdl y=true):eqU x u=eqV y x:=by
 cases y with
 | non=>cases r;rfl
 | bl b=>cases r;rfl
 | int i=>obtain ⟨t,rfl⟩:=r;rfl
 | str z=>obtain ⟨t,rfl⟩:=r;rfl
 | _=>exact absurd (show false=true from f) Bool.false_ne_true
theorem zef {x:V}:∀ {xs:List V} {us:List Value},Vals xs us→xs.all zdl=true→us.any (eqU x)=xs.any λ y=>eqV y x
 | _,_,.nil,_=>rfl
 | y::xs,u::us,.cons r t,f=>by
  rw [List.all_cons,Bool.and_eq_true] at f
  rw [List.any_cons,List.any_cons,zco r f.1,zef t f.2]
theorem zxd {A:Around} {s:Shared} {x:V} {v:Value} (rx:RelV x v) (fx:zdl x=true):∀ {xs:List V} {us:List Value},Vals xs us→xs.all zdl=true→∀ u∈us,SeqAt.EqAt A s u v (eqU x u)
 | _,_,.nil,_=>λ u hu=>by cases hu
 | y::xs,u::us,.cons r t,f=>λ u' hu=>by
  rw [List.all_cons,Bool.and_eq_true] at f
  rcases List.mem_cons.mp hu with rfl | hu
  ·rw [zco r f.1];exact zxr r rx f.1 fx
  ·exact zxd rx fx t f.2 u' hu
noncomputable def inV (x:V) (xs:List V):Bool:=xs.any λ y=>eqV y x
noncomputable def rIn (K:W.Frag) (neg:Bool):R2:=λ x y H Q=>∃ p xs,y = .ref p∧(SqL K H p xs ∨ SqT K H p xs)∧zdl x=true∧xs.all zdl=true∧Q (.bl (if neg then !inV x xs else inV x xs)) H
theorem zyg:OpR X (compareOp .In) (rIn X.K false):=by
 intro pins s σ H x y v u Q I rx ry h
 obtain ⟨p,xs,rfl,hq,fx,fs,q⟩:=h
 cases ry
 rcases hq with hq | hq
 ·obtain ⟨its,r,pl,hz⟩:=I.list hq
  refine SeqAt.in_listAt (eqU x) pl.isList (λ w hw=>zxd rx fx r fs w (by simpa using hw)) ⟨.bl _,H,I,rfl,?_⟩
  rw [show its.toArray.any (eqU x)=its.any (eqU x) by simp,zef r fs]
  exact q
 ·obtain ⟨its,r,pl,hz⟩:=I.tuple hq
  refine SeqAt.in_tupleAt (eqU x) pl (λ w hw=>zxd rx fx r fs w (by simpa using hw)) ⟨.bl _,H,I,rfl,?_⟩
  rw [show its.toArray.any (eqU x)=its.any (eqU x) by simp,zef r fs]
  exact q
theorem ztd:OpR X (compareOp .NotIn) (rIn X.K true):=by
 intro pins s σ H x y v u Q I rx ry h
 obtain ⟨p,xs,rfl,hq,fx,fs,q⟩:=h
 cases ry
 rcases hq with hq | hq
 ·obtain ⟨its,r,pl,hz⟩:=I.list hq
  refine SeqAt.notIn_listAt (eqU x) pl.isList (λ w hw=>zxd rx fx r fs w (by simpa using hw)) ⟨.bl _,H,I,rfl,?_⟩
  rw [show its.toArray.any (eqU x)=its.any (eqU x) by simp,zef r fs]
  exact q
 ·obtain ⟨its,r,pl,hz⟩:=I.tuple hq
  refine SeqAt.notIn_tupleAt (eqU x) pl (λ w hw=>zxd rx fx r fs w (by simpa using hw)) ⟨.bl _,H,I,rfl,?_⟩
  rw [show its.toArray.any (eqU x)=its.any (eqU x) by simp,zef r fs]
  exact q
theorem zra:zmi X (.builtin "len") (λ xs H Q=>∃ p ys,xs=[.ref p]∧(SqL X.K H p ys ∨ SqT X.K H p ys)∧Q (.int ys.length) H):=by
 intro pins s σ H xs us Q I r h
 obtain ⟨p,ys,rfl,hq,q⟩:=h
 obtain ⟨u,rfl,rx⟩:=zyl r
 cases rx
 have hn:=zuh
 rcases hq with hq | hq
 ·obtain ⟨its,r',pl,hz⟩:=I.list hq
  have hlen:=r'.length
  exact Calls.call_len_list pl.isList (by simp only [List.size_toArray] <;> omega) ⟨.int ys.length,H,I.tok _,⟨s.toks+1,by rw [List.size_toArray,hlen]⟩,q⟩
 ·obtain ⟨its,r',pl,hz⟩:=I.tuple hq
  have hlen:=r'.length
  exact len_tuple pl (by simp only [List.size_toArray] <;> omega) ⟨.int ys.length,H,I.tok _,⟨s.toks+1,by rw [List.size_toArray,hlen]⟩,q⟩
theorem zzb:zmi X (.builtin "len") (λ xs H Q=>∃ z,xs=[.str z]∧z.length≤sizeLine∧Q (.int z.length) H):=by
 intro pins s σ H xs us Q I r h
 obtain ⟨z,rfl,hz,q⟩:=h
 obtain ⟨u,rfl,t,rfl⟩:=zyl r
 have hn:=zuh
 exact len_str (by omega) ⟨.int z.length,H,I.tok _,⟨_,rfl⟩,q⟩
theorem zub:zmi X (.type "tuple") (λ xs H Q=>∃ p ys,xs=[.ref p]∧((SqL X.K H p ys∧∀ l,H l=none→Q (.ref l) (upd H l (.tup ys))) ∨ (SqT X.K H p ys∧Q (.ref p) H))):=by
 intro pins s σ H xs us Q I r h
 obtain ⟨p,ys,rfl,h⟩:=h
 obtain ⟨u,rfl,rx⟩:=zyl r
 cases rx
 rcases h with ⟨hq,q⟩ | ⟨hq,q⟩
 ·obtain ⟨its,r',pl,hz⟩:=I.list hq
  have hlen:=r'.length
  refine call_tuple_list pl.isList (λ h' kp=>?_) (by simp only [List.size_toArray] <;> omega)
  have I1:Inv X pins σ H { s with heap:=h' }:=I.kept (t':=s.toks) kp
  have I2:Inv X pins σ (upd H h'.objs.size (.tup ys)) { s with heap:=h'.push { cls := .type "tuple",data := .seq its.toArray } } :=
   I1.laid (t':=s.toks) (λ b o e=>Heap.get?_push_of_some _ e) (Nat.le_refl _) (show ObjOk X.prog X.w _ _ _ (.tup ys) from ⟨hz,its,r',IsTup.new _ _⟩)
  exact ⟨.ref h'.objs.size,_,I2,rfl,q _ (I1.hok.fresh (Nat.le_refl _))⟩
 ·obtain ⟨its,r',pl,hz⟩:=I.tuple hq
  exact call_tuple_same pl ⟨.ref p,H,I,rfl,q⟩
noncomputable def tyV (K:W.Frag) (T:String) (x:V) (H:Hp):Prop:=match x with
 | .str _=>T = "str"
 | .int _=>T = "int"
 | .ref p=>(T = "list" ∧ ∃ xs,SqL K H p xs) ∨ (T = "tuple" ∧ ∃ o,K.lookup p=some o∧o.cls = .type "tuple" ∧ o.dict=none) ∨
   (T = "dict" ∧ ((∃ kvs,H p=some (.dK kvs)) ∨ ∃ kvs,H p=some (.dT kvs))) ∨ (T = "set" ∧ ∃ S n,H p=some (.set S n))
 | _=>False
theorem zlq {pins:List (Addr×Obj)} {σ:St} {H:Hp} {s:Shared} {T:String} {x:V} {v:Value} (I:Inv X pins σ H s) (r:RelV x v) (ty:tyV X.K T x H) :
  s.TypeIs v T∧∀ a,v = .ref a→∃ ob,s.heap.get? a=some ob∧ob.dict=none:=by
 cases x with
 | str z =>
  obtain ⟨t,rfl⟩:=r
  cases (show T = "str" from ty)
  exact ⟨typeIs_str s z t,λ _ e=>nomatch e⟩
 | int i =>
  obtain ⟨t,rfl⟩:=r
  cases (show T = "int" from ty)
  exact ⟨typeIs_int s i t,λ _ e=>nomatch e⟩
 | ref p =>
  cases r
  rcases ty with ⟨rfl,xs,hq⟩ | ⟨rfl,o,hk,hc,hd⟩ | ⟨rfl,hk⟩ | ⟨rfl,S,n,hk⟩
  ·obtain ⟨its,_,pl,_⟩:=I.list hq
   refine ⟨pl.isList.typeIs,λ a e=>?_⟩
   cases e
   obtain ⟨o,n,e,c,hd,_⟩:=pl
   exact ⟨o,e,hd⟩
  ·refine ⟨⟨o,I.kIn p o hk,hc⟩,λ a e=>?_⟩
   cases e
   exact ⟨o,I.kIn _ o hk,hd⟩
  ·have z:∃ o,s.heap.get? p=some o∧o.ExactDict:=by
    rcases hk with ⟨kvs,hk⟩ | ⟨kvs,hk⟩
    ·obtain ⟨_,_,_,_,o,_,_,e,ex,_⟩:=I.hok p _ hk
     exact ⟨o,e,ex⟩
    ·obtain ⟨_,_,_,_,o,_,_,e,ex,_⟩:=I.hok p _ hk
     exact ⟨o,e,ex⟩
   obtain ⟨o,e,ex⟩:=z
   refine ⟨⟨o,e,ex.1⟩,λ a e2=>?_⟩
   cases e2
   exact ⟨o,e,ex.2.1⟩
  ·obtain ⟨o,_,_,_,e,ex,_⟩:=I.hok p _ hk
   refine ⟨⟨o,e,ex.1⟩,λ a e2=>?_⟩
   cases e2
   exact ⟨o,e,ex.2.1⟩
 | _=>exact False.elim ty
noncomputable def tBM (K:W.Frag) (T:String) (r:V→List V→Hp→VK→Prop) (to:TE) (t:TA):TE:=λ σ H Q=>to σ H λ x H1=>tyV K T x H1∧t σ H1 λ xs H2=>r x xs H2 Q
variable {o e:Expr} {es:List Expr} {to:TE} {t:TA} {name:Str} {apos cpos:Pos} {T id:String} {r:V→List V→Hp→VK→Prop}
theorem zue (pa:PlainAttrs T) (slot:Slot T name id) (hty:typeOf (.builtin id)=pure (.type "method_descriptor")) (hm:MtR X id r) (ho:PE X o to) (ha:PA X (e::es) t)
  (hbase:attributeBase o name X.env (eval o X.env)=eval o X.env:=by rfl)
  (hfew:((backTo cpos (starEach (e::es) X.env)).all (λ x => !x.1) && (backToKw cpos (keywordEach [] X.env)).all (λ x=>x.1.isSome)
   && decide ((e::es).length+([]:List Keyword).length+(if ([]:List Keyword).isEmpty then 0 else 1)<30))=true:=by rfl)
  (hline:(apos.endLine == cpos.line)=true:=by rfl) (hs:starEach (e::es) X.env=(false,eval e X.env)::starEach es X.env:=by rfl) (hplain:(backTo cpos (starEach es X.env)).any (·.1)=false:=by rfl) :
  PE X (.Call (.Attribute o name apos) (e::es) [] cpos) (tBM X.K T r to t) := .mk <| by
 intro pins s σ H Q I h
 refine wpAny_Call_method_late hbase hfew hline rfl (thn (ho pins s σ H _ I h) λ v s1 ⟨x,H1,I1,r1,ty,q1⟩=>?_)
 obtain ⟨h1,h2⟩:=zlq I1 r1 ty
 refine ⟨T,id,pa,slot,hty,h1,h2,?_⟩
 have hA:=ha cpos pins s1 σ H1 _ I1 q1
 rw [hs] at hA ⊢
 refine Calls.callWith_builtin (by show (false || (backTo cpos (starEach es X.env)).any (·.1))=false;rw [hplain] <;> rfl) (Calls.evalArgs_plain ?_)
 exact thn hA λ us s2 ⟨vs,H2,I2,r2,q2⟩=>hm pins s2 σ H2 x vs v us Q I2 r1 r2 q2
/- xs.append(e),list.index on a module's tuple .. are MtR facts of 06m -/
end
end L2
namespace L2
open PySem PySem.Spec PyProof.Rows
noncomputable def MtM (X:Cx) (id:String) (r:V→List V→Hp→VK→Prop):Prop :=
 ∀ (pins:List (Addr×Obj)) (s:Shared) (σ:St) (H:Hp) (x:V) (xs:List V) (v:Value) (us:List Value) (Q:VK),Inv X pins σ H s→RelV x v→Vals xs us→r x xs H Q →
  wpAny (model X.prog X.w) X.A (call (.builtin id) (v::us)) (EP X pins σ Q) X.xe s
theorem Vals.one:∀ {x:V} {us:List Value},Vals [x] us→∃ u,us=[u]∧RelV x u
 | _,_,.cons r .nil=>⟨_,rfl,r⟩
theorem Vals.two:∀ {x y:V} {us:List Value},Vals [x,y] us→∃ u v,us=[u,v]∧RelV x u∧RelV y v
 | _,_,_,.cons r (.cons q .nil)=>⟨_,_,rfl,r,q⟩
section
variable {X:Cx} {pins:List (Addr×Obj)} {σ:St} {H:Hp} {s:Shared} {l b:Addr} {xs ys zs:List V}
theorem Inv.lset {its its':List Value} {n:Nat} {f:Array Value→Array Value} {t':Nat} (I:Inv X pins σ H s) (hH:H l=some (.lst xs))
  (e:s.heap.get? l=some { cls := .type "list",data := .seq its.toArray n }) (hf:f its.toArray=its'.toArray) (hv:Vals ys its') (hz:ys.length≤sizeLine) :
  Inv X pins σ (upd H l (.lst ys)) { s with heap:=s.heap.update l (Obj.mapSeq f),toks:=t' }:=by
 have q:=PySem.IsL.update e f
 rw [hf] at q
 refine I.write (x:=l) (e:=l) (by rw [hH];exact trivial) (.inl rfl) (λ b' u hb hu=>(Heap.get?_update_other s.heap (Obj.mapSeq f) (Ne.symm hb)).trans hu) ⟨_,q⟩ ?_
 exact ⟨hz,its',_,hv,q⟩
theorem Inv.lnew {its:List Value} {t':Nat} (I:Inv X pins σ H s) (hv:Vals ys its) (hz:ys.length≤sizeLine) :
  Inv X pins σ (upd H s.heap.objs.size (.lst ys)) { s with heap:=s.heap.push { cls := .type "list",data := .seq its.toArray },toks:=t' } :=
 I.laid (λ _ _ q=>Heap.get?_push_of_some _ q) (Nat.le_refl _) ⟨hz,its,0,hv,Heap.get?_push_size _ rfl⟩
theorem Inv.fresh (I:Inv X pins σ H s):H s.heap.objs.size=none:=I.hok.fresh (Nat.le_refl _)
theorem Inv.lstM (I:Inv X pins σ H s) (hH:H l=some (.lst xs)):xs.length≤sizeLine∧∃ (its:List Value) (n:Nat),Vals xs its∧xs.length=its.length∧s.heap.get? l=some { cls := .type "list",data := .seq its.toArray n }:=by
 obtain ⟨z,its,n,r,e⟩:=I.hok l _ hH
 exact ⟨z,its,n,r,r.length,e⟩
end
section
variable {X:Cx}
noncomputable def zrn:V→List V→Hp→VK→Prop:=λ x vs H Q=>∃ l xs y,x = .ref l∧vs=[y]∧H l=some (.lst xs)∧xs.length<sizeLine∧Q .non (upd H l (.lst (xs++[y])))
theorem zsk:MtM X "list.append" zrn:=by
 intro pins s σ H x vs v us Q I rx rv h
 obtain ⟨l,xs,y,rfl,rfl,hH,hz,q⟩:=h
 cases rx
 obtain ⟨u,rfl,ru⟩:=rv.one
 obtain ⟨z,its,n,r,hl,e⟩:=I.lstM hH
 refine call_meets F.slot_list_append ⟨_,e,rfl⟩ F.entry_list_append (F.args_list_append_2 _ _) (PySem.list_append l its.toArray n u (by rw [List.size_toArray];omega)) ⟨e,?_⟩
 refine ⟨.non,_,I.lset (its':=its++[u]) hH e (by simp) (r.append (.cons ru .nil)) ?_,rfl,q⟩
 rw [List.length_append,List.length_singleton]
 omega
noncomputable def rCat:R2:=λ x y H Q=>∃ l b xs zs,x = .ref l∧y = .ref b∧H l=some (.lst xs)∧H b=some (.lst zs)∧xs.length+zs.length≤sizeLine∧∀ p,H p=none→Q (.ref p) (upd H p (.lst (xs++zs)))
theorem zic:OpR X (binaryOp .Add) rCat:=by
 intro pins s σ H x y v u Q I rx ry h
 obtain ⟨l,b,xs,zs,rfl,rfl,hH,hB,hz,q⟩:=h
 cases rx
 cases ry
 obtain ⟨z,its,n,r,hl,e⟩:=I.lstM hH
 obtain ⟨z2,its2,n2,r2,hl2,e2⟩:=I.lstM hB
 refine PySem.P.add_list e e2 ?_ (by rw [List.size_toArray,List.size_toArray];omega)
 have ea:its.toArray++its2.toArray=(its++its2).toArray:=by simp
 rw [ea]
 exact ⟨.ref _,_,I.lnew (t':=s.toks) (r.append r2) (by rw [List.length_append];omega),rfl,q _ I.fresh⟩
end
section
variable {prog:Program} {w:World} {A:Around} {E:Value→Shared→Prop} {s:Shared}
end
section
variable {X:Cx}
end
end L2
namespace Att
open PySem PySem.W PySem.Calls PyProof.Rows
theorem zce {P:Params} {h:Heap}:∀ (ns:List Int) (vs:List Value),WellAll P h vs (ns.map WData.int)→IntsAre vs ns:=by
 intro ns
 induction ns with
 | nil =>
  intro vs w
  rw [List.map_nil] at w
  cases w
  exact .nil
 | cons n ns ih =>
  intro vs w
  rw [List.map_cons] at w
  cases w with
  | cons a b =>
   cases a
   exact .cons _ _ (ih _ b)
theorem zak {l:OpenLaw} {n:Nat} (hn:l.most=some n) {P:Params} {h:Heap} {args:List WData} {vals:List Value}
  (hpre:l.row.toRowW.claim.pre args=true) (hwl:WellAll P h vals args) :
  ∃ a vs ns,vals=[Value.ref a]∧args=[WData.list (ns.map WData.int)]∧h.get? a=some { cls := .type "list",data := .seq vs.toArray }∧IntsAre vs ns∧ns.length≤n:=by
 have hsh:WShape.hasAll [] args [.list .int]=true:=(pre_splitW hpre).1
 have hc:l.pre.holds [] { args:=args }=true:=(pre_splitW hpre).2
 obtain ⟨d,r,rfl,h1,h2⟩:=hasAllW_cons hsh
 obtain rfl:=hasAllW_nil h2
 obtain ⟨xs,rfl,h3⟩:=hasW_list h1
 obtain ⟨ns,rfl⟩:=items_int h3
 have hlen:ns.length≤n:=by
  unfold OpenLaw.pre at hc
  have h4:(WTm.not (.lt (.lit (.int (n:Int))) (.len (.arg 0)))).holds [] { args:=[.list (ns.map .int)] }=true:=by
   have h4:=(holds_andW hc).1
   rw [hn] at h4
   exact h4
  have h5:=condW_of h4 (w_not (w_lt w_lit (w_len_list (w_arg rfl))))
  rw [List.length_map] at h5
  refine Nat.le_of_not_lt λ q=>?_
  have q':(n:Int)<((ns.length:Nat):Int):=by omega
  first
   | (rw [decide_eq_true q'] at h5;exact absurd h5 (by decide))
   | (simp at h5;omega)
 cases hwl with
 | cons w1 w2 =>
  cases w2
  cases w1 with
  | list ho hall=>exact ⟨_,_,ns,rfl,rfl,ho,zce ns _ hall,hlen⟩
theorem zsj (l:OpenLaw) (args:List WData):l.row.toRowW.claim.post args (.bool true) args=true :=
 postW_of (r:=l.row.toRowW) (X:=(true == true))
  (show WShape.has [] (.bool true) .bool=true by first | rfl | decide | simp [WShape.has,WShape.arms,WShape.armsAll])
  (show (WTm.eq .res (.lit (.bool true))).value [] { args:=args,res:=some (.bool true),after:=args }=some (.bool (true == true)) from w_eq_bool (w_res rfl) w_lit) rfl
theorem attach_call {l:OpenLaw} {n:Nat} {q:Program} {loose:List Str} {XP:(Str→Option Value)→Heap→Prop} {YP:World→Heap→Prop} {d:DefRec}
  (hn:l.most=some n) (hdf:d.params.defaults=[])
  (call:∀ (w:World) (s₀ s₁:Shared) (mg mb:Str→Option Value) (fa:Addr) (o:Obj) (pm cd doc:Value) (a:Addr) (vs:List Value) (ns:List Int),
   Ground q loose [] XP w s₀ mg mb s₁.heap→YP w s₁.heap →
   s₁.heap.get? fa=some o→o.data = .func (docDef d.name d.params d.body d.scope pm cd doc)→s₁.heap.CodeRec cd d.name→mg d.name=some (.ref fa) →
   s₁.heap.get? a=some { cls := .type "list",data := .seq vs.toArray }→IntsAre vs ns→ns.length≤n→s₁.gens = #[] →
   codeAny (model l.prog w) callerA (.call (.ref fa) ⟨[.ref a],[]⟩) (λ r s'=>r = .ok (.ret (.bool true))∧OldK s₁.heap s'.heap∧s'.os=s₁.os∧AllBare s'.gens) s₁) :
  WalkO q loose XP YP l.row.toRowW d [] (λ f vs=>PySem.call f vs):=by
 intro w s₀ s₁ mg mb G Y fa o pm cd doc dV kV ho hd hcd hD hmg hg args vals as hpre hlay hrd hwl hlo
 obtain rfl:dV = .none:=Dflts.none hD hdf
 obtain rfl:kV = .none:=Dflts.noKw hD
 obtain ⟨a,vs,ns,rfl,rfl,hobj,hints,hlen⟩:=zak hn hpre hwl
 refine enter_call (codeAny_mono (call w s₀ s₁ mg mb fa o pm cd doc a vs ns G Y ho (fd_plain hd) hcd hmg hobj hints hlen hg) λ r s' hq=>?_)
 obtain ⟨rfl,h2,h3,h4⟩:=hq
 exact ⟨.inl ⟨.bool true,.bool true,[],rfl,λ _=>rfl,.bool true,zsj l _,λ _=>⟨List.Pairwise.nil,λ _ hm=>(nomatch hm)⟩⟩,h2,h3,h4⟩
section
variable {prog:Program} {w:World} {A:Around} {E:Value→Shared→Prop} {s:Shared} {K:Frag}
end
end Att
namespace L2
open PySem PySem.Spec PyProof.Rows
theorem zhg:∀ {vs:List Value} {ns:List Int},IntsAre vs ns→Vals (ns.map V.int) vs
 | _,_,.nil=>.nil
 | _,_,.cons n t h=>.cons ⟨t,rfl⟩ (zhg h)
noncomputable def Only (H:Hp):Prop:=∀ b,H b=none ∨ ∃ o xs,H b=some (.frz o (.lst xs))
theorem zdm {P:Program} {w:World} {K:W.Frag} {mg mb:Str→Option Value} {CX:CXT} {k:Nat} {fa a:Addr} {fd:FuncData} {x:Str} {sp:Sp} {s₁:Shared} {vs:List Value} {ns:List Int}
  (KX:K.In s₁.heap) (hns:s₁.heap.Ns mainGlobals mg) (hb:s₁.heap.Ns builtinsNs mb) (hbb:∀ x:Str,x ≠ "__name__" → mb x=bootBuiltins x) (hlim:s₁.heap.NoLimit) (hg:s₁.gens = #[])
  (ha:s₁.heap.get? a=some { cls := .type "list",data := .seq vs.toArray }) (hi:IntsAre vs ns) (hl:ns.length≤sizeLine) (hr:Room k callerA)
  (F:∀ base:Heap,K.In base→base.Ns mainGlobals mg→FnOk P w K mg base CX k fa fd [x] sp) (hbind:∀ (s:Shared) (u:Value),BindsTo s fd ⟨[u],[]⟩ [(x,u)])
  (hsp:∀ H:Hp,Only H→SqL K H a (ns.map V.int)→sp [.ref a] H (λ v _=>v = .bl true) λ _ _ _=>False)
  (hCX:∀ H e s',CX [] H s₁ (λ _ _ _=>False) e s'→False) :
  codeAny (model P w) callerA (.call (.ref fa) ⟨[.ref a],[]⟩) (λ r s'=>r = .ok (.ret (.bool true))∧OldK s₁.heap s'.heap∧s'.os=s₁.os∧AllBare s'.gens) s₁:=by
 have rv:=zhg hi
 have lenV:=hi.length
 have core:∀ H:Hp,Only H→SqL K H a (ns.map V.int)→HOk P w H s₁.heap→(∀ b,H b≠none→b=a)→(H a≠none→K.lookup a=none) →
   codeAny (model P w) callerA (.call (.ref fa) ⟨[.ref a],[]⟩) (λ r s'=>r = .ok (.ret (.bool true))∧OldK s₁.heap s'.heap∧s'.os=s₁.os∧AllBare s'.gens) s₁:=by
  intro H hO hS hok hA hK
  have base_of:∀ {b:Addr} {o:Obj},s₁.heap.get? b=some o→H b=none→(hidT s₁.heap H).get? b=some o:=λ e n=>zen e n
  have noA:∀ {b:Addr} {o:Obj} {es:Array DictEntry} {ep:Nat},s₁.heap.get? b=some o→o.data = .dict es ep→H b=none:=fun {b o es ep} e d=>by
   cases q:H b with
   | none=>rfl
   | some u =>
    have e':b=a:=hA b (by rw [q];simp)
    subst e'
    rw [ha] at e;cases e
    have d':Data.seq vs.toArray _=Data.dict es ep:=d
    cases d'
  have nsK:∀ {b:Addr} {m:Str→Option Value},s₁.heap.Ns b m→(hidT s₁.heap H).Ns b m:=fun {b m} ⟨o,es,ep,e,d,r⟩=>⟨o,es,ep,base_of e (noA e d),d,r⟩
  have hKb:K.In (hidT s₁.heap H):=λ b o e=>base_of (KX b o e) (by
   cases q:H b with
   | none=>rfl
   | some u =>
    have e':b=a:=hA b (by rw [q];simp)
    subst e'
    rw [hK (by rw [q];simp)] at e;cases e)
  have hM:Mod K mg (hidT s₁.heap H):=⟨hKb,nsK hns,⟨mb,nsK hb,hbb⟩,let ⟨mc,h1,h2⟩:=hlim; ⟨mc,nsK h1,h2⟩⟩
  have e0:Env0 P w K mg (hidT s₁.heap H) callerA [] s₁ H:=⟨rfl,hM,λ b o e=>zoo e,Nat.le_of_eq (zvk _ _),trivial,λ b hb=>absurd (show b∈([]:List Addr) from hb) (by simp),hok,.of_eq hg⟩
  refine codeAny_mono ((F _ hKb (nsK hns)).run callerA [] s₁ H ⟨[.ref a],[]⟩ [.ref a] [.ref a] _ _ hr e0 (hbind s₁ (.ref a)) (.cons rfl .nil) (hsp H hO hS)) λ r s' h=>?_
  cases r with
  | error e=>exact (hCX H e s' h).elim
  | ok fl =>
   cases fl with
   | next=>exact False.elim h
   | brk=>exact False.elim h
   | cont=>exact False.elim h
   | ret u =>
    obtain ⟨v,H',os,bare,un,hok',r',q⟩:=h
    have q':v = .bl true:=q
    subst q'
    obtain rfl:u=Value.bool true:=r'
    refine ⟨rfl,OldK.of_keep λ b o e=>?_,os,bare⟩
    cases q:H b with
    | none=>exact un.keep b o e q (by intro z;exact absurd (show b∈([]:List Addr) from z) (by simp)) (by simp)
    | some u =>
     rcases hO b with z | ⟨ob,xs,z⟩
     ·rw [q] at z;cases z
     ·have z2:=un.frzs b ob _ z
      obtain ⟨e1,_⟩:=hok b _ z
      obtain ⟨e2,_⟩:=hok' b _ z2
      rw [e] at e1;cases e1
      exact e2
 cases hk:K.lookup a with
 | some o =>
  have e:=KX a o hk
  rw [ha] at e
  cases e
  refine core (λ _=>none) (λ _=>.inl rfl) (.inr ⟨_,vs.toArray,_,hk,rfl,rfl,rfl,by rw [List.size_toArray,lenV];exact hl,by simpa using rv⟩) (λ b u z=>by have z':(none:Option HO)=some u:=z;cases z') (λ b z=>absurd rfl z) λ z=>absurd rfl z
 | none =>
  refine core (λ b=>if b=a then some (.frz { cls := .type "list",data := .seq vs.toArray } (.lst (ns.map V.int))) else none) (λ b=>?_) (.inl (.inr ⟨{ cls := .type "list",data := .seq vs.toArray },if_pos rfl⟩)) (λ b u z=>?_) (λ b z=>?_) λ _=>hk
  ·by_cases hb:b=a
   ·exact .inr ⟨_,_,if_pos hb⟩
   ·exact .inl (if_neg hb)
  ·by_cases hb:b=a
   ·have z':=(if_pos hb).symm.trans z
    cases z'
    subst hb
    exact ⟨ha,by rw [List.length_map];exact hl,vs,_,rv,ha⟩
   ·have z':=(if_neg hb).symm.trans z
    cases z'
  ·by_cases hb:b=a
   ·exact hb
   ·exact absurd (if_neg hb) z
end L2
namespace L2
open PySem PySem.Spec PyProof.Rows
theorem walk_of {l:W.OpenLaw} {n k:Nat} {q:Program} {loose:List Str} {XP:(Str→Option Value)→Heap→Prop} {YP:World→Heap→Prop} {d:DefRec} {K:Params→W.Frag} {CX:World→CXT} {sp:World→Sp} {x:Str}
  (hn:l.most=some n) (hn2:n≤sizeLine) (hdf:d.params.defaults=[]) (hr:Room k callerA)
  (hY:∀ (w:World) (h:Heap),YP w h→(K w.params).In h)
  (F:∀ (w:World) (mg:Str→Option Value) (fa:Addr) (h:Heap),(K w.params).In h→h.Ns mainGlobals mg→mg d.name=some (.ref fa) →
   ∃ fd:FuncData,(∀ (s:Shared) (u:Value),BindsTo s fd ⟨[u],[]⟩ [(x,u)]) ∧
    ∀ base:Heap,(K w.params).In base→base.Ns mainGlobals mg→FnOk l.prog w (K w.params) mg base (CX w) k fa fd [x] (sp w))
  (hsp:∀ (w:World) (H:Hp) (a:Addr) (ns:List Int),ns.length≤n→Only H→SqL (K w.params) H a (ns.map V.int)→sp w [.ref a] H (λ v _=>v = .bl true) λ _ _ _=>False)
  (hCX:∀ (w:World) (H:Hp) (s:Shared) (e:Value) (s':Shared),CX w [] H s (λ _ _ _=>False) e s'→False) :
  W.WalkO q loose XP YP l.row.toRowW d [] (λ f vs=>PySem.call f vs):=by
 refine Att.attach_call hn hdf λ w s₀ s₁ mg mb fa o pm cd doc a vs ns G Y ho hd hcd hmg hobj hints hlen hg=>?_
 have KX:=hY w _ Y
 obtain ⟨fd,hb,hF⟩:=F w mg fa _ KX G.T.g hmg
 exact zdm KX G.T.g G.T.b G.T.builtins G.T.nolimit hg hobj hints (Nat.le_trans hlen hn2) hr hF hb (λ H hO hS=>hsp w H a ns hlen hO hS) λ H e s'=>hCX w H s₁ e s'
end L2
/- THE LAST THEOREM (shape;LID,My.* are yours):
   My.Adr: a structure of the addresses that your layer names (classes,functions);My.Txt K t: a structure (Prop) of the equations over K;
   My.txt_mk:{K} {implicit addresses ..} (e1:nsIn K mainGlobals "law" = some (some (.ref f))) (e2:K.lookup f=some ⟨oc,od,.func (fnOf "law" "law" params body scope dV kV doc pm an cdv ct),sl⟩) (e3:codeIn K cdv "law" = true) .. : ∃ t,My.Txt K t
set_option maxRecDepth 100000 in
set_option maxHeartbeats 0 in
theorem PySem.Challenge.cw_LID_holds : PySem.Challenge.rw_LID.Holds := by
 w_on;o_law;k_head; (case hw=>w_witness2)
 k_fill
 refine L2.walk_of (l:=PySem.Challenge.rw_LID) (n:=63) (k:=40) (x := "script") (CX:=λ w=>..) (sp:=λ _=>My.sp_law) rfl (by decide) rfl ⟨rfl,by decide,by decide⟩ (λ w h Y=>W.kIn_of Y) ?F ?S ?C
 case F =>
  intro w mg fa h KX G hmg
  have T:∃ t,My.Txt (L2.KOf KX) t:=by
   dsimp only [L2.KOf]                          -- K must stand as «<heap const> w.params» for k_is
   refine' My.txt_mk ?e1 ?e2 ?e3 ..
   (case e1=>W.k_is)                    -- in the order: a name -> its address -> its object -> its parts
   (case e2=>W.k_is)
   ..
  obtain ⟨t,T⟩:=T
  have e0:=hmg.symm.trans (W.mg_of KX G T.law)
  cases e0                                       -- fa is the law's own address
  exact ⟨_,λ s u=>.of_eq rfl,λ base kb nb=>My.law_fn T kb nb⟩     -- if «.of_eq rfl» comes too early: refine' ⟨_,?b,λ base kb nb=>My.law_fn T kb nb⟩;exact λ s u=>.of_eq rfl
 case S=>exact λ w H a ns hl hO hS=>..
 case C=>exact ..
(the tactic k_is has no namespace: write k_is) -/
namespace L2
open PySem PySem.Spec PyProof.Rows
noncomputable def zof (s:Stmt):Arguments:=match s with
 | .FunctionDef _ a _ _ _ _ _ _ _ _=>a
 | _=>{ posonlyargs:=[],args:=[],vararg:=none,kwonlyargs:=[],kw_defaults:=[],kwarg:=none,defaults:=[] }
noncomputable def zae (s:Stmt):List Stmt:=match s with
 | .FunctionDef _ _ b _ _ _ _ _ _ _=>b
 | _=>[]
noncomputable def zja (s:Stmt):Scope:=match s with
 | .FunctionDef _ _ _ _ _ _ sc _ _ _=>sc
 | _=>{ kind := .function,names:=[],isGenerator:=false,isCoroutine:=false }
noncomputable abbrev E0:XK:=λ _ _ _=>False
structure Fun (K:W.Frag) (x qual:Str) (st:Stmt) (f:Addr) (fd:FuncData):Prop where
 ex:∃ (oc:Value) (od:Option Addr) (kV doc pm:Value) (an:Option Addr) (cdv ct:Value) (osl:Array (Option Value)),
  fd=W.fnOf x qual (zof st) (zae st) (zja st) .none kV doc pm an cdv ct∧K.lookup f=some ⟨oc,od,.func fd,osl⟩∧W.codeIn K cdv qual=true
 kp:W.keepIn K (.ref f)=true
section
variable {P:Program} {w:World} {K:W.Frag} {mg:Str→Option Value} {base:Heap}
theorem Fun.binds {x qual:Str} {st:Stmt} {f:Addr} {fd:FuncData} {ps:List Str} (F:Fun K x qual st f fd)
  (h:∀ (kV doc pm:Value) (an:Option Addr) (cdv ct:Value) (us:List Value),us.length=ps.length→bindArgs (W.fnOf x qual (zof st) (zae st) (zja st) .none kV doc pm an cdv ct) ⟨us,[]⟩=pure (ps.zip us)):Binds K fd ps []:=by
 obtain ⟨oc,od,kV,doc,pm,an,cdv,ct,osl,rfl,lk,hcd⟩:=F.ex
 exact .all (h kV doc pm an cdv ct)
theorem fun_mk {x qual:Str} {st:Stmt} {f:Addr} {oc:Value} {od an:Option Addr} {osl:Array (Option Value)} {kV doc pm cdv ct:Value} (l:K.lookup f=some ⟨oc,od,.func (W.fnOf x qual (zof st) (zae st) (zja st) .none kV doc pm an cdv ct),osl⟩)
  (c:W.codeIn K cdv qual=true) (k:W.keepIn K (.ref f)=true):Fun K x qual st f (W.fnOf x qual (zof st) (zae st) (zja st) .none kV doc pm an cdv ct):=⟨⟨oc,od,kV,doc,pm,an,cdv,ct,osl,rfl,l,c⟩,k⟩
end
theorem zrj {n:Nat} (h:n≤1000):n<sizeLine:=Nat.lt_of_le_of_lt h (by decide)
section
variable {X:Cx}
theorem pv (i:Nat) {x:Str} {pos:Pos} (hN:X.N[i]? = some x:=by rfl) (hv:Vis X.env.scope x:=by first | exact Or.inl rfl | exact Or.inr (Or.inl rfl) | exact Or.inr (Or.inr rfl)) (hd:(x == ("__debug__" : Str))=false:=by decide)
  (hcd:(x == ("__classdict__" : Str))=false:=by decide):PE X (.Name x pos) (tVar i):=zqr hN hv hd hcd
end
theorem iteF {A B:Prop} (h:B):if false=true then A else B:=by
 rw [if_neg Bool.false_ne_true]
 exact h
theorem iteT {A B:Prop} (h:A):if true=true then A else B:=by
 rw [if_pos rfl]
 exact h
theorem zfw {c A B:Prop} [Decidable c] (hc:c) (h:B):if (!decide c)=true then A else B:=by
 rw [decide_eq_true hc]
 exact iteF h
noncomputable def Same (H H':Hp):Prop:=∀ b o,H b=some o→H' b=some o
theorem Same.refl (H:Hp):Same H H:=λ _ _ h=>h
theorem Same.trans {H H1 H2:Hp} (a:Same H H1) (b:Same H1 H2):Same H H2:=λ c o h=>b c o (a c o h)
theorem Same.free {H H':Hp} (e:Same H H') {l:Addr} (h:H' l=Option.none):H l=Option.none:=by
 cases q:H l with
 | none=>rfl
 | some o =>
  rw [e l o q] at h
  cases h
theorem Same.seq {K:W.Frag} {H H':Hp} {a:Addr} {xs:List V} (e:Same H H') (h:SqL K H a xs):SqL K H' a xs:=by
 rcases h with (h | ⟨o,h⟩) | h
 ·exact .inl (.inl (e _ _ h))
 ·exact .inl (.inr ⟨o,e _ _ h⟩)
 ·exact .inr h
end L2
namespace L2
open PySem PySem.Spec PyProof.Rows
section
variable {X:Cx} {pins:List (Addr×Obj)} {σ:St} {H:Hp} {s:Shared} {h':Heap}
theorem Inv.turnLay {t':Nat} {ch:List Addr} {T:Addr} {o:HO} (I:Inv X pins σ H s) (hf:∀ b∈ch,FpOk X pins H b)
  (k:∀ b u,b∉ch→s.heap.get? b=some u→h'.get? b=some u) (hT:s.heap.objs.size≤T)
  (new:ObjOk X.prog X.w (upd H T o) h' T o):Inv X pins σ (upd H T o) { s with heap:=h',toks:=t' }:=by
 have hn:H T=none:=I.hok.fresh hT
 have nT:∀ b u,s.heap.get? b=some u→b≠T:=λ b u e=>Nat.ne_of_lt (Nat.lt_of_lt_of_le (Heap.lt_size e) hT)
 have nch:∀ b u,H b=some u→b∉ch:=λ b u e hb=>by rw [(hf b hb).1] at e;cases e
 have nTH:∀ b u,H b=some u→b≠T:=λ b u e=>zhb e hn
 refine I.step (g':=s.gens) (d':=s.drawn) (ch:=ch) (λ b hb=>?_) (λ b o _ _ hc e _=>k b o hc e) (λ b o _ _ hc e _=>⟨o.slots,k b o hc e⟩)
  (λ b u hc e n=>by rw [zwa (nT b u e)];exact n) (λ b u hc e=>⟨u,k b u hc e⟩) (λ b xs e=>by rw [zwa (nTH b _ e)];exact e) (λ b o' u e=>by rw [zwa (nTH b _ e)];exact e)
  (λ b ps e=>⟨#[],by rw [zwa (nTH b _ e),e];simp⟩) (λ m hm=>?_) (λ b u e=>?_) I.bare
 ·obtain ⟨f0,f1,f2,f3,f4,f5⟩:=hf b hb
  exact ⟨f3,f1,f4,f5⟩
 ·obtain ⟨ob,es,ep,ho,r⟩:=hm
  exact ⟨ob,es,ep,k _ ob (λ z=>(hf _ z).2.1 rfl) ho,r⟩
 ·by_cases hb:b=T
  ·subst hb;rw [upd_same] at e;cases e;exact new
  ·rw [zwa hb] at e
   refine (I.hok b u e).stay (λ c v hc q=>k c v ?_ q) (λ c q=>by rw [zwa (nTH c _ q)];exact q) λ c xs q=>by rw [zwa (nTH c _ q)];exact q
   rcases hc with z | z
   ·rw [z];exact nch b u e
   ·exact nch c _ z
theorem Inv.turnedL {t':Nat} {ch:List Addr} (I:Inv X pins σ H s) (hf:∀ b∈ch,FpOk X pins H b)
  (k:∀ b u,b∉ch→s.heap.get? b=some u→h'.get? b=some u):Inv X pins σ H { s with heap:=h',toks:=t' }:=by
 have nch:∀ b u,H b=some u→b∉ch:=λ b u e hb=>by rw [(hf b hb).1] at e;cases e
 refine I.step (g':=s.gens) (d':=s.drawn) (ch:=ch) (λ b hb=>?_) (λ b o _ _ hc e _=>k b o hc e) (λ b o _ _ hc e _=>⟨o.slots,k b o hc e⟩)
  (λ b u hc e n=>n) (λ b u hc e=>⟨u,k b u hc e⟩) (λ b xs e=>e) (λ b o' u e=>e)
  (λ b ps e=>⟨#[],by rw [e];simp⟩) (λ m hm=>?_) (λ b u e=>?_) I.bare
 ·obtain ⟨f0,f1,f2,f3,f4,f5⟩:=hf b hb
  exact ⟨f3,f1,f4,f5⟩
 ·obtain ⟨ob,es,ep,ho,r⟩:=hm
  exact ⟨ob,es,ep,k _ ob (λ z=>(hf _ z).2.1 rfl) ho,r⟩
 ·refine (I.hok b u e).stay (λ c v hc q=>k c v ?_ q) (λ c q=>q) λ c xs q=>q
  rcases hc with z | z
  ·rw [z];exact nch b u e
  ·exact nch c _ z
end
noncomputable def Its (x:Str):It:=⟨λ i _=>i<x.cps.size,λ i H v H'=>H'=H∧∃ c,x.cps[i]? = some c∧v = .str ⟨#[c]⟩,λ i _=>i=x.cps.size⟩
theorem zvi {P:Program} {w:World} {K:W.Frag} {tg:Expr} {x:Str} {it:Addr} {n:String} {t:Tok} (hn:n = "str_ascii_iterator" ∨ n = "str_iterator")
  (W:∀ A':Around,A'.handled=none→Walks P w A' it [it] [it] x.cps.size (SignAt x) (λ i h=>h.IsStrIter it n x t i))
  (hs:∀ (A:Around) (i:Nat) (s:Shared) (Q:Value→Shared→Prop) (E:Value→Shared→Prop),s.heap.IsStrIter it n x t i→Q (.ref it) s→wpAny (model P w) A (pyIter (.ref it)) Q E s) :
  Turn P w K tg (Its x) [it] it (λ i h=>h.IsStrIter it n x t i) where
 mem:=by simp
 obj:=λ i h st b hb=>by
  have e:b=it:=by simpa using hb
  subst e
  obtain ⟨o,e,c,d⟩:=st
  exact ⟨o,e,λ v z=>by rw [d] at z;cases z⟩
 keep:=λ i h h' st k=>let ⟨o,ho,r⟩:=st; ⟨o,k it (by simp) o ho,r⟩
 item:=by
  intro X hP hw hK hc i pins s σ H E I hf st hg
  subst hP hw hK
  refine (W X.A (I.ok.hd hc)).item i s _ _ hg st λ v h' tk hv st' kk=>?_
  obtain ⟨c,u,hx,rfl⟩:=hv
  have I1:Inv X pins σ H { s with heap:=h',toks:=tk }:=I.turnedL hf kk
  obtain ⟨o,e,c',d⟩:=id st'
  refine ⟨_,rfl,ziu (s:={ s with heap:=h',toks:=tk }) e c' d (by rcases hn with rfl | rfl <;> decide) ⟨.str ⟨#[c]⟩,H,I1,⟨u,rfl⟩,⟨rfl,c,hx,rfl⟩,st',λ b hb=>(hf b hb).1⟩⟩
 done:=by
  intro X hP hw hK hc i pins s σ H E I hf st hg
  subst hP hw hK
  have e:i=x.cps.size:=hg
  subst e
  exact (W X.A (I.ok.hd hc)).done s _ _ st λ h' tk kk=>⟨rfl,I.turnedL hf kk⟩
 self:=hs
section
variable {X:Cx} {tg:Expr}
noncomputable def iStr (tl:TE):TI:=λ σ H R=>tl σ H λ x H1=>∃ z,x = .str z∧R (Its z) H1
theorem zvn {l:Expr} {tl:TE} (hl:PE X l tl):PI X tg l (iStr tl) := .mk <| by
 intro pins s σ H R I h
 refine thn (hl pins s σ H _ I h) λ v s1 ⟨x,H1,I1,r1,q1⟩=>?_
 obtain ⟨z,e,q⟩:=q1
 subst e
 obtain ⟨t,rfl⟩:=r1
 have fpo:∀ b∈[s1.heap.objs.size],FpOk X pins H1 b:=λ b hb=>by
  have e:b=s1.heap.objs.size:=by simpa using hb
  subst e
  exact I1.fpOk (Nat.le_refl _) (I1.hok.fresh (Nat.le_refl _))
 cases ha:z.cps.all (· < 128)
 ·exact wpAny_pyIter_wide ha ⟨s1.heap.objs.size,[s1.heap.objs.size],_,_,H1,rfl,I1.kept (t':=s1.toks) λ b o e=>Heap.get?_push_of_some _ e,
   zvi (n := "str_iterator") (t:=t) (.inr rfl) (λ A' hA=>Walks.strWide hA _ z t) (λ A i s Q E st h=>wpAny_pyIter_striter_wide st h),⟨_,Heap.get?_push_size _ rfl,rfl,rfl⟩,fpo,q⟩
 ·exact wpAny_pyIter_ascii ha ⟨s1.heap.objs.size,[s1.heap.objs.size],_,_,H1,rfl,I1.kept (t':=s1.toks) λ b o e=>Heap.get?_push_of_some _ e,
   zvi (n := "str_ascii_iterator") (t:=t) (.inl rfl) (λ A' hA=>Walks.strAscii hA _ z t) (λ A i s Q E st h=>wpAny_pyIter_striter_ascii st h),⟨_,Heap.get?_push_size _ rfl,rfl,rfl⟩,fpo,q⟩
end
noncomputable def Ite (K:W.Frag) (a:Addr):It :=
 ⟨λ i H=>∃ xs x,SqL K H a xs∧xs[i]? = some x,λ i H v H'=>∃ T y,v = .ref T∧H T=none∧H'=upd H T (.tup [.int i,y])∧∀ xs,SqL K H a xs→xs[i]? = some y,λ i H=>∃ xs,SqL K H a xs∧xs.length≤i⟩
theorem zck {P:Program} {w:World} {K:W.Frag} {elts:List Expr} {kk:Nat} {tp:Pos} (a e it:Addr) (hne:e≠it) :
  Turn P w K (.Tuple elts kk tp) (Ite K a) [e,it] e (λ i h=>(∃ old,IsEnum h e it (i:Nat) old)∧h.IsListIter it a i) where
 mem:=by simp
 obj:=λ i h st b hb=>by
  obtain ⟨⟨old,he⟩,o,e',c,d⟩:=st
  have:b=e ∨ b=it:=by simpa using hb
  rcases this with rfl | rfl
  ·exact ⟨_,he,λ v z=>nomatch z⟩
  ·exact ⟨o,e',λ v z=>by rw [d] at z;cases z⟩
 keep:=λ i h h' st k=>⟨let ⟨old,he⟩:=st.1; ⟨old,k e (by simp) _ he⟩,st.2.at λ o q=>k it (by simp) o q⟩
 item:=by
  intro X hP hw hK hc i pins s σ H E I hf st hg
  subst hP hw hK
  obtain ⟨⟨old,he⟩,hit⟩:=st
  obtain ⟨xs,x,hq,hx⟩:=hg
  obtain ⟨its,rv,p,hz⟩:=I.list hq
  obtain ⟨u,hu,ru⟩:=rv.get hx
  have helt:e<s.heap.objs.size:=Heap.lt_size he
  refine wpAny_pyNext_enum_item he hit p.isList (x:=u) (by simpa using hu) hne λ h1 heo hit1 ht1 hz1 hk1=>?_
  refine ⟨_,rfl,wpAny_letOwnedTupleGo_enum heo λ h2 he2 hs2=>?_⟩
  have hT2:h2.get? s.heap.objs.size=some { cls := .type "tuple",data := .seq #[.int i s.toks,u] }:=(hs2.2 _ (Nat.ne_of_gt helt)).trans ht1
  have I2:Inv X pins σ (upd H s.heap.objs.size (.tup [.int i,x])) { s with heap:=h2,toks:=s.toks+1 }:=by
   refine I.turnLay (ch:=[e,it]) hf (λ b o hb q=>?_) (Nat.le_refl _) ?_
   ·have n1:b≠e:=λ z=>hb (by simp [z])
    have n2:b≠it:=λ z=>hb (by simp [z])
    exact (hs2.2 b n1).trans (hk1 b o n1 n2 q)
   ·exact ⟨by show 2≤sizeLine;decide,[.int i s.toks,u],.cons ⟨_,rfl⟩ (.cons ru .nil),⟨_,hT2,rfl,_,rfl⟩⟩
  have hn:H s.heap.objs.size=none:=I.hok.fresh (Nat.le_refl _)
  refine ⟨.ref s.heap.objs.size,_,I2,rfl,⟨_,x,rfl,hn,rfl,λ ys hy=>by rw [I.list_inj hy hq];exact hx⟩,⟨⟨u,by simpa using he2⟩,hit1.at λ o q=>(hs2.2 it (Ne.symm hne)).trans q⟩,λ b hb=>?_⟩
  have hb':b<s.heap.objs.size:=by
   have:b=e ∨ b=it:=by simpa using hb
   rcases this with rfl | rfl
   ·exact helt
   ·obtain ⟨o,q,_⟩:=hit;exact Heap.lt_size q
  rw [zwa (Nat.ne_of_lt hb')]
  exact (hf b hb).1
 done:=by
  intro X hP hw hK hc i pins s σ H E I hf st hg
  subst hP hw hK
  obtain ⟨⟨old,he⟩,hit⟩:=st
  obtain ⟨xs,hq,hx⟩:=hg
  obtain ⟨its,rv,p,hz⟩:=I.list hq
  have hl:=rv.length
  exact wpAny_pyNext_enum_end (I.ok.hd hc) he hit p.isList (by simp;omega) λ h' eb=>⟨rfl,I.turnedL (t':=s.toks) hf λ b o hb q=>eb b o (λ z=>hb (by simp [z])) q⟩
 self:=λ A i s Q E st h=>by
  obtain ⟨⟨old,he⟩,hit⟩:=st
  have hT:s.TypeIs (.ref e) "enumerate" := ⟨_,he,rfl⟩
  refine wpAny_pyIter_slot hT F.slot_enumerate_iter (wpAny_call_entry F.slot_enumerate_iter hT F.entry_enumerate_iter ?_ (F.args_enumerate_iter_1 _))
  show wpAny _ _ (ret (.ref e)) _ _ s
  exact wpAny_pure ⟨_,rfl, "enumerate",_,hT,F.slot_enumerate_next.lookup,h⟩
end L2
namespace L2
open PySem PySem.Spec PyProof.Rows
section
variable {X:Cx}
noncomputable def zdv (K:W.Frag) (ta:TA):TI:=λ σ H R=>ta σ H λ vs H1=>∃ a,vs=[.ref a]∧(∃ xs,SqL K H1 a xs)∧R (Ite K a) H1
theorem zgp {elts:List Expr} {kk:Nat} {tp:Pos} {a:Expr} {ta:TA} {p pos:Pos} (hg:Gl X "enumerate") (hm:X.mg "enumerate" = none) (hb:bootBuiltins "enumerate" = some (.type "enumerate")) (ha:PA X [a] ta) (hs:starEach [a] X.env=[(false,eval a X.env)]:=by rfl) :
  PI X (.Tuple elts kk tp) (.Call (.Name "enumerate" p) [a] [] pos) (zdv X.K ta) := .mk <| by
 intro pins s σ H R I h
 refine Call_ (zph I hg hm hb (PyProof.Rows.callWith_type1 (thn (ha pos pins s σ H _ I h) λ us s1 ⟨vs,H1,I1,r1,q1⟩=>?_) hs rfl))
 obtain ⟨b,e,⟨xs,hq⟩,q⟩:=q1
 subst e
 cases r1 with
 | cons r rr =>
  cases rr
  cases r
  obtain ⟨its,rv,pl,hz⟩:=I1.list hq
  refine call_enumerate_list pl.isList λ h' he hi hsz hk=>?_
  have I2:Inv X pins σ H1 { s1 with heap:=h' }:=I1.kept (t':=s1.toks) hk
  have T:=zck (P:=X.prog) (w:=X.w) (K:=X.K) (elts:=elts) (kk:=kk) (tp:=tp) b (s1.heap.objs.size+1) s1.heap.objs.size (Nat.succ_ne_self _)
  have t0:(∃ old,IsEnum h' (s1.heap.objs.size+1) s1.heap.objs.size ((0:Nat):Int) old)∧h'.IsListIter s1.heap.objs.size b 0:=⟨⟨.none,by simpa using he⟩,hi⟩
  refine T.self X.A 0 _ _ _ t0 ⟨_,_,_,_,H1,rfl,I2,T,t0,λ c hc=>?_,q⟩
  have hc':s1.heap.objs.size≤c:=by
   have:c=s1.heap.objs.size+1 ∨ c=s1.heap.objs.size:=by simpa using hc
   rcases this with rfl | rfl
   ·exact Nat.le_succ _
   ·exact Nat.le_refl _
  exact I1.fpOk hc' (I1.hok.fresh hc')
end
theorem zcn {K:W.Frag} {a:Addr} {xs:List V} {g:TG} {tb:TS} {D:Ends} {σ:St} {H:Hp} (Pv:Nat→St→Hp→Prop) (h0:Pv 0 σ H) (hl:∀ i σ H,i≤xs.length→Pv i σ H→SqL K H a xs)
  (hs:∀ i x T σ H,xs[i]? = some x→Pv i σ H→H T=none→g (.ref T) σ (upd H T (.tup [.int i,x])) λ σ2 H2=>tb { D with nx:=Pv (i+1),ct:=Pv (i+1),bk:=D.nx } σ2 H2) (hd:∀ σ H,Pv xs.length σ H→D.nx σ H) :
  ∃ W:Nat→Nat→St→Hp→Prop,(∃ m,W 0 m σ H)∧∀ i m σ H,W i m σ H →
   ((Ite K a).stop i H∧D.nx σ H) ∨ ((Ite K a).go i H∧∃ N:St→Hp→Prop,(∀ σ' H',N σ' H'→∃ m',m'<m∧W (i+1) m' σ' H')∧∀ x H',(Ite K a).yld i H x H'→g x σ H' λ σ2 H2=>tb { D with nx:=N,ct:=N,bk:=D.nx } σ2 H2):=by
 refine ⟨λ i m σ H=>m=xs.length - i∧i≤xs.length∧Pv i σ H,⟨xs.length,by simp,Nat.zero_le _,h0⟩,?_⟩
 rintro i m σ H ⟨rfl,hi,p⟩
 have q:=hl i σ H hi p
 by_cases hlt:i<xs.length
 ·refine .inr ⟨⟨xs,xs[i],q,by simp [hlt]⟩,Pv (i+1),λ σ' H' p'=>⟨xs.length - (i+1),by omega,rfl,hlt,p'⟩,λ x H' y=>?_⟩
  obtain ⟨T,z,rfl,hT,rfl,y⟩:=y
  exact hs i z T σ H (y xs q) p hT
 ·have e:i=xs.length:=by omega
  subst e
  exact .inl ⟨⟨xs,q,Nat.le_refl _⟩,hd σ H p⟩
noncomputable def ztc (env:Env) (cs:List (Str×Addr)) (p:Str×NameKind):List (Str×Addr):=if p.2 = .free then (match env.cells.lookup p.1 with | some c=>(p.1,c)::cs | none=>cs) else cs
noncomputable def clOf (scope:Scope) (env:Env):List (Str×Addr):=scope.names.foldl (ztc env) []
noncomputable def zee (scope:Scope) (env:Env):Bool :=
 scope.names.all (λ p=>p.2 != .cell) && scope.names.all (λ p=>p.2 != .local || scope.names.lookup p.1 == some .local) && scope.names.all (λ p=>p.2 != .free || (env.scope.names.lookup p.1 == some .cell || env.scope.names.lookup p.1 == some .free))
theorem zye {env:Env}:∀ (ns:List (Str×NameKind)) (cs:List (Str×Addr)),(∀ p∈ns,p.2 = .free→∃ c,env.cells.lookup p.1=some c) →
  (forIn (m:=Sem) ns cs λ (p:Str×NameKind) (cs:List (Str×Addr))=>(if (p.2 == .free)=true then do
    let c ← cellOf env p.1
    pure (ForInStep.yield ((p.1,c)::cs)) else pure (ForInStep.yield cs)))=pure (ns.foldl (ztc env) cs)
 | [],cs,_=>rfl
 | p::ns,cs,h=>by
  rw [List.forIn_cons,List.foldl_cons]
  have ih:=zye (env:=env) ns
  have hr:∀ q∈ns,q.2 = .free→∃ c,env.cells.lookup q.1=some c:=λ q hq=>h q (List.mem_cons_of_mem _ hq)
  by_cases hk:p.2 = .free
  ·obtain ⟨c,e⟩:=h p List.mem_cons_self hk
   have e1:(p.2 == NameKind.free)=true:=by simp [hk]
   have e2:ztc env cs p=(p.1,c)::cs:=by unfold ztc;rw [if_pos hk,e]
   have e3:cellOf env p.1=pure c:=by unfold cellOf;rw [e]
   rw [if_pos e1,e3,e2]
   exact ih _ hr
  ·have e1:¬ ((p.2 == NameKind.free)=true):=by simp [hk]
   have e2:ztc env cs p=cs:=by unfold ztc;rw [if_neg hk]
   rw [if_neg e1,e2]
   exact ih _ hr
theorem zsh {scope:Scope} {env:Env} (h:∀ p∈scope.names,p.2 = .free→∃ c,env.cells.lookup p.1=some c):closureFor scope env=pure (clOf scope env):=by
 have e:=zye (env:=env) scope.names [] h
 have e2:=congrArg (λ (z:Sem (List (Str×Addr)))=>z >>= λ s=>pure s) e
 exact e2
theorem zct {env:Env} {x:Str} {c:Addr}:∀ (ns:List (Str×NameKind)) (cs:List (Str×Addr)),(∀ y d,cs.lookup y=some d→env.cells.lookup y=some d)→(ns.foldl (ztc env) cs).lookup x=some c→env.cells.lookup x=some c
 | [],cs,h,e=>h x c e
 | p::ns,cs,h,e=>by
  refine zct ns (ztc env cs p) (λ y d q=>?_) e
  unfold ztc at q
  split at q
  ·split at q
   ·rename_i c' ec
    rw [List.lookup_cons] at q
    split at q
    ·rename_i he
     have:y=p.1:=by simpa using he
     subst this;rw [← q];exact ec
    ·exact h y d q
   ·exact h y d q
  ·exact h y d q
theorem zll {env:Env} {x:Str} {c:Addr} (hx:env.cells.lookup x=some c):∀ (ns:List (Str×NameKind)) (cs:List (Str×Addr)),cs.lookup x=some c→(ns.foldl (ztc env) cs).lookup x=some c
 | [],cs,e=>e
 | p::ns,cs,e=>by
  refine zll hx ns (ztc env cs p) ?_
  unfold ztc
  split
  ·split
   ·rename_i c' ec
    rw [List.lookup_cons]
    split
    ·rename_i he
     have:x=p.1:=by simpa using he
     subst this;rw [hx] at ec;exact ec.symm
    ·exact e
   ·exact e
  ·exact e
theorem zan {env:Env} {x:Str} {c:Addr} (hx:env.cells.lookup x=some c):∀ (ns:List (Str×NameKind)) (cs:List (Str×Addr)),(x,NameKind.free)∈ns→(ns.foldl (ztc env) cs).lookup x=some c
 | [],cs,e=>by simp at e
 | p::ns,cs,e=>by
  rcases List.mem_cons.mp e with e | e
  ·subst e
   refine zll hx ns _ ?_
   unfold ztc
   rw [if_pos rfl,hx]
   simp
  ·exact zan hx ns _ e
theorem zje {scope:Scope} {env:Env} (h:zee scope env=true):∀ p∈scope.names,p.2 ≠ .cell:=λ p hp=>by
 unfold zee at h
 simp only [Bool.and_eq_true,List.all_eq_true] at h
 simpa using h.1.1 p hp
theorem zeg {scope:Scope} {env:Env} (h:zee scope env=true):∀ p∈scope.names,p.2 = .local→scope.names.lookup p.1=some .local:=λ p hp e=>by
 unfold zee at h
 simp only [Bool.and_eq_true,List.all_eq_true] at h
 have:=h.1.2 p hp
 rw [e] at this
 simpa using this
theorem zhd {scope:Scope} {env:Env} (h:zee scope env=true):∀ p∈scope.names,p.2 = .free→env.kindOf p.1=some .cell ∨ env.kindOf p.1=some .free:=λ p hp e=>by
 unfold zee at h
 simp only [Bool.and_eq_true,List.all_eq_true] at h
 have:=h.2 p hp
 rw [e] at this
 simpa [Env.kindOf] using this
theorem zyc {env:Env}:∀ {names:List (Str×NameKind)} {x:Str} {k:NameKind},
  (names.map λ (n,k)=>if (k == NameKind.free && env.scope.kind == .function && env.kindOf n == some .cell) then (n,NameKind.cell) else (n,k)).lookup x=some k →
   names.lookup x=some k ∨ (names.lookup x=some .free∧k = .cell)
 | [],_,_,h=>by simp at h
 | (n,j)::r,x,k,h=>by
  have ih:=@zyc env r x k
  rw [List.map_cons] at h
  by_cases hx:(x == n)=true
  ·rw [List.lookup_cons,hx]
   by_cases hc:(j == NameKind.free && env.scope.kind == .function && env.kindOf n == some .cell)=true
   ·simp only [hc,if_true] at h
    rw [List.lookup_cons,hx] at h
    have hj:j = .free:=by
     simp only [Bool.and_eq_true] at hc
     simpa using hc.1.1
    exact .inr ⟨by simp [hj],(Option.some.inj h).symm⟩
   ·simp only [hc,if_false] at h
    have h':List.lookup x ((n,j)::List.map (λ x=>if (x.snd == NameKind.free && env.scope.kind == ScopeKind.function && env.kindOf x.fst == some NameKind.cell)=true then (x.fst,NameKind.cell) else (x.fst,x.snd)) r)=some k:=by simpa using h
    rw [List.lookup_cons,hx] at h'
    exact .inl h'
  ·have hx':(x == n)=false:=by simpa using hx
   rw [List.lookup_cons,hx']
   apply ih
   by_cases hc:(j == NameKind.free && env.scope.kind == .function && env.kindOf n == some .cell)=true
   ·simp only [hc,if_true] at h
    rw [List.lookup_cons,hx'] at h
    exact h
   ·have h':List.lookup x ((n,j)::List.map (λ x=>if (x.snd == NameKind.free && env.scope.kind == ScopeKind.function && env.kindOf x.fst == some NameKind.cell)=true then (x.fst,NameKind.cell) else (x.fst,x.snd)) r)=some k:=by simpa [hc] using h
    rw [List.lookup_cons,hx'] at h'
    exact h'
theorem zqd {env:Env}:∀ {names:List (Str×NameKind)} {x:Str},names.lookup x=some .free →
  ∃ k,(names.map λ (n,k)=>if (k == NameKind.free && env.scope.kind == .function && env.kindOf n == some .cell) then (n,NameKind.cell) else (n,k)).lookup x=some k∧(k = .cell ∨ k = .free)
 | [],_,h=>by simp at h
 | (n,j)::r,x,h=>by
  have ih:=@zqd env r x
  by_cases hx:(x == n)=true
  ·rw [List.lookup_cons,hx] at h
   have hj:j = .free:=Option.some.inj h
   subst hj
   by_cases hc:(env.scope.kind == .function && env.kindOf n == some .cell)=true
   ·refine ⟨.cell,?_,.inl rfl⟩
    show List.lookup x ((if (NameKind.free == NameKind.free && env.scope.kind == .function && env.kindOf n == some .cell)=true then (n,NameKind.cell) else (n,NameKind.free))::_)=_
    rw [if_pos (by simpa using hc),List.lookup_cons,hx]
   ·refine ⟨.free,?_,.inr rfl⟩
    show List.lookup x ((if (NameKind.free == NameKind.free && env.scope.kind == .function && env.kindOf n == some .cell)=true then (n,NameKind.cell) else (n,NameKind.free))::_)=_
    rw [if_neg (by simpa using hc),List.lookup_cons,hx]
  ·have hx':(x == n)=false:=by simpa using hx
   rw [List.lookup_cons,hx'] at h
   obtain ⟨k,e,hk⟩:=ih h
   refine ⟨k,?_,hk⟩
   rw [List.map_cons]
   by_cases hc:(j == NameKind.free && env.scope.kind == .function && env.kindOf n == some .cell)=true
   ·simp only [hc,if_true,List.lookup_cons,hx']
    exact e
   ·show List.lookup x ((if (j == NameKind.free && env.scope.kind == .function && env.kindOf n == some .cell)=true then (n,NameKind.cell) else (n,j))::_)=_
    rw [if_neg hc,List.lookup_cons,hx']
    exact e
noncomputable def Cx.comp (X:Cx) (scope:Scope) (C:Addr) (s₀:Shared) (H₀:Hp) (fp:List Addr) (N':List Str) (E':Value→Shared→Prop):Cx :=
 { X with N:=N',s₀:=s₀,H₀:=H₀,env:=compEnvC scope (clOf scope X.env) C X.env,outer:=X.stack,ex:=fp,fn:=λ _=>false,pn:=[],xe:=E' }
noncomputable def caps (cap:List Nat) (σ:St):St:=cap.map λ j=>(σ[j]?).join
noncomputable def zon (X:Cx) (scope:Scope) (N':List Str) (nt:Nat) (cap:List Nat):Bool :=
 (N'.length == nt+cap.length) && ((List.range cap.length).all λ j=>match cap[j]?,N'[nt+j]? with
  | some i,some x=>X.N[i]? == some x && scope.names.lookup x == some .free
  | _,_=>false)
section
variable {X:Cx}
theorem zhk {scope:Scope} {N':List Str} {nt:Nat} {cap:List Nat} (h:zon X scope N' nt cap=true):N'.length=nt+cap.length∧∀ j i,cap[j]? = some i→∃ x,N'[nt+j]? = some x∧X.N[i]? = some x∧scope.names.lookup x=some .free:=by
 unfold zon at h
 simp only [Bool.and_eq_true,List.all_eq_true,beq_iff_eq] at h
 refine ⟨h.1,λ j i e=>?_⟩
 have hj:j<cap.length:=(List.getElem?_eq_some_iff.mp e).1
 have q:=h.2 j (List.mem_range.mpr hj)
 rw [e] at q
 cases q2:N'[nt+j]? with
 | none=>rw [q2] at q;simp at q
 | some x =>
  rw [q2] at q
  simp only [Bool.and_eq_true,beq_iff_eq] at q
  exact ⟨x,rfl,q.1,q.2⟩
theorem zwi {pins:List (Addr×Obj)} {σ:St} {H:Hp} {s3:Shared} {scope:Scope} {fp:List Addr} {N':List Str} {nt:Nat} {cap:List Nat} {h4:Heap} {t4:Nat} {E':Value→Shared→Prop} {m:Str→Option Value}
  (I:Inv X pins σ H s3) (hk:scope.kind = .function) (hb:zee scope X.env=true) (hc:zon X scope N' nt cap=true) (hf:∀ b∈fp,FpOk X pins H b) (hfl:∀ b∈fp,b<s3.heap.objs.size)
  (hn:h4.Ns s3.heap.objs.size m) (kp:∀ b o,s3.heap.get? b=some o→h4.get? b=some o) :
  Inv (X.comp scope s3.heap.objs.size s3 H fp N' E') [] (List.replicate nt none++caps cap σ) H { s3 with heap:=h4,toks:=t4 }:=by
 obtain ⟨hlen,hcap⟩:=zhk hc
 have cin:∀ x c,(clOf scope X.env).lookup x=some c→X.env.cells.lookup x=some c:=λ x c e=>zct scope.names [] (λ y d q=>by simp at q) e
 have kin:∀ x,((X.comp scope s3.heap.objs.size s3 H fp N' E').env.kindOf x=some .cell ∨ (X.comp scope s3.heap.objs.size s3 H fp N' E').env.kindOf x=some .free)→scope.names.lookup x=some .free:=λ x hx=>by
  have one:∀ k,(k=NameKind.cell ∨ k=NameKind.free)→(X.comp scope s3.heap.objs.size s3 H fp N' E').env.kindOf x=some k→scope.names.lookup x=some .free:=λ k hk' e=>by
   rcases zyc (env:=X.env) (names:=scope.names) (x:=x) (k:=k) e with z | z
   ·rcases hk' with rfl | rfl
    ·exact absurd rfl (zje hb _ (PySem.mem_of_lookup z))
    ·exact z
   ·exact z.1
  rcases hx with hx | hx
  ·exact one _ (.inl rfl) hx
  ·exact one _ (.inr rfl) hx
 have has:∀ x,scope.names.lookup x=some .free→∃ c,X.env.cells.lookup x=some c∧(clOf scope X.env).lookup x=some c:=λ x hx=>by
  have hm:=PySem.mem_of_lookup hx
  obtain ⟨c,e⟩:=I.ok.has x (zhd hb _ hm rfl)
  exact ⟨c,e,zan e _ _ hm⟩
 refine ⟨⟨I.ok.mod,hk,I.ok.glob,I.ok.blt,Nat.le_refl _,λ x y c e1 e2=>I.ok.inj x y c (cin x c e1) (cin y c e2),λ x hx=>?_,λ x c z _=>absurd z Bool.false_ne_true,I.ok.hd,I.ok.frames,.inl rfl,λ b hb'=>⟨Nat.ne_of_lt (hfl b hb'),λ x c e=>(hf b hb').2.2.2.2.1 x c (cin x c e)⟩,
  I.bs,Nat.le_trans I.ok.bsz I.sz,λ b o e hb'=>?_,λ b hb' hs=>?_,I.stack,I.stkFree⟩,rfl,I.bare,Un.kept kp,⟨m,hn,λ i x v h1 h2 h3=>?_⟩,λ x c e=>?_,I.hok.fresh (Nat.le_refl _),λ x c e=>I.freeC x c (cin x c e),λ p hp=>absurd hp (by simp [Cx.comp]),I.hok.kept kp,?_⟩
 ·obtain ⟨c,_,e⟩:=has x (kin x hx)
  exact ⟨c,e⟩
 ·rcases (hf b hb').2.2.2.1 with z | z
  ·exact I.ok.noex b o e z
  ·exact absurd (Nat.lt_of_lt_of_le (Heap.lt_size e) (Nat.le_trans I.ok.bsz z)) (Nat.lt_irrefl _)
 ·rcases List.mem_cons.mp (I.stkSub b hs) with z | z
  ·exact (hf b hb').2.1 z
  ·exact (hf b hb').2.2.1 z
 ·have hge:nt≤i:=by
   by_cases hlt:i<nt
   ·rw [List.getElem?_append_left (by simpa using hlt),List.getElem?_replicate] at h2
    split at h2 <;> cases h2
   ·omega
  obtain ⟨j,rfl⟩:∃ j,i=nt+j:=⟨i - nt,by omega⟩
  rw [List.getElem?_append_right (by simp),List.length_replicate,Nat.add_sub_cancel_left] at h2
  unfold caps at h2
  rw [List.getElem?_map] at h2
  cases ej:cap[j]? with
  | none=>rw [ej] at h2;cases h2
  | some i' =>
   rw [ej] at h2
   have h2':(σ[i']?).join=some v:=Option.some.inj h2
   obtain ⟨x',e1,e2,e3⟩:=hcap j i' ej
   have:x'=x:=by
    have h1':N'[nt+j]? = some x:=h1
    rw [e1] at h1';exact Option.some.inj h1'
   subst this
   have hσ:σ[i']? = some (some v):=by
    cases q:σ[i']? with
    | none=>rw [q] at h2';cases h2'
    | some o=>rw [q] at h2';exact congrArg some h2'
   have hkx:=zhd hb _ (PySem.mem_of_lookup e3) rfl
   obtain ⟨m',hn',hl'⟩:=I.loc
   obtain ⟨u,ru,lk⟩:=hl' i' x' v e2 hσ (hkx.elim (λ z=>.inr (.inl z)) λ z=>.inr (.inr z))
   refine ⟨u,ru,.inr ⟨?_,?_⟩⟩
   ·obtain ⟨k,ek,hk'⟩:=zqd (env:=X.env) e3
    rcases hk' with rfl | rfl
    ·exact .inl ek
    ·exact .inr ek
   ·rcases lk with ⟨kl,_⟩ | ⟨_,c,ec,icell⟩
    ·rcases hkx with z | z <;> (rw [kl] at z;cases z)
    ·exact ⟨c,zan ec _ _ (PySem.mem_of_lookup e3),icell.keeps kp⟩
 ·obtain ⟨v,z⟩:=I.cell x c (cin x c e)
  exact ⟨v,z.keeps kp⟩
 ·show (List.replicate nt none++caps cap σ).length=N'.length
  rw [hlen]
  simp [caps]
end
end L2
namespace L2
open PySem PySem.Spec PyProof.Rows
section
variable {prog:Program} {w:World} {A:Around} {E:Value→Shared→Prop} {R:Result→Shared→Prop} {s:Shared}
theorem zwf {elt target iter:Expr} {ifs:List Expr} {scope:Scope} {pos:Pos} {it acc:Value} {env:Env} (I:Nat→Shared→Prop)
  (turn:∀ n s,I n s→wpAny (model prog w) A (pyNext it) (λ r s₁=>match r with
   | none=>R (.ok .next) s₁
   | some v=>wpAny (model prog w) A (letOwnedTupleGo target it v) (λ _ s₁'=>wpAny (model prog w) A (assign target env v) (λ _ s₂ =>
     wpAny (model prog w) A (forIn ifs true λ c r=>if r=true then do let ok ← isTrue c env (eval c env);pure (ForInStep.yield ok) else pure (ForInStep.yield r)) (λ ok s₃ =>
      if ok=true then wpAny (model prog w) A (eval elt env) (λ x s₄ =>
       wpAny (model prog w) A (call (.builtin "list.append") [acc,x]) (λ _ s₅=>∃ m,m<n∧I m s₅) (notedBy (model prog w) A env λ e s'=>R (.error e) s') s₄) (notedBy (model prog w) A env λ e s'=>R (.error e) s') s₃
      else ∃ m,m<n∧I m s₃) (notedBy (model prog w) A env λ e s'=>R (.error e) s') s₂) (notedBy (model prog w) A env λ e s'=>R (.error e) s') s₁') (notedBy (model prog w) A env λ e s'=>R (.error e) s') s₁) (notedBy (model prog w) A env λ e s'=>R (.error e) s') s)
  (n:Nat) (h:I n s):codeAny (model prog w) A (.compLoop (.ListComp elt [⟨target,iter,ifs,0⟩] scope pos) 0 it acc env) R s:=by
 refine codeAny_loop rfl I (λ n s hI=>?_) n h
 show wpAny _ A ((compTurn (.ListComp elt [⟨target,iter,ifs,0⟩] scope pos) 0 it acc env).onRaise (λ x=>do noteFrame x env;theTreesLotGoes x)) _ _ s
 refine wpAny_noted ?_
 rw [compTurn_list]
 refine wpAny_bind (wpAny_standAt (wpAny_bind (wpAny_mono (turn n s hI) (λ r s₁ h₁=>?_) λ _ _ h'=>h')))
 cases r with
 | none=>exact wpAny_pure h₁
 | some v =>
  refine wpAny_bind (wpAny_mono h₁ (λ _ s₁' h₁'=>?_) λ _ _ h'=>h')
  refine wpAny_bind (wpAny_mono h₁' (λ _ s₂ h₂=>wpAny_bind (wpAny_mono h₂ (λ ok s₃ h₃=>?_) λ _ _ h'=>h')) λ _ _ h'=>h')
  cases ok with
  | false=>exact wpAny_pure ⟨rfl,h₃⟩
  | true =>
   exact wpAny_bind (wpAny_bind (wpAny_mono h₃ (λ x s₄ h₄=>wpAny_bind (wpAny_mono h₄ (λ _ s₅ h₅=>wpAny_pure (wpAny_pure ⟨rfl,h₅⟩)) λ _ _ h'=>h')) λ _ _ h'=>h'))
end
structure PIf (X:Cx) (ifs:List Expr) (t:TT):Prop where
 run :
 ∀ (pins:List (Addr×Obj)) (s:Shared) (σ:St) (H:Hp) (Q:Bool→Hp→Prop),Inv X pins σ H s→t σ H Q →
  wpAny (model X.prog X.w) X.A (forIn ifs true λ c r=>if r=true then do let ok ← isTrue c X.env (eval c X.env);pure (ForInStep.yield ok) else pure (ForInStep.yield r)) (TP X pins σ Q) X.xe s
noncomputable instance {X:Cx} {ifs:List Expr} {t:TT}:CoeFun (PIf X ifs t) (λ _ =>
 ∀ (pins:List (Addr×Obj)) (s:Shared) (σ:St) (H:Hp) (Q:Bool→Hp→Prop),Inv X pins σ H s→t σ H Q →
  wpAny (model X.prog X.w) X.A (forIn ifs true λ c r=>if r=true then do let ok ← isTrue c X.env (eval c X.env);pure (ForInStep.yield ok) else pure (ForInStep.yield r)) (TP X pins σ Q) X.xe s
 ):=⟨λ h=>h.run⟩
noncomputable def tYes:TT:=λ _ H Q=>Q true H
noncomputable def zhq (J:It) (D:Addr) (nt:Nat) (cap:List Nat) (g:TG) (ti:TT) (te:TE) (σ:St) (H1:Hp) (Q:VK):Prop:=∃ W:Nat→Nat→List V→Hp→Prop,(∃ m,W 0 m [] (upd H1 D (.lst []))) ∧
 ∀ i m ys H2,W i m ys H2→H2 D=some (.lst ys)∧((J.stop i H2∧Q (.ref D) H2) ∨ (J.go i H2∧ys.length<sizeLine∧∀ x H3,J.yld i H2 x H3→g x (List.replicate nt none++caps cap σ) H3 λ σ4 H4=>ti σ4 H4 λ b H5 =>
  if b=true then te σ4 H5 λ y H6=>H6 D=some (.lst ys)∧∃ m',m'<m∧W (i+1) m' (ys++[y]) (upd H6 D (.lst (ys++[y]))) else ∃ m',m'<m∧W (i+1) m' ys H5))
noncomputable def zus (wi:TI) (nt:Nat) (cap:List Nat) (g:TG) (ti:TT) (te:TE):TE:=λ σ H Q=>wi σ H λ J H1=>∀ D,H1 D=none→zhq J D nt cap g ti te σ H1 Q
noncomputable def zoi (nt:Nat) (g:TG):Prop:=∀ (x:V) (c:St) (H:Hp) (Q:St→Hp→Prop),g x (List.replicate nt none++c) H Q →
 g x (List.replicate nt none++c) H λ σ' H'=>Q σ' H'∧∀ (j:Nat) v,(List.replicate nt none++c)[j]? = some (some v)→σ'[j]? = some (some v)
theorem gk1:zoi 1 (zbq 0):=λ x c H Q h=>⟨h,λ j v e=>by
 cases j with
 | zero=>simp at e
 | succ j=>simpa using e⟩
theorem gk2 {K:W.Frag}:zoi 2 (gTup K 2 (ziq (zbq 0) (ziq (zbq 1) gNil))):=λ x c H Q h=>by
 obtain ⟨a,xs,e1,hq,hl,v,r,e2,v',r',e3,e4,h⟩:=h
 refine ⟨a,xs,e1,hq,hl,v,r,e2,v',r',e3,e4,h,λ j v e=>?_⟩
 match j,e with
 | 0,e=>simp [List.replicate] at e
 | 1,e=>simp [List.replicate] at e
 | j+2,e=>simpa [List.replicate,List.set] using e
section
variable {X:Cx}
theorem zcf:PIf X [] tYes := .mk <| λ _ _ _ H _ I h=>wpAny_tests_nil ⟨H,I,h⟩
theorem zog {pins pins':List (Addr×Obj)} {σ σ':St} {H H':Hp} {s3 s':Shared} {scope:Scope} {fp:List Addr} {N':List Str} {E':Value→Shared→Prop}
  (I3:Inv X pins σ H s3) (hf:∀ b∈fp,FpOk X pins H b) (I':Inv (X.comp scope s3.heap.objs.size s3 H fp N' E') pins' σ' H' s'):Inv X pins σ H' s':=by
 refine I3.call' (ch:=fp) I'.os I'.base I'.hok I'.bare λ b hb=>?_
 obtain ⟨f0,f1,f2,f3,f4,f5⟩:=hf b hb
 exact ⟨f3,f1,f4,f5⟩
theorem zlg {elt tg iter:Expr} {ifs:List Expr} {scope:Scope} {pos:Pos} {N':List Str} {nt:Nat} {cap:List Nat} {wi:TI} {g:TG} {ti:TT} {te:TE}
  (EK:Addr→Shared→Hp→List Addr→(Value→Shared→Prop)→Prop)
  (hE:∀ (pins:List (Addr×Obj)) (σ:St) (s3:Shared) (H3:Hp) (fp:List Addr) (Q:VK) (D:Addr),Inv X pins σ H3 s3→(∀ b∈fp,FpOk X pins H3 b) →
   EK s3.heap.objs.size s3 H3 fp (notedBy (model X.prog X.w) X.A (compEnvC scope (clOf scope X.env) s3.heap.objs.size X.env) λ e s'=>compPost (model X.prog X.w) X.A X.xe none (EP X pins σ Q) (.ref D) s3.heap.objs.size (.error e) s'))
  (hc:X.calm=true) (hi:PI X tg iter wi)
  (hg:∀ C s₀ H₀ fp E',EK C s₀ H₀ fp E'→PG (X.comp scope C s₀ H₀ fp N' E') tg g)
  (hif:∀ C s₀ H₀ fp E',EK C s₀ H₀ fp E'→PIf (X.comp scope C s₀ H₀ fp N' E') ifs ti)
  (he:∀ C s₀ H₀ fp E',EK C s₀ H₀ fp E'→PE (X.comp scope C s₀ H₀ fp N' E') elt te)
  (hk:scope.kind = .function) (hb:zee scope X.env=true) (hcap:zon X scope N' nt cap=true)
  (hgk:zoi nt g) (hs:∀ x,foldedSetIterable iter X.env x=pure x):PE X (.ListComp elt [⟨tg,iter,ifs,0⟩] scope pos) (zus wi nt cap g ti te) := .mk <| by
 intro pins s σ H Q I h
 rw [eval_ListComp]
 have hclos:closureFor scope X.env=pure (clOf scope X.env):=zsh λ p hp e=>I.ok.has p.1 (zhd hb p hp e)
 refine wpAny_comprehension_free (use:=none) rfl hs hclos hk (zeg hb) (thn (hi pins s σ H _ I h) λ v s1 h1=>thn h1 λ itv s2 h2=>?_)
 obtain ⟨it,fp,tn,J,H2,e,I2,T,st2,f2,q2⟩:=h2
 subst e
 refine wpAny_newObj_type (wpAny_newFunctionEnv (zje hb) (by intro y hy;simp at hy) (λ h₁ hns₁ hsb₁=>?_) hk)
 have I3:=I2.lnew (ys:=[]) (its:=[]) (t':=s2.toks) .nil (Nat.zero_le _)
 have hfl:∀ b∈fp,b<s2.heap.objs.size:=λ b hb'=>let ⟨o,e,_⟩:=T.obj 0 _ st2 b hb';Heap.lt_size e
 obtain ⟨W,⟨m0,w0⟩,turn⟩:=q2 s2.heap.objs.size (I2.hok.fresh (Nat.le_refl _))
 have nD:∀ b∈fp,b≠s2.heap.objs.size:=λ b hb'=>Nat.ne_of_lt (hfl b hb')
 have f3:∀ b∈fp,FpOk X pins (upd H2 s2.heap.objs.size (.lst [])) b:=λ b hb'=>⟨by rw [zwa (nD b hb')];exact (f2 b hb').1,(f2 b hb').2⟩
 obtain ⟨s3,hs3⟩:∃ s3:Shared,s3={ s2 with heap:=s2.heap.push { cls := .type "list",data := .seq ([]:List Value).toArray },toks:=s2.toks }:=⟨_,rfl⟩
 have hs3':s3.heap=s2.heap.push { cls := .type "list",data := .seq ([]:List Value).toArray }:=by rw [hs3]
 rw [← hs3] at I3
 have hsz:s3.heap.objs.size=s2.heap.objs.size+1:=by rw [hs3',Heap.size_push]
 have hfl3:∀ b∈fp,b<s3.heap.objs.size:=λ b hb'=>by rw [hsz];exact Nat.lt_succ_of_lt (hfl b hb')
 have hC:(s2.heap.push { cls:=Value.type "list",dict:=none,data:=Data.seq ([]:List Value).toArray }).objs.size=s3.heap.objs.size:=by rw [hs3']
 dsimp only at hns₁ hsb₁ ⊢
 rw [hC] at hns₁ hsb₁ ⊢
 rw [← hs3'] at hsb₁
 have kp:∀ b o,s3.heap.get? b=some o→h₁.get? b=some o:=λ b o e=>hsb₁.extBut b o (Nat.ne_of_lt (Heap.lt_size e)) (Heap.get?_push_of_some _ e)
 have hEE:=hE pins σ s3 _ fp Q s2.heap.objs.size I3 f3
 generalize hE':(notedBy (model X.prog X.w) X.A (compEnvC scope (clOf scope X.env) s3.heap.objs.size X.env) λ e s'=>compPost (model X.prog X.w) X.A X.xe none (EP X pins σ Q) (.ref s2.heap.objs.size) s3.heap.objs.size (.error e) s')=E' at hEE
 have I4:=zwi (t4:=s2.toks+([]:List (Str×Value)).length) (E':=E') I3 hk hb hcap f3 hfl3 hns₁ kp
 have st4:tn 0 h₁:=T.keep 0 _ _ st2 λ b hb' o e=>kp b o (by rw [hs3'];exact Heap.get?_push_of_some _ e)
 obtain ⟨s4,hs4⟩:∃ s4:Shared,s4={ s3 with heap:=h₁,toks:=s2.toks+([]:List (Str×Value)).length }:=⟨_,rfl⟩
 rw [← hs4] at I4
 have st4':tn 0 s4.heap:=by rw [hs4];exact st4
 have cin:∀ x c,(clOf scope X.env).lookup x=some c→X.env.cells.lookup x=some c:=λ x c e=>zct scope.names [] (λ y d q=>by simp at q) e
 have stat:∀ {H':Hp},(∀ b∈fp,H' b=none)→∀ b∈fp,FpOk (X.comp scope s3.heap.objs.size s3 (upd H2 s2.heap.objs.size (.lst [])) fp N' E') [] H' b:=λ hn b hb'=>by
  refine ⟨hn b hb',Nat.ne_of_lt (hfl3 b hb'),λ z=>?_,.inl hb',λ x c e=>(f3 b hb').2.2.2.2.1 x c (cin x c e),λ p hp=>absurd hp (by simp [Cx.comp])⟩
  rcases List.mem_cons.mp (I3.stkSub b z) with z | z
  ·exact (f3 b hb').2.1 z
  ·exact (f3 b hb').2.2.1 z
 have loop:codeAny (model X.prog X.w) X.A (.compLoop (.ListComp elt [⟨tg,iter,ifs,0⟩] scope pos) 0 (.ref it) (.ref s2.heap.objs.size) (compEnvC scope (clOf scope X.env) s3.heap.objs.size X.env))
   (compPost (model X.prog X.w) X.A X.xe none (EP X pins σ Q) (.ref s2.heap.objs.size) s3.heap.objs.size) s4:=by
  refine zwf (λ n s'=>∃ i ys H',Inv (X.comp scope s3.heap.objs.size s3 (upd H2 s2.heap.objs.size (.lst [])) fp N' E') [] (List.replicate nt none++caps cap σ) H' s'∧tn i s'.heap∧(∀ b∈fp,H' b=none)∧W i n ys H') ?_ m0
   ⟨0,[],_,I4,st4',λ b hb'=>(f3 b hb').1,w0⟩
  rintro n s5 ⟨i,ys,H5,I5,st5,fr5,w5⟩
  rw [hE']
  obtain ⟨hD5,alt⟩:=turn i n ys H5 w5
  rcases alt with ⟨stop,qn⟩ | ⟨go,hyl,step⟩
  ·refine thn (T.done (X.comp scope s3.heap.objs.size s3 (upd H2 s2.heap.objs.size (.lst [])) fp N' E') rfl rfl rfl hc i [] s5 _ H5 E' I5 (stat fr5) st5 stop) λ r s6 ⟨hr,I6⟩=>?_
   subst hr
   obtain ⟨m6,hn6,_⟩:=I6.loc
   refine ⟨m6,hn6,λ h' hsb'=>?_⟩
   have I7:=zog I3 f3 I6
   refine ⟨.ref s2.heap.objs.size,H5,?_,rfl,qn⟩
   refine I7.turnedL (ch:=[s3.heap.objs.size]) (t':=s6.toks) (λ b hb'=>?_) λ b u hb' e=>(hsb'.2 b λ z=>hb' (by simp [z])).trans e
   have eb:b=s3.heap.objs.size:=by simpa using hb'
   subst eb
   exact I3.fpOk (Nat.le_refl _) I6.free
  ·refine thn (T.item (X.comp scope s3.heap.objs.size s3 (upd H2 s2.heap.objs.size (.lst [])) fp N' E') rfl rfl rfl hc i [] s5 _ H5 E' I5 (stat fr5) st5 go) λ r s6 ⟨u,hr,h6⟩=>?_
   subst hr
   refine thn h6 λ _ s7 ⟨x,H7,I7,r7,y7,st7,fr7⟩=>?_
   have I7':=I7.pinned (stat fr7) (T.obj _ _ st7)
   have again:∀ {σ8:St} {H8:Hp} {ys':List V} {s8:Shared},Inv (X.comp scope s3.heap.objs.size s3 (upd H2 s2.heap.objs.size (.lst [])) fp N' E') ([]++zth fp s7.heap) σ8 H8 s8→(∃ m',m'<n∧W (i+1) m' ys' H8)→(∀ (j:Nat) v,(List.replicate nt none++caps cap σ)[j]? = some (some v)→σ8[j]? = some (some v)) →
     ∃ m,m<n∧∃ i ys H',Inv (X.comp scope s3.heap.objs.size s3 (upd H2 s2.heap.objs.size (.lst [])) fp N' E') [] (List.replicate nt none++caps cap σ) H' s8∧tn i s8.heap∧(∀ b∈fp,H' b=none)∧W i m ys H':=fun {σ8 H8 ys' s8} I8 ⟨m',hm,w8⟩ hσ=>by
    refine ⟨m',hm,i+1,ys',H8,I8.unpinned.weak (by rw [I8.len,I5.len]) hσ,T.keep _ _ _ st7 λ b hb o e=>(I8.pin (b,o) (List.mem_append_right _ (List.mem_append_right _ (zad hb e)))).1,λ b hb=>?_,w8⟩
    obtain ⟨o,e,d⟩:=T.obj _ _ st7 b hb
    exact (I8.pin (b,o) (List.mem_append_right _ (List.mem_append_right _ (zad hb e)))).2.1
   refine thn (hg _ _ _ _ _ hEE _ s7 _ H7 x u _ I7' r7 (hgk x _ H7 _ (step x H7 y7))) λ _ s8 ⟨σ8,H8,I8,q8,hσ⟩=>?_
   refine thn (hif _ _ _ _ _ hEE _ s8 σ8 H8 _ I8 q8) λ ok s9 ⟨H9,I9,q9⟩=>?_
   cases ok with
   | false =>
    rw [if_neg Bool.false_ne_true] at q9 ⊢
    exact again I9 q9 hσ
   | true =>
    rw [if_pos rfl] at q9 ⊢
    refine thn (he _ _ _ _ _ hEE _ s9 σ8 H9 _ I9 q9) λ y s10 ⟨vy,H10,I10,r10,hD10,hm10⟩=>?_
    exact thn (zsk (X:=X.comp scope s3.heap.objs.size s3 (upd H2 s2.heap.objs.size (.lst [])) fp N' E') _ s10 σ8 H10 (.ref s2.heap.objs.size) [vy] (.ref s2.heap.objs.size) [y] (λ _ H'=>H'=upd H10 s2.heap.objs.size (.lst (ys++[vy]))) I10 rfl (.cons r10 .nil) ⟨_,_,_,rfl,rfl,hD10,hyl,rfl⟩) λ _ s11 ⟨_,H11,I11,_,e11⟩=>by
     subst e11
     exact again I11 hm10 hσ
 have e4:({ s2 with heap:=h₁,toks:=s2.toks+([]:List (Str×Value)).length }:Shared)=s4:=by rw [hs4,hs3]
 show codeAny _ _ _ _ { s2 with heap:=h₁,toks:=s2.toks+([]:List (Str×Value)).length }
 rw [e4]
 exact codeAny_compStart_list loop (T.self X.A 0 s4 _ _ st4' loop)
theorem zhl {elt tg iter:Expr} {ifs:List Expr} {scope:Scope} {pos:Pos} {wi:TI} {g:TG} {ti:TT} {te:TE} (N':List Str) (nt:Nat) (cap:List Nat)
  (hc:X.calm=true) (hi:PI X tg iter wi) (hgk:zoi nt g)
  (hg:∀ C s₀ H₀ fp E',PG (X.comp scope C s₀ H₀ fp N' E') tg g)
  (hif:∀ C s₀ H₀ fp E',PIf (X.comp scope C s₀ H₀ fp N' E') ifs ti)
  (he:∀ C s₀ H₀ fp E',PE (X.comp scope C s₀ H₀ fp N' E') elt te)
  (hk:scope.kind = .function:=by rfl) (hb:zee scope X.env=true:=by rfl) (hcap:zon X scope N' nt cap=true:=by rfl)
  (hs:∀ x,foldedSetIterable iter X.env x=pure x:=by intro _;rfl):PE X (.ListComp elt [⟨tg,iter,ifs,0⟩] scope pos) (zus wi nt cap g ti te) :=
 zlg (λ _ _ _ _ _=>True) (λ _ _ _ _ _ _ _ _ _=>trivial) hc hi (λ C s₀ H₀ fp E' _=>hg C s₀ H₀ fp E') (λ C s₀ H₀ fp E' _=>hif C s₀ H₀ fp E') (λ C s₀ H₀ fp E' _=>he C s₀ H₀ fp E') hk hb hcap hgk hs
end
theorem zhj {x:Str} {nt:Nat} {cap:List Nat} {g:TG} {te:TE} {σ:St} {H1:Hp} {Q:VK} {D:Addr} (f:Nat→V) (hx:x.cps.size≤sizeLine)
  (step:∀ i c H2 (R:VK),x.cps[i]? = some c→(∀ y,y=f i→R y H2)→g (.str ⟨#[c]⟩) (List.replicate nt none++caps cap σ) H2 λ σ4 H4=>te σ4 H4 R)
  (fin:Q (.ref D) (upd H1 D (.lst ((List.range x.cps.size).map f)))) :
  zhq (Its x) D nt cap g tYes te σ H1 Q:=by
 refine ⟨λ i m ys H2=>m=x.cps.size - i∧i≤x.cps.size∧ys=(List.range i).map f∧H2=upd H1 D (.lst ys),⟨_,rfl,Nat.zero_le _,rfl,rfl⟩,?_⟩
 rintro i m ys H2 ⟨rfl,hi,rfl,rfl⟩
 refine ⟨upd_same,?_⟩
 by_cases hlt:i<x.cps.size
 ·refine .inr ⟨hlt,by simp;omega,λ v H3 ⟨e,c,hc,ev⟩=>?_⟩
  subst e ev
  have hst:=step i c _ (λ y H6=>H6 D=some (.lst ((List.range i).map f))∧∃ m',m'<x.cps.size - i∧(m'=x.cps.size - (i+1)∧i+1≤x.cps.size∧(List.range i).map f++[y]=(List.range (i+1)).map f∧upd H6 D (.lst ((List.range i).map f++[y]))=upd H1 D (.lst ((List.range i).map f++[y])))) hc
   (λ y ey=>⟨upd_same,_,by omega,rfl,hlt,by rw [List.range_succ,List.map_append,ey];rfl,zrp⟩)
  simp only [tYes,if_true]
  exact hst
 ·have e:i=x.cps.size:=by omega
  subst e
  exact .inl ⟨rfl,fin⟩
end L2
namespace L2
open PySem PySem.Spec PyProof.Rows
section
variable {X:Cx}
noncomputable def rSlS:V→Option Int→Option Int→Hp→VK→Prop:=λ x lo hi H Q=>∃ z,x = .str z∧z.length≤sizeLine∧Q (.str (Txt.slice z lo hi)) H
theorem zjf:SlR X rSlS:=by
 intro pins s σ H x v vl vu lo hi sl Q I rx hs pl pu h
 obtain ⟨z,rfl,hz,q⟩:=h
 obtain ⟨t,rfl⟩:=rx
 refine ⟨"str",_,F.slot_str_getitem.lookup,typeIs_str _ _ _,?_⟩
 cases pl with
 | none =>
  cases pu with
  | none=>exact wpAny_getItem_str_slice (l:=none) (u:=none) (st:=none) hs rfl (post_val_or_str ⟨Nat.le_trans (Txt.slice_le z _ _) hz,λ t' k=>⟨.str (Txt.slice z _ _),H,I.tok k,⟨t',rfl⟩,q⟩⟩)
  | int j u=>exact wpAny_getItem_str_slice (l:=none) (u:=some (j,u)) (st:=none) hs rfl (post_val_or_str ⟨Nat.le_trans (Txt.slice_le z _ _) hz,λ t' k=>⟨.str (Txt.slice z _ _),H,I.tok k,⟨t',rfl⟩,q⟩⟩)
 | int i u' =>
  cases pu with
  | none=>exact wpAny_getItem_str_slice (l:=some (i,u')) (u:=none) (st:=none) hs rfl (post_val_or_str ⟨Nat.le_trans (Txt.slice_le z _ _) hz,λ t' k=>⟨.str (Txt.slice z _ _),H,I.tok k,⟨t',rfl⟩,q⟩⟩)
  | int j u=>exact wpAny_getItem_str_slice (l:=some (i,u')) (u:=some (j,u)) (st:=none) hs rfl (post_val_or_str ⟨Nat.le_trans (Txt.slice_le z _ _) hz,λ t' k=>⟨.str (Txt.slice z _ _),H,I.tok k,⟨t',rfl⟩,q⟩⟩)
theorem zbj:∀ {ys:List Str} {us:List Value},Vals (ys.map V.str) us→StrsAre us ys:=by
 intro ys
 induction ys with
 | nil=>intro us r;cases r;exact .nil
 | cons y ys ih =>
  intro us r
  cases r with
  | cons h t =>
   obtain ⟨k,rfl⟩:=h
   exact .cons y k (ih t)
noncomputable def zou (K:W.Frag):V→List V→Hp→VK→Prop:=λ x xs H Q=>∃ z p ys,x = .str z∧xs=[.ref p]∧SqL K H p (ys.map V.str)∧(ys.map (·.length)).sum+ys.length * z.length≤16777216∧Q (.str (Txt.join z ys)) H
theorem zmf:MtR X "str.join" (zou X.K):=by
 intro pins s σ H x xs v us Q I rx rv h
 obtain ⟨z,p,ys,rfl,rfl,hq,hl,q⟩:=h
 obtain ⟨t,rfl⟩:=rx
 obtain ⟨u,rfl,ru⟩:=rv.one
 cases ru
 obtain ⟨its,r,pl,_⟩:=I.list hq
 exact join_list pl.isList (zbj r) hl λ t' k=>⟨.str (Txt.join z ys),H,I.tok k,⟨t',rfl⟩,q⟩
theorem zeh:∀ {bs:List Bool} {us:List Value},Vals (bs.map V.bl) us→LSm.BoolsAre us bs:=by
 intro bs
 induction bs with
 | nil=>intro us r;cases r;exact .nil
 | cons b bs ih =>
  intro us r
  cases r with
  | cons h t =>
   cases h
   exact .cons b (ih t)
theorem zej (hc:X.calm=true):zmi X (.builtin "all") (λ xs H Q=>∃ (p:Addr) (bs:List Bool),xs=[.ref p]∧SqL X.K H p (bs.map V.bl)∧Q (.bl (bs.all id)) H):=by
 intro pins s σ H xs us Q I rv h
 obtain ⟨p,bs,rfl,hq,q⟩:=h
 obtain ⟨u,rfl,ru⟩:=rv.one
 cases ru
 obtain ⟨its,r,pl,_⟩:=I.list hq
 have hl:=pl.isList
 have hb:=zeh r
 have hlt:p<s.heap.objs.size:=by obtain ⟨_,e,_⟩:=hl;exact Heap.lt_size e
 refine call_all_walk (wpAny_pyIter_list hl ?_)
 refine ⟨s.heap.objs.size,[s.heap.objs.size,p],[s.heap.objs.size],its.toArray.size,_,_,λ i=>(bs[i]?).getD true,rfl,Walks.list (A:=X.A.in1) (I.ok.hd hc) _ p (Nat.ne_of_lt hlt) its.toArray,
  ⟨⟨_,Heap.get?_push_size _ rfl,rfl,rfl⟩,hl.push _⟩,λ i v s' Q' E' hP hQ=>?_,λ h' tk hk=>?_⟩
 ·obtain ⟨b,e,rfl⟩:=hb.get i v (by simpa using hP)
  simp only [e,Option.getD_some] at hQ
  exact wpAny_truthy_bool hQ
 ·have e:((List.range its.toArray.size).all λ i=>(bs[i]?).getD true)=bs.all id:=by
   rw [List.size_toArray,hb.length];exact LSm.range_all bs
  rw [e]
  exact ⟨.bl (bs.all id),H,I.kept (LSm.kept_iter hk),rfl,q⟩
end
end L2
namespace L2
open PySem PySem.Spec PyProof.Rows
noncomputable def okHO:HO→Prop
 | .dT _=>False
 | .frz _ (.lst _)=>True
 | .frz _ _=>False
 | _=>True
noncomputable def Plain (H:Hp):Prop:=∀ a o,H a=some o→okHO o
theorem Plain.upd {H:Hp} {l:Addr} {o:HO} (p:Plain H) (h:okHO o):Plain (upd H l o):=λ a u e=>by
 by_cases ha:a=l
 ·subst ha;rw [upd_same] at e;cases e;exact h
 ·rw [zwa ha] at e;exact p a u e
theorem Plain.lst {H:Hp} {l:Addr} {xs:List V} (p:Plain H):Plain (L2.upd H l (.lst xs)):=p.upd trivial
theorem Plain.tup {H:Hp} {l:Addr} {xs:List V} (p:Plain H):Plain (L2.upd H l (.tup xs)):=p.upd trivial
theorem Only.plain {H:Hp} (h:Only H):Plain H:=λ a o e=>by
 rcases h a with z | ⟨o',xs,z⟩
 ·rw [z] at e;cases e
 ·rw [z] at e;cases e;exact trivial
structure Cut (H H' H'':Hp):Prop where
 sub:∀ b o,H'' b=some o→H' b=some o
 old:∀ b o,H b=some o→H'' b=H' b
 ins:∀ a C dx fs,H'' a=some (.ins C dx fs)→H'' dx=some (.own a)
 plain:Plain H''
theorem Cut.un {fs:List Addr} {H H' H'':Hp} {h h':Heap} (c:Cut H H' H'') (u:Un fs [] H H' h h'):Un fs [] H H'' h h' where
 keep:=u.keep
 slot:=u.slot
 free:=λ b o e n hx=>by
  have:=u.free b o e n hx
  cases q:H'' b with
  | none=>rfl
  | some z=>rw [c.sub b z q] at this;cases this
 there:=u.there
 tups:=λ b xs e=>by rw [c.old b _ e];exact u.tups b xs e
 frzs:=λ b o z e=>by rw [c.old b _ e];exact u.frzs b o z e
 tbls:=λ b ps e=>by rw [c.old b _ e];exact u.tbls b ps e
theorem Cut.hok {P:Program} {w:World} {H H' H'':Hp} {h:Heap} (c:Cut H H' H'') (k:HOk P w H' h):HOk P w H'' h:=λ a o e=>by
 have q:=k a o (c.sub a o e)
 cases o with
 | ins C dx fs =>
  obtain ⟨d,r⟩:=q
  exact ⟨c.ins a C dx fs e,r⟩
 | dT kvs=>exact (c.plain a _ e).elim
 | frz ob u =>
  have z:=c.plain a _ e
  cases u with
  | lst xs=>exact q
  | _=>exact z.elim
 | lst xs=>exact q
 | tup xs=>exact q
 | dK kvs=>exact q
 | set S n=>exact q
 | own x=>exact q
 | xd fs=>exact q
 | met f x=>exact q
 | rng lo hi=>exact q
 | tbl ps=>exact q
 | ext φ=>exact q
section
variable {P:Program} {w:World} {K:W.Frag} {mg:Str→Option Value} {base:Heap} {CX:CXT} {k:Nat} {f:Addr} {fd:FuncData} {ps:List Str}
theorem FnOk.cut {sp:Sp} (F:FnOk P w K mg base CX k f fd ps sp) :
  FnOk P w K mg base CX k f fd ps (λ vs H Q E=>sp vs H (λ v H'=>∃ H'',((∀ a C dx fs,H a=some (.ins C dx fs)→H dx=some (.own a))→Cut H H' H'')∧Q v H'') E) :=
 ⟨λ vs H Q E h=>F.len vs H _ E h,λ A outer s H args us vs Q E hr he hb hv h=>by
  refine codeAny_mono (F.run A outer s H args us vs _ E hr he hb hv h) λ r s' q=>?_
  cases r with
  | error e=>exact q
  | ok fl =>
   cases fl with
   | ret u =>
    obtain ⟨v,H',os,bare,un,hok,rv,H'',hc,q⟩:=q
    have c:=hc λ a C dx fs e=>(he.hok a _ e).1
    exact ⟨v,H'',os,bare,c.un un,c.hok hok,rv,q⟩
   | _=>exact q⟩
noncomputable def zch {α:Type} (Pre:α→List V→Prop) (Post:α→V→Prop):Sp:=λ vs H Q _=>Plain H∧∃ a,Pre a vs∧∀ v,Post a v→Q v H
noncomputable def zrv {α:Type} (Pre:α→List V→Prop) (Post:α→V→Prop):Sp:=λ vs H Q _=>Plain H∧∃ a,Pre a vs∧∀ v H',Post a v→Same H H'→Q v H'
theorem FnOk.pure {α:Type} {Pre:α→List V→Prop} {Post:α→V→Prop} (F:FnOk P w K mg base CX k f fd ps (zrv Pre Post)):FnOk P w K mg base CX k f fd ps (zch Pre Post) :=
 F.cut.imp λ vs H Q E ⟨hp,a,ha,q⟩=>⟨hp,a,ha,λ v H' hv hs=>⟨H,λ hi=>⟨hs,λ b o e=>by rw [e,hs b o e],hi,hp⟩,q v hv⟩⟩
end
theorem Same.upd {H H':Hp} {l:Addr} {o:HO} (s:Same H H') (hl:H l=none):Same H (L2.upd H' l o):=λ b z e=>by
 rw [zwa (zhb e hl)];exact s b z e
theorem zca {H:Hp} {l:Addr} {o:HO} (hl:H l=none):Same H (upd H l o):=(Same.refl H).upd hl
theorem zvb {p:Prop} [Decidable p] {A B:Prop} (h1:p→A) (h2:¬ p→B):if decide p=true then A else B:=by
 by_cases h:p
 ·rw [if_pos (decide_eq_true h)];exact h1 h
 ·rw [if_neg (by simpa using h)];exact h2 h
theorem zfj {p:Prop} [Decidable p] {A B:Prop} (h1:¬ p→A) (h2:p→B):if (!decide p)=true then A else B:=by
 by_cases h:p
 ·rw [if_neg (by simpa using h)];exact h2 h
 ·rw [if_pos (by simpa using h)];exact h1 h
theorem znw {b:Bool} {A B:Prop} (h1:b=true→A) (h2:b=false→B):if b=true then A else B:=by
 cases b
 ·rw [if_neg Bool.false_ne_true];exact h2 rfl
 ·rw [if_pos rfl];exact h1 rfl
theorem join {α:Type} {ok G:α→Prop} {C:Prop} (h1:(∀ z,ok z→G z)→C) (h2:∀ z,ok z→G z):C:=h1 h2
theorem zhw {G C:Prop} (h1:G→C) (h2:G):C:=h1 h2
theorem zna (x y:Str):(x++y).length=x.length+y.length:=Array.size_append
theorem zko {ns:List Int} {lo hi:Option Int} {i:Nat} {x:V} (h:(cutV (ns.map V.int) lo hi)[i]? = some x):∃ n,x=V.int n:=by
 have hm:=List.mem_of_getElem? h
 unfold cutV at hm
 have hm:=List.mem_of_mem_drop (List.mem_of_mem_take hm)
 obtain ⟨n,_,e⟩:=List.mem_map.mp hm
 exact ⟨n,e.symm⟩
end L2
namespace L2
open PySem PySem.Spec PyProof.Rows
structure Fly (new:Addr→Prop) (H:Hp) (x C:Addr) (h:Heap):Prop where
 ob:∃ oe vs,h.get? x=some oe∧oe.cls = .ref C∧oe.dict=none∧oe.data = .fields vs∧1<vs.size ∧
  (vs[1]? = some .none ∨ ∃ T oT ts,vs[1]? = some (.ref T)∧T≠x∧h.get? T=some oT∧oT.data = .fields ts∧3<ts.size∧new T∧H T=none)
 new:new x
 free:H x=none
theorem Fly.imp {n n':Addr→Prop} {H:Hp} {x C:Addr} {h:Heap} (f:Fly n H x C h) (k:∀ b,n b→n' b):Fly n' H x C h:=by
 obtain ⟨⟨oe,vs,a,b,c,d,e,g⟩,hn,hf⟩:=f
 refine ⟨⟨oe,vs,a,b,c,d,e,g.imp id ?_⟩,k _ hn,hf⟩
 rintro ⟨T,oT,ts,a,b,c,d,e,f,g⟩
 exact ⟨T,oT,ts,a,b,c,d,e,k _ f,g⟩
theorem zqk (o:Obj) (f:Array Value→Array Value):(o.mapFields f).dict=o.dict:=by
 obtain ⟨c,d,dt,sl⟩:=o
 cases dt <;> rfl
section
variable {M:Model} {A:Around} {E:Value→Shared→Prop} {s:Shared}
theorem zxf {env env':Env} (h:env.frame=env'.frame):PySem.frameOf env=PySem.frameOf env':=by
 unfold PySem.frameOf
 rw [h]
theorem zpe {env env':Env} {e:Value} (h:env.frame=env'.frame):noteFrame e env=noteFrame e env':=by
 unfold noteFrame
 rw [zxf h,h]
structure Kept (x T:Addr) (frames:List Addr) (h h':Heap):Prop where
 keep:∀ b o,b≠x→b≠T→b∉frames→h.get? b=some o→h'.get? b=some o
 slot:∀ b o,b≠x→b≠T→h.get? b=some o→∃ sl,h'.get? b=some { o with slots:=sl }
theorem zwg {base:Heap} {env:Env} {outer:List Env} {L x:Addr} {oe:Obj} {vs:Array Value} {head:Value} {hadNext:Bool} {Q:Unit→Shared→Prop}
  (hfr:A.frames=some (env::outer)) (hl:s.heap.FunFrames base (env::outer)) (hf:env.frame=some L)
  (he:s.heap.get? x=some oe) (hd:oe.data = .fields vs) (hz:1<vs.size)
  (h:∀ h' T,(∃ oe' vs',h'.get? x=some oe'∧oe'.cls=oe.cls∧oe'.dict=oe.dict∧oe'.data = .fields vs'∧1<vs'.size∧vs'[1]? = some (.ref T))→(∃ oT ts,h'.get? T=some oT∧oT.data = .fields ts∧3<ts.size)→s.heap.objs.size≤T →
   Kept x x (frs (env::outer)) s.heap h'→Q () { s with heap:=h' }) :
  wpAny M A (do let a ← PySem.frameOf env;let pl ← entryPlaceOf L hadNext;let b ← EntryCells.newEntry head a .none (rawInt L) .none pl;setField (.ref x) 1 b) Q E s:=by
 have xnf:x∉(env::outer).filterMap (·.frame):=λ hm=>by
  obtain ⟨_,o,ho,hnf⟩:=hl.mem hm
  rw [he] at ho
  cases ho
  exact hnf vs hd
 refine wpAny_bind (wpAny_frameOf_fun hfr hl hf λ h1 g1=>?_)
 refine wpAny_bind (wpAny_entryPlaceOf λ pl hpl=>?_)
 unfold EntryCells.newEntry newFields
 refine wpAny_bind (wpAny_newObj_type ?_ (hpl.sizeOk5 _ _ _ _ _))
 have e1:h1.get? x=some oe:=(g1.2.1 x xnf).trans he
 have lt1:x<h1.objs.size:=Heap.lt_size e1
 have e2:=Heap.get?_push_of_some (h:=h1) { cls := .type "traceback",dict:=none,data := .fields ([head,.ref L,.none,rawInt L,.none]++(if pl.isEmpty then List.replicate 6 Value.none else pl)).toArray } e1
 have dm:=Obj.data_mapFields hd (·.setIfInBounds 1 (Value.ref h1.objs.size))
 refine wpAny_setField e2 hd hz (h _ h1.objs.size ⟨_,_,Heap.get?_update_self _ e2 (Obj.isFreed_of_fields dm),Obj.cls_mapFields _ _,zqk _ _,dm,by simpa using hz,by simp [hz]⟩
  ⟨_,_,(Heap.get?_update_other _ _ (Nat.ne_of_lt lt1)).trans (Heap.get?_push_size _ rfl),rfl,by simp only [List.size_toArray,List.length_append,List.length_cons];omega⟩ (by rw [g1.1];exact Nat.le_refl _) ⟨λ b o bx _ bf eb=>?_,λ b o bx _ eb=>?_⟩)
 ·rw [Heap.get?_update_other _ _ (Ne.symm bx)]
  exact Heap.get?_push_of_some _ ((g1.2.1 b bf).trans eb)
 ·obtain ⟨sl,q⟩:=g1.2.2 b o eb
  exact ⟨sl,by rw [Heap.get?_update_other _ _ (Ne.symm bx)];exact Heap.get?_push_of_some _ q⟩
end
section
variable {X:Cx} {σ:St} {H:Hp} {s:Shared} {x C:Addr}
noncomputable def Cx.new (X:Cx) (b:Addr):Prop:=(∀ o,X.s₀.heap.get? b=some o→b∈X.ex)∧∀ p∈X.pn,p.1≠b
theorem Inv.stepN {h':Heap} {t':Nat} {ch:List Addr} (I:Inv X [] σ H s) (hch:∀ b∈ch,X.new b∧H b=none∧b≠X.env.locals∧∀ y c,X.env.cells.lookup y=some c→c≠b)
  (keep:∀ b o,b∉ch→b∉frs X.stack→s.heap.get? b=some o→h'.get? b=some o) (slot:∀ b o,b∉ch→s.heap.get? b=some o→∃ sl,h'.get? b=some { o with slots:=sl }) :
  Inv X [] σ H { s with heap:=h',toks:=t' }:=by
 have old:∀ b o,X.s₀.heap.get? b=some o→b∉X.ex→b∉ch:=λ b o e hx hb=>hx ((hch b hb).1.1 o e)
 have neL:∀ b o,X.s₀.heap.get? b=some o→b≠X.env.locals:=λ b o e=>Nat.ne_of_lt (Nat.lt_of_lt_of_le (Heap.lt_size e) I.ok.above)
 have trk:∀ b u,H b=some u→b∉ch:=λ b u e hb=>by have:=(hch b hb).2.1;rw [e] at this;cases this
 have trs:∀ b u,H b=some u→b∉frs X.stack:=λ b u e hb=>by have:=I.stkFree b hb;rw [e] at this;cases this
 have nfs:∀ b,b≠X.env.locals→b∉X.fs→b∉frs X.stack:=λ b h1 h2 z=>(List.mem_cons.mp (I.stkSub b z)).elim h1 h2
 have cellK:∀ y c,X.env.cells.lookup y=some c→∀ v,s.heap.IsCell c v→h'.IsCell c v:=λ y c e v ⟨o,ho,hd⟩=>by
  obtain ⟨sl,q⟩:=slot c o (λ z=>(hch c z).2.2.2 y c e rfl) ho
  exact ⟨_,q,hd⟩
 refine ⟨I.ok,I.os,I.bare,⟨λ b o e n hb hx=>?_,λ b o e n hb hx=>?_,I.base.free,λ b o e hx=>?_,I.base.tups,I.base.frzs,I.base.tbls⟩,?_,λ y c e=>?_,I.free,I.freeC,λ p hp=>?_,λ b u e=>?_,I.len⟩
 ·exact keep b o (old b o e hx) (nfs b (neL b o e) hb) (I.base.keep b o e n hb hx)
 ·obtain ⟨sl,q⟩:=I.base.slot b o e n hb hx
  obtain ⟨sl',q'⟩:=slot b _ (old b o e hx) q
  exact ⟨sl',q'⟩
 ·obtain ⟨o',q⟩:=I.base.there b o e hx
  obtain ⟨sl,q'⟩:=slot b o' (old b o e hx) q
  exact ⟨_,q'⟩
 ·obtain ⟨m,⟨o,es,ep,ho,r⟩,hl⟩:=I.loc
  obtain ⟨sl,q⟩:=slot _ o (λ z=>(hch _ z).2.2.1 rfl) ho
  refine ⟨m,⟨_,es,ep,q,r⟩,λ i y v e1 e2 e3=>?_⟩
  obtain ⟨u,ru,lk⟩:=hl i y v e1 e2 e3
  exact ⟨u,ru,lk.imp id λ ⟨k,c,e,z⟩=>⟨k,c,e,cellK y c e _ z⟩⟩
 ·obtain ⟨v,z⟩:=I.cell y c e
  exact ⟨v,cellK y c e v z⟩
 ·obtain ⟨e,n,ne,nf,d⟩:=I.pin p hp
  have hp':p∈X.pn:=by simpa using hp
  exact ⟨keep p.1 p.2 (λ z=>(hch p.1 z).1.2 p hp' rfl) (nfs p.1 ne nf) e,n,ne,nf,d⟩
 ·refine (I.hok b u e).stay (λ c v hc q=>?_) (λ _ q=>q) λ _ _ q=>q
  rcases hc with rfl | hc
  ·exact keep c v (trk c u e) (trs c u e) q
  ·exact keep c v (trk c _ hc) (trs c _ hc) q
theorem Inv.fieldsNe (I:Inv X [] σ H s) {b:Addr} {o:Obj} {vs:Array Value} (e:s.heap.get? b=some o) (d:o.data = .fields vs):b≠X.env.locals∧(∀ y c,X.env.cells.lookup y=some c→c≠b)∧b∉frs X.stack:=by
 refine ⟨λ z=>?_,λ y c ec z=>?_,λ z=>?_⟩
 ·obtain ⟨m,⟨o',es,ep,ho,r,_⟩,_⟩:=I.loc
  rw [← z,e] at ho
  cases ho
  rw [d] at r
  cases r
 ·obtain ⟨v,o',ho,hd⟩:=I.cell y c ec
  rw [z,e] at ho
  cases ho
  rw [d] at hd
  cases hd
 ·obtain ⟨_,o',ho,hnf⟩:=I.stack.mem z
  rw [e] at ho
  cases ho
  exact hnf vs d
theorem Inv.kept2 {h':Heap} {T:Addr} (I:Inv X [] σ H s) (F:Fly X.new H x C s.heap) (hT:T=x ∨ ∃ oe vs oT ts,s.heap.get? x=some oe∧oe.data = .fields vs∧vs[1]? = some (.ref T)∧s.heap.get? T=some oT∧oT.data = .fields ts)
  (k:Kept x T (frs X.stack) s.heap h'):Inv X [] σ H { s with heap:=h' }:=by
 obtain ⟨oe,vs,e,_,_,d,_,tb⟩:=F.ob
 have one:X.new x∧H x=none∧x≠X.env.locals∧∀ y c,X.env.cells.lookup y=some c→c≠x:=⟨F.new,F.free,(I.fieldsNe e d).1,(I.fieldsNe e d).2.1⟩
 have two:X.new T∧H T=none∧T≠X.env.locals∧∀ y c,X.env.cells.lookup y=some c→c≠T:=by
  rcases hT with rfl | ⟨oe',vs',oT,ts,e',d',v',eT,dT⟩
  ·exact one
  ·rw [e] at e'
   cases e'
   rw [d] at d'
   cases d'
   rcases tb with z | ⟨T',oT',ts',v,_,_,_,_,hn,hf⟩
   ·rw [z] at v';cases v'
   ·rw [v] at v'
    cases v'
    exact ⟨hn,hf,(I.fieldsNe eT dT).1,(I.fieldsNe eT dT).2.1⟩
 refine I.stepN (ch:=[x,T]) (λ b hb=>?_) (λ b o hb hs q=>k.keep b o (λ z=>hb (by simp [z])) (λ z=>hb (by simp [z])) hs q) λ b o hb q=>k.slot b o (λ z=>hb (by simp [z])) (λ z=>hb (by simp [z])) q
 have:b=x ∨ b=T:=by simpa using hb
 rcases this with rfl | rfl
 ·exact one
 ·exact two
structure Cx.Top (X:Cx):Prop where
 top:∃ env outer L,X.stack=env::outer∧env.frame=some L∧X.env.frame=some L
theorem Cx.newAt {X:Cx} {σ:St} {H:Hp} {s:Shared} (I:Inv X [] σ H s) {T:Addr} (h:s.heap.objs.size≤T):X.new T:=by
 refine ⟨λ o q=>?_,λ p hp z=>?_⟩
 ·exact absurd (Nat.lt_of_lt_of_le (Heap.lt_size q) (Nat.le_trans I.sz h)) (Nat.lt_irrefl _)
 ·have:=Heap.lt_size (I.pin p (List.mem_append_left _ hp)).1
  rw [z] at this
  exact absurd (Nat.lt_of_lt_of_le this h) (Nat.lt_irrefl _)
theorem zag {E:Value→Shared→Prop} {Q:Unit→Shared→Prop} (I:Inv X [] σ H s) (tp:X.Top) (F:Fly X.new H x C s.heap)
  (h:∀ h',Inv X [] σ H { s with heap:=h' }→Fly X.new H x C h'→(∃ oe vs T,h'.get? x=some oe∧oe.data = .fields vs∧vs[1]? = some (.ref T))→Q () { s with heap:=h' }) :
  wpAny (model X.prog X.w) X.A (noteFrame (.ref x) X.env) Q E s:=by
 obtain ⟨env,outer,L,hst,hf,hfe⟩:=tp.top
 have hfr:X.A.frames=some (env::outer):=by rw [I.ok.frames,hst]
 have hl:s.heap.FunFrames X.base (env::outer):=by rw [← hst];exact I.stack
 obtain ⟨oe,vs,e,ec,ed,d,z,tb⟩:=id F.ob
 rw [zpe (show X.env.frame=env.frame by rw [hfe,hf])]
 unfold noteFrame
 simp only [hf]
 rcases tb with v | ⟨T,oT,ts,v,nx,eT,dT,zT,hn,hfT⟩
 ·refine wpAny_bind (wpAny_field e d v ?_)
  rw [if_neg (by decide)]
  refine zwg hfr hl hf e d z λ h' T ⟨oe',vs',a1,a2,a3,a4,a5,a6⟩ ⟨oT,ts,b1,b2,b3⟩ hz k=>?_
  rw [← hst] at k
  refine h h' (I.kept2 F (.inl rfl) k) ⟨⟨oe',vs',a1,a2.trans ec,a3.trans ed,a4,a5,.inr ⟨T,oT,ts,a6,?_,b1,b2,b3,Cx.newAt I hz,I.hok.fresh hz⟩⟩,F.new,F.free⟩ ⟨_,_,_,a1,a4,a6⟩
  exact Nat.ne_of_gt (Nat.lt_of_lt_of_le (Heap.lt_size e) hz)
 ·refine wpAny_bind (wpAny_field e d v ?_)
  rw [if_pos (show (Value.ref T != Value.none)=true from by simp)]
  have v3:ts[3]? = some ts[3]:=by simp [zT]
  refine wpAny_bind (wpAny_field eT dT v3 ?_)
  by_cases hq:(ts[3] == rawInt L)=true
  ·rw [if_pos hq]
   exact wpAny_pure (h s.heap I F ⟨_,_,_,e,d,v⟩)
  ·rw [if_neg hq]
   refine wpAny_bind (wpAny_setField eT dT zT ?_)
   have oth:∀ b,b≠T→(s.heap.update T (Obj.mapFields (·.setIfInBounds 3 Value.none))).get? b=s.heap.get? b:=λ b hb=>Heap.get?_update_other _ _ (Ne.symm hb)
   have e2:(s.heap.update T (Obj.mapFields (·.setIfInBounds 3 Value.none))).get? x=some oe:=(oth x (Ne.symm nx)).trans e
   have hl2:(s.heap.update T (Obj.mapFields (·.setIfInBounds 3 Value.none))).FunFrames X.base (env::outer):=hl.of_keeps λ b o ho hnf=>⟨o,(oth b λ q=>by rw [q,eT] at ho;cases ho;exact hnf ts dT).trans ho,rfl⟩
   refine zwg (s:={ s with heap:=s.heap.update T (Obj.mapFields (·.setIfInBounds 3 Value.none)) }) hfr hl2 hf e2 d z λ h' T' ⟨oe',vs',a1,a2,a3,a4,a5,a6⟩ ⟨oT',ts',b1,b2,b3⟩ hz k=>?_
   rw [← hst] at k
   have hz':s.heap.objs.size≤T':=by
    have e3:(s.heap.update T (Obj.mapFields (·.setIfInBounds 3 Value.none))).objs.size=s.heap.objs.size:=Heap.size_after_update ..
    have hz2:(s.heap.update T (Obj.mapFields (·.setIfInBounds 3 Value.none))).objs.size≤T':=hz
    omega
   have k':Kept x T (frs X.stack) s.heap h':=⟨λ b o b1 b2 b3 q=>k.keep b o b1 b1 b3 ((oth b b2).trans q),λ b o b1 b2 q=>k.slot b o b1 b1 ((oth b b2).trans q)⟩
   refine h h' (I.kept2 F (.inr ⟨_,_,_,_,e,d,v,eT,dT⟩) k') ⟨⟨oe',vs',a1,a2.trans ec,a3.trans ed,a4,a5,.inr ⟨T',oT',ts',a6,?_,b1,b2,b3,Cx.newAt I hz',I.hok.fresh hz'⟩⟩,F.new,F.free⟩ ⟨_,_,_,a1,a4,a6⟩
   exact Nat.ne_of_gt (Nat.lt_of_lt_of_le (Heap.lt_size e) hz')
theorem zzc {A:Around} {E:Value→Shared→Prop} {Q:Unit→Shared→Prop} {f:Option Addr} (I:Inv X [] σ H s) (F:Fly X.new H x C s.heap) (ht:∃ oe vs T,s.heap.get? x=some oe∧oe.data = .fields vs∧vs[1]? = some (.ref T))
  (h:∀ h',Inv X [] σ H { s with heap:=h' }→Fly X.new H x C h'→(∃ oe vs T,h'.get? x=some oe∧oe.data = .fields vs∧vs[1]? = some (.ref T))→Q () { s with heap:=h' }) :
  wpAny (model X.prog X.w) A (setFlight (.ref x) f) Q E s:=by
 obtain ⟨oe,vs,e,ec,ed,d,z,tb⟩:=id F.ob
 obtain ⟨oe',vs',T,e',d',v⟩:=ht
 rw [e] at e'
 cases e'
 rw [d] at d'
 cases d'
 rcases tb with v' | ⟨T',oT,ts,v',nx,eT,dT,zT,hn,hfT⟩
 ·rw [v'] at v;cases v
 rw [v'] at v
 cases v
 unfold setFlight
 refine wpAny_bind (wpAny_field e d v' ?_)
 rw [if_pos (show (Value.ref T != Value.none)=true from by simp)]
 refine wpAny_setField eT dT zT ?_
 have oth:∀ b,b≠T→(s.heap.update T (Obj.mapFields (·.setIfInBounds 3 (f.elim Value.none λ f=>rawInt f)))).get? b=s.heap.get? b:=λ b hb=>Heap.get?_update_other _ _ (Ne.symm hb)
 have dm:=Obj.data_mapFields dT (·.setIfInBounds 3 (f.elim Value.none λ f=>rawInt f))
 have e2:=(oth x (Ne.symm nx)).trans e
 refine h _ (I.kept2 F (.inr ⟨_,_,_,_,e,d,v',eT,dT⟩) ⟨λ b o _ b2 _ q=>(oth b b2).trans q,λ b o _ b2 q=>⟨o.slots,(oth b b2).trans q⟩⟩)
  ⟨⟨oe,vs,e2,ec,ed,d,z,.inr ⟨T,_,_,v',nx,Heap.get?_update_self _ eT (Obj.isFreed_of_fields dm),dm,by simpa using zT,hn,hfT⟩⟩,F.new,F.free⟩ ⟨_,_,_,e2,d,v'⟩
end
end L2
namespace L2
open PySem PySem.Spec PyProof.Rows
noncomputable def CX1 (P:Program) (w:World) (base:Heap):CXT:=λ outer H s E e s'=>∃ (x C:Addr) (H':Hp),e = .ref x∧s'.os=s.os∧AllBare s'.gens∧Un (frs outer) [] H H' s.heap s'.heap∧HOk P w H' s'.heap ∧
 Fly (λ b=>s.heap.get? b=none) H' x C s'.heap∧E (.ref C) none H'
noncomputable def Wants (X:Cx) (E:XK):Prop:=∀ (σ:St) (H':Hp) (s':Shared) (x C:Addr),Inv X [] σ H' s'→Fly X.new H' x C s'.heap→E (.ref C) none H'→X.xe (.ref x) s'
theorem zkr {X:Cx} {pins:List (Addr×Obj)} {σ:St} {H:Hp} {s:Shared} (I:Inv X pins σ H s) {b:Addr} (h:s.heap.get? b=none):X.new b:=by
 refine ⟨λ o e=>?_,λ p hp z=>?_⟩
 ·by_cases hx:b∈X.ex
  ·exact hx
  ·obtain ⟨o',q⟩:=I.base.there b o e hx
   rw [h] at q
   cases q
 ·have:=(I.pin p (List.mem_append_left _ hp)).1
  rw [z,h] at this
  cases this
theorem Inv.nopins {X:Cx} {pins:List (Addr×Obj)} {σ:St} {H:Hp} {s:Shared} (I:Inv X pins σ H s):Inv X [] σ H s:=I.pins_of λ p hp=>absurd hp (by simp)
theorem Wants.passes {X:Cx} {E:XK} (W:Wants X E):zti (CX1 X.prog X.w X.base) X E:=λ pins σ H s e s' I ⟨x,C,H',ee,os,bare,un,hok,F,q⟩=>by
 subst ee
 have J:Inv X pins σ H' s':=I.call' (ch:=[]) os un hok bare λ b z=>absurd z (by simp)
 exact W σ H' s' x C J.nopins (F.imp λ b hb=>zkr I hb) q
theorem zcd {P:Program} {w:World} {base:Heap} {X:Cx}:zti (CX1 P w base) X E0:=λ _ _ _ _ _ _ _ ⟨_,_,_,_,_,_,_,_,_,q⟩=>q.elim
theorem zqa {P:Program} {w:World} {K:W.Frag} {mg:Str→Option Value} {base:Heap} {N:List Str} {qual:Str} {scope:Scope} {f:Addr} {cd:Value} {A:Around} {outer:List Env} {s:Shared} {H:Hp} {E:XK} :
  Wants (cxOf (CX1 P w base) P w K mg base N qual scope f cd A outer s H E) E:=λ σ H' s' x C I F q=>by
 refine wpAny_bind (zag I ⟨⟨_,_,_,rfl,rfl,rfl⟩⟩ F λ h1 I1 F1 t1=>?_)
 refine zzc I1 F1 t1 λ h2 I2 F2 _=>?_
 refine ⟨x,C,H',rfl,I2.os,I2.bare,I2.base,I2.hok,F2.imp λ b hb=>?_,q⟩
 cases e:s.heap.get? b with
 | none=>rfl
 | some o=>exact absurd (hb.1 o e) (by simp [cxOf])
section
variable {P:Program} {w:World} {K:W.Frag} {mg:Str→Option Value} {base:Heap}
theorem Fun.okX {x qual:Str} {st:Stmt} {f:Addr} {fd:FuncData} {N ps:List Str} {k:Nat} {sp:Sp} (F:Fun K x qual st f fd) (S:FnScope N ps (zja st)) (len:∀ vs H Q E,sp vs H Q E→vs.length=ps.length)
  (hbody:∀ (cdv:Value) (A:Around) (outer:List Env) (s:Shared) (H:Hp) (vs:List V) (Q:VK) (E:XK),Room k (A.deeper (envOfC qual (zja st) s.heap.objs.size f cdv))→sp vs H Q E →
   ∃ t,PSs (cxOf (CX1 P w base) P w K mg base N qual (zja st) f cdv A outer s H E) (zae st) t∧t { nx:=λ _ H'=>Q .non H',rt:=Q } (zxj N vs) H):FnOk P w K mg base (CX1 P w base) (k+1) f fd ps sp:=by
 obtain ⟨oc,od,kV,doc,pm,an,cdv,ct,osl,rfl,lk,hcd⟩:=F.ex
 exact zqu lk hcd S len λ A outer s H vs Q E hr hsp=>hbody cdv A outer s H vs Q E hr hsp
theorem Fun.okN {x qual:Str} {st:Stmt} {f:Addr} {fd:FuncData} {N ps:List Str} {k:Nat} {sp:Sp} (F:Fun K x qual st f fd) (S:FnScope N ps (zja st)) (len:∀ vs H Q E,sp vs H Q E→vs.length=ps.length)
  (hbody:∀ (cdv:Value) (A:Around) (outer:List Env) (s:Shared) (H:Hp) (vs:List V) (Q:VK) (E:XK),Room k (A.deeper (envOfC qual (zja st) s.heap.objs.size f cdv))→sp vs H Q E →
   ∃ t,PSs (cxOf (CX1 P w base) P w K mg base N qual (zja st) f cdv A outer s H E).nox (zae st) t∧t { nx:=λ _ H'=>Q .non H',rt:=Q } (zxj N vs) H):FnOk P w K mg base (CX1 P w base) (k+1) f fd ps sp :=
 F.okX S len λ cdv A outer s H vs Q E hr hsp=>let ⟨t,h,q⟩:=hbody cdv A outer s H vs Q E hr hsp; ⟨t,h.nox,q⟩
end
abbrev bmV:List Value:=[.type "ValueError",.type "Exception",.type "BaseException",.type "object"]
structure XCls (K:W.Frag) (C:Addr):Prop where
 ex:W.excIn K C bmV "ValueError.__new__" = true
 ga:W.findIn K (.ref C) "__getattribute__" = some (some (.builtin "BaseException.__getattribute__"))
 gn:W.findIn K (.ref C) "__getattr__" = some none
 be:W.subIn K (.ref C) (.type "BaseException")=some true
 hd:W.hasDictIn K C=true
 ca:W.findIn K (.ref C) "__class__" = some (some (.builtin "object.__class__"))
 mo:W.mroIn K C (.type "object")=some true
 gs:W.specialIn K (.builtin "object.__class__") "__get__" = some (some (.builtin "getset_descriptor.__get__"))
 tk:W.takesIn K (.builtin "object.__class__")=some true
theorem XCls.obj {K:W.Frag} {C:Addr} {h:Heap} (c:XCls K C) (X:K.In h):∃ bm N nm q bs hdct sn sub ab col dd k0 k1 k2 k3 k5 mN,
  h.get? C=some (excClassObj nm q C N bs bm hdct sn sub ab col dd k0 k1 k2 k3 k5 "ValueError.__new__")∧h.Ns N mN∧mN "__init__" = none∧OwnTail h bmV bm ∧
  ∀ b r,W.mroIn K C b=some r→(Value.ref C::bm).contains b=r:=by
 have q:=c.ex
 unfold W.excIn at q
 split at q
 ·rename_i dd cd sl ho
  split at q
  ·rename_i C' bm k0 k1 k2 k3 n k5 hm hs
   simp only [Bool.and_eq_true,beq_iff_eq,Bool.not_eq_true'] at q
   obtain ⟨⟨⟨⟨⟨rfl,rfl⟩,hdel⟩,ht⟩,hok⟩,hni⟩:=q
   have hmro:∀ b r,W.mroIn K C' b=some r→(Value.ref C'::bm).contains b=r:=λ b r e=>by
    unfold W.mroIn W.clsIn at e
    rw [ho] at e
    simp only [Option.bind_some,hm] at e
    simpa using e
   obtain ⟨nm,bs,mro,ns,qn,hd,sn,sub,ab,col,del⟩:=cd
   dsimp only at hm hdel hok hni
   subst hm hdel
   have hsl:sl = #[k0,k1,k2,k3,some (.builtin "ValueError.__new__"),k5]:=by
    obtain ⟨l⟩:=sl
    simp only at hs
    rw [hs]
   subst hsl
   exact ⟨bm,ns,nm,qn,bs,hd,sn,sub,ab,col,dd,k0,k1,k2,k3,k5,_,X _ _ ho,.of_isNs (W.isNs_of_in X hok),W.nsMap_none_of_in X hok hni,W.tail_of_in X ht,hmro⟩
  ·cases q
 ·cases q
section
variable {X:Cx}
noncomputable def zmq (C:Addr) (E:XK) (ta:TA):TS:=λ _ σ H=>ta σ H λ vs H1=>vs.length≤sizeLine∧E (.ref C) none H1
theorem zpb {C:Addr} {E:XK} {n:Str} {e:Expr} {es:List Expr} {ta:TA} {np cpos pos:Pos} (xc:XCls X.K C) (W:Wants X E) (hc:X.calm=true) (hg:Gl X n) (hm:X.mg n=some (.ref C)) (ha:PA X (e::es) ta)
  (hs:starEach (e::es) X.env=(false,eval e X.env)::starEach es X.env:=by rfl) (hp:(backTo cpos (starEach es X.env)).any (·.1)=false:=by rfl) (hdb:(n == ("__debug__" : Str))=false:=by decide) :
  PS X (.Raise (some (.Call (.Name n np) (e::es) [] cpos)) none pos) (zmq C E ta) := .mk <| by
 intro pins s σ H D I h
 obtain ⟨bm,N,nm,q,bs,hdct,sn,sub,ab,col,dd,k0,k1,k2,k3,k5,mN,hC,hN,hni,T,_⟩:=xc.obj I.mod.kin
 refine wpAny_Raise_call_subT (C:=C) (nm:=nm) (q:=q) (N:=N) (bs:=bs) (bm:=bm) (hdct:=hdct) (sn:=sn) (sub:=sub) (ab:=ab) (col:=col) (dd:=dd) (k0:=k0) (k1:=k1) (k2:=k2) (k3:=k3) (k5:=k5)
  PySem.F.excBase_ValueError (mN:=mN) (T.hasType (by decide)) (I.ok.hd hc) (by rw [hs];show (false || (backTo cpos (starEach es X.env)).any (·.1))=false;rw [hp];rfl) hni (zge I hg hm ⟨rfl,?_⟩ hdb)
 have hA:=ha cpos pins s σ H _ I h
 rw [hs] at hA ⊢
 refine Calls.evalArgs_plain (thn hA λ us s1 ⟨vs,H1,I1,r1,hl,hE⟩=>⟨rfl,by rw [← r1.length];exact hl,I1.bk _ _ hC,hN.keeps I1.bk,T.keeps I1.bk,λ h' x mk=>?_⟩)
 obtain ⟨t,e1,_,_⟩:=mk.there
 have J:Inv X [] σ H1 { s1 with heap:=h' }:=(I1.kept (t':=s1.toks) mk.keeps).nopins
 refine W σ H1 _ x C J ⟨⟨_,_,e1,rfl,rfl,rfl,by simp,.inl rfl⟩,zkr I1 mk.new,?_⟩ hE
 cases z:H1 x with
 | none=>rfl
 | some o =>
  have:=(I1.hok x o z)
  have lt:∃ ob,s1.heap.get? x=some ob:=by
   cases o with
   | lst xs=>obtain ⟨_,_,_,_,e⟩:=this;exact ⟨_,e⟩
   | tup xs=>obtain ⟨_,_,_,p⟩:=this;obtain ⟨ob,e,_⟩:=p;exact ⟨_,e⟩
   | dK kvs=>obtain ⟨_,_,_,_,o,_,_,e,_⟩:=this;exact ⟨_,e⟩
   | dT kvs=>obtain ⟨_,_,_,_,o,_,_,e,_⟩:=this;exact ⟨_,e⟩
   | set S n=>obtain ⟨o,_,_,_,e,_⟩:=this;exact ⟨_,e⟩
   | ins C dx fs=>obtain ⟨_,_,_,e,_⟩:=this;exact ⟨_,e⟩
   | own y=>exact this
   | xd fs=>obtain ⟨_,⟨_,_,_,e,_⟩,_⟩:=this;exact ⟨_,e⟩
   | rng lo hi=>obtain ⟨_,_,_,e⟩:=this;exact ⟨_,e⟩
   | frz ob u=>obtain ⟨e,_⟩:=this;exact ⟨_,e⟩
   | tbl ps=>exact ⟨_,(show s1.heap.get? x=some _ from this)⟩
   | met f y=>exact ⟨_,(show s1.heap.get? x=some _ from this)⟩
   | ext φ=>obtain ⟨_,e,_⟩:=this;exact e
  obtain ⟨ob,e⟩:=lt
  rw [mk.new] at e
  cases e
end
end L2
namespace L2
open PySem PySem.Spec PyProof.Rows
noncomputable def excO (x C:Addr):HO := .ext λ h=>∃ o,h.get? x=some o∧o.cls = .ref C∧o.dict=none∧W.notCls o=true
noncomputable def Cx.tryC (X:Cx) (E':Value→Shared→Prop) (pn':List (Addr×Obj)):Cx:={ X with xe:=E',pn:=X.pn++pn' }
noncomputable def Cx.hand (X:Cx) (x:Addr):Cx:={ X with A:=X.A.mark (some (.ref x)),calm:=false,xe:=λ _ _=>False }
section
variable {X:Cx} {pins:List (Addr×Obj)} {σ:St} {H:Hp} {s:Shared} {x C D:Addr}
theorem Inv.toTry (I:Inv X pins σ H s) (E':Value→Shared→Prop):Inv (X.tryC E' pins) [] σ H s :=
 ⟨⟨I.ok.mod,I.ok.kind,I.ok.glob,I.ok.blt,I.ok.above,I.ok.inj,I.ok.has,I.ok.cab,I.ok.hd,I.ok.frames,I.ok.stk,I.ok.exf,I.ok.bs,I.ok.bsz,I.ok.noex,I.ok.exfs,I.ok.funs,I.ok.frf⟩,I.os,I.bare,I.base,I.loc,I.cell,I.free,I.freeC,λ p hp=>I.pin p (by simpa [Cx.tryC] using hp),I.hok,I.len⟩
theorem Inv.ofTry {E':Value→Shared→Prop} (I:Inv (X.tryC E' pins) [] σ H s):Inv X pins σ H s :=
 ⟨⟨I.ok.mod,I.ok.kind,I.ok.glob,I.ok.blt,I.ok.above,I.ok.inj,I.ok.has,I.ok.cab,I.ok.hd,I.ok.frames,I.ok.stk,I.ok.exf,I.ok.bs,I.ok.bsz,I.ok.noex,I.ok.exfs,I.ok.funs,I.ok.frf⟩,I.os,I.bare,I.base,I.loc,I.cell,I.free,I.freeC,λ p hp=>I.pin p (by simpa [Cx.tryC] using hp),I.hok,I.len⟩
theorem Inv.toHand (I:Inv X pins σ H s) (x:Addr):Inv (X.hand x) pins σ H s :=
 ⟨⟨I.ok.mod,I.ok.kind,I.ok.glob,I.ok.blt,I.ok.above,I.ok.inj,I.ok.has,I.ok.cab,λ z=>absurd z Bool.false_ne_true,I.ok.frames,I.ok.stk,I.ok.exf,I.ok.bs,I.ok.bsz,I.ok.noex,I.ok.exfs,I.ok.funs,I.ok.frf⟩,I.os,I.bare,I.base,I.loc,I.cell,I.free,I.freeC,I.pin,I.hok,I.len⟩
theorem Inv.ofHand {y:Addr} (I:Inv (X.hand y) pins σ H s) (hd:X.calm=true→X.A.handled=none):Inv X pins σ H s :=
 ⟨⟨I.ok.mod,I.ok.kind,I.ok.glob,I.ok.blt,I.ok.above,I.ok.inj,I.ok.has,I.ok.cab,hd,I.ok.frames,I.ok.stk,I.ok.exf,I.ok.bs,I.ok.bsz,I.ok.noex,I.ok.exfs,I.ok.funs,I.ok.frf⟩,I.os,I.bare,I.base,I.loc,I.cell,I.free,I.freeC,I.pin,I.hok,I.len⟩
theorem Inv.track (I:Inv X pins σ H s) (hn:∀ o,X.s₀.heap.get? x=some o→x∈X.ex) (hp:∀ p∈X.pn++pins,p.1≠x) (hf:H x=none)
  (ob:∃ oe vs,s.heap.get? x=some oe∧oe.cls = .ref C∧oe.dict=none∧oe.data = .fields vs):Inv X pins σ (upd H x (excO x C)) s:=by
 obtain ⟨oe,vs,e,ec,ed,d⟩:=ob
 obtain ⟨n1,n2,n3⟩:=I.nopins.fieldsNe e d
 have ne:∀ b u,H b=some u→b≠x:=λ b u q=>zhb q hf
 refine ⟨I.ok,I.os,I.bare,⟨I.base.keep,I.base.slot,λ b o q n hx=>?_,I.base.there,λ b xs q=>?_,λ b o u q=>?_,λ b ps q=>?_⟩,I.loc,I.cell,?_,λ y c q=>?_,λ p hp'=>?_,λ b u q=>?_,I.len⟩
 ·rw [zwa (λ z=>hx (by subst z;exact hn o q))];exact I.base.free b o q n hx
 ·have:=I.base.tups b xs q;rw [zwa (ne b _ this)];exact this
 ·have:=I.base.frzs b o u q;rw [zwa (ne b _ this)];exact this
 ·obtain ⟨m,q'⟩:=I.base.tbls b ps q;exact ⟨m,by rw [zwa (ne b _ q')];exact q'⟩
 ·rw [zwa (Ne.symm n1)];exact I.free
 ·rw [zwa (n2 y c q)];exact I.freeC y c q
 ·obtain ⟨a,b,c⟩:=I.pin p hp'
  exact ⟨a,by rw [zwa (hp p hp')];exact b,c⟩
 ·by_cases hb:b=x
  ·subst hb
   rw [upd_same] at q
   cases q
   refine ⟨⟨oe,e,ec,ed,?_⟩,⟨oe,e⟩,λ h1 h2 ⟨o,a1,a2⟩ k=>⟨o,k o a1,a2⟩⟩
   unfold W.notCls
   rw [d]
  ·rw [zwa hb] at q
   exact (I.hok b u q).stay (λ _ _ _ z=>z) (λ c z=>by rw [zwa (ne c _ z)];exact z) λ c xs z=>by rw [zwa (ne c _ z)];exact z
theorem Inv.goes {i:Nat} {n:Str} {h':Heap} {t':Nat} {v:Option Value} {m:Str→Option Value} (I:Inv X pins σ H s) (hN:X.N.Nodup) (hi:X.N[i]? = some n) (hm:s.heap.Ns X.env.locals m)
  (hl:∀ (j:Nat) (y:Str) (u:V),X.N[j]? = some y→σ[j]? = some (some u)→Vis X.env.scope y→∃ w,RelV u w∧Look X.env s.heap m y w)
  (hn:h'.Ns X.env.locals (λ y=>if y=n then v else m y)) (hs:Heap.SameBut X.env.locals s.heap h'):Inv X pins (σ.set i none) H { s with heap:=h',toks:=t' }:=by
 have neL:∀ b o,X.s₀.heap.get? b=some o→b≠X.env.locals:=λ b o e=>Nat.ne_of_lt (Nat.lt_of_lt_of_le (Heap.lt_size e) I.ok.above)
 have cl:∀ y c,X.env.cells.lookup y=some c→∀ w,s.heap.IsCell c w→h'.IsCell c w:=λ y c e w z=>z.sameBut hs (I.cne y c e)
 refine ⟨I.ok,I.os,I.bare,⟨λ b o e k hb hx=>(hs.2 b (neL b o e)).trans (I.base.keep b o e k hb hx),λ b o e k hb hx=>?_,I.base.free,λ b o e hx=>?_,I.base.tups,I.base.frzs,I.base.tbls⟩,⟨_,hn,λ j y u e1 e2 e3=>?_⟩,λ y c e=>?_,I.free,I.freeC,λ p hp=>?_,λ b u e=>?_,by rw [List.length_set];exact I.len⟩
 ·obtain ⟨sl,q⟩:=I.base.slot b o e k hb hx;exact ⟨sl,(hs.2 b (neL b o e)).trans q⟩
 ·obtain ⟨o',q⟩:=I.base.there b o e hx;exact ⟨o',(hs.2 b (neL b o e)).trans q⟩
 ·by_cases hj:j=i
  ·subst hj
   rw [List.getElem?_set] at e2
   simp at e2
  ·rw [List.getElem?_set_ne (Ne.symm hj)] at e2
   obtain ⟨w,r,q⟩:=hl j y u e1 e2 e3
   refine ⟨w,r,?_⟩
   rcases q with ⟨k,e⟩ | ⟨k,c,e,z⟩
   ·have ny:y≠n:=λ z=>hj (zyf hN e1 (by rw [z];exact hi))
    exact .inl ⟨k,by simp only [if_neg ny];exact e⟩
   ·exact .inr ⟨k,c,e,cl y c e _ z⟩
 ·obtain ⟨w,z⟩:=I.cell y c e;exact ⟨w,cl y c e w z⟩
 ·obtain ⟨e,k,ne,nf,d⟩:=I.pin p hp
  exact ⟨(hs.2 p.1 ne).trans e,k,ne,nf,d⟩
 ·refine (I.hok b u e).stay (λ c w hc q=>(hs.2 c ?_).trans q) (λ _ q=>q) λ _ _ q=>q
  rintro rfl
  rcases hc with rfl | hc
  ·rw [I.free] at e;cases e
  ·rw [I.free] at hc;cases hc
theorem zgk {M:Model} {A:Around} {E:Value→Shared→Prop} {K:W.Frag} {oe:Obj} {b:Bool} {Q:Bool→Shared→Prop} (X:K.In s.heap) (xd:XCls K D) (xc:XCls K C) (hs:W.mroIn K C (.ref D)=some b)
  (he:s.heap.get? x=some oe) (hcls:oe.cls = .ref C) (hq:Q b s):wpAny M A (excMatches (.ref x) (.ref D)) Q E s:=by
 obtain ⟨bm,N,nm,q,bs,hdct,sn,sub,ab,col,dd,k0,k1,k2,k3,k5,mN,hD,_,_,T,_⟩:=xd.obj X
 obtain ⟨bm',N',nm',q',bs',hdct',sn',sub',ab',col',dd',l0,l1,l2,l3,l5,mN',hC,_,_,T',hmC⟩:=xc.obj X
 have hcB:(Value.ref D::bm).contains (.type "BaseException")=true:=by rw [List.contains_cons,T.hasType (b:=true) (by decide),Bool.or_true]
 have hcC:=hmC _ _ hs
 have f:=tc_notTuple
 obtain ⟨h,g,d,t,os⟩:=s
 unfold excMatches
 repeat (first | (with_reducible refine wpAny_loadPart_at he ?_;rw [hcls]) | with_reducible refine wpAny_loadPart_at hD ?_ | (with_reducible refine wpAny_isSubtype_exc hD ?_;rw [hcB]) | (with_reducible refine wpAny_isSubtype_exc hC ?_;rw [hcC]) | wp_step)
 cases b <;> (wp_walk;exact hq)
noncomputable def zpi (CX:CXT) (X:Cx) (σ:St) (E:XK):Prop:=∀ (pins:List (Addr×Obj)) (H:Hp) (s:Shared) (e:Value) (s':Shared),Inv X pins σ H s→CX X.stack H s E e s'→X.xe e s'
theorem zdn {CX:CXT} {k:Nat} {f:Addr} {fd:FuncData} {ps:List Str} {sp:Sp} {dvs:List V} {ds:List Value} {E:XK} {y:Str} {p pos:Pos} {e:Expr} {es:List Expr} {t:TA} {σ₀:St}
  (F:FnOk X.prog X.w X.K X.mg X.base CX k f fd ps sp) (hr:Room k X.A) (hg:Gl X y) (hm:X.mg y=some (.ref f)) (hk:W.keepIn X.K (.ref f)=true) (hb:Binds X.K fd ps ds) (hd:Vals dvs ds) (hx:zpi CX X σ₀ E)
  (ha:PA X (e::es) t) (hdb:(y == ("__debug__" : Str))=false:=by decide) (he:starEach (e::es) X.env=(false,eval e X.env)::starEach es X.env:=by rfl) (hpl:(backTo pos (starEach es X.env)).any (·.1)=false:=by rfl) :
  PE X (.Call (.Name y p) (e::es) [] pos) (λ σ H Q=>σ=σ₀∧zlr sp dvs E t σ H Q) := .mk <| by
 rintro pins s σ H Q I ⟨rfl,h⟩
 refine wpAny_Call_Name_kw (zge I hg hm ?_ hdb)
 refine W.callWith_K (h₀:=X.base) I.ok.mod.kin hk (thn (ha pos pins s σ H _ I h) λ us s1 ⟨vs,H1,I1,r,q⟩=>⟨I1.kIn,?_⟩) he hpl
 have r2:Vals (vs++dvs) (us++ds):=r.append hd
 have hl:(us++ds).length=ps.length:=by rw [← r2.length];exact F.len _ _ _ _ q
 refine wpAny_call (codeAny_mono (F.run X.A X.stack s1 H1 ⟨us,[]⟩ (us++ds) (vs++dvs) Q E hr I1.env0 (hb s1 us I1.kIn hl) r2 q) λ r s' hq=>?_)
 cases r with
 | error e=>exact hx pins H1 s1 e s' I1 hq
 | ok fl =>
  cases fl with
  | ret u=>exact I1.after hq
  | next=>exact False.elim hq
  | brk=>exact False.elim hq
  | cont=>exact False.elim hq
noncomputable def tTry (K:W.Frag) (j i:Nat) (D:Addr) (te:XK→TE) (th:TS):TS:=λ Dn σ H=>∃ EX:XK,te EX σ H (λ v H1=>Dn.nx (σ.set j (some v)) H1) ∧
 ∀ (C y:Addr) (H1:Hp),EX (.ref C) none H1→H1 y=none→XCls K C∧W.mroIn K C (.ref D)=some true ∧
  th { nx:=λ σ2 H2=>Dn.nx (σ2.set i none) H2,rt:=λ v H2=>Dn.rt v H2,bk:=λ σ2 H2=>Dn.bk (σ2.set i none) H2,ct:=λ σ2 H2=>Dn.ct (σ2.set i none) H2 } (σ.set i (some (.ref y))) (upd H1 y (excO y C))
theorem zkt {i j:Nat} {n y dn:Str} {e:Expr} {te:XK→TE} {b₀:Stmt} {suite:List Stmt} {th:TS} {p1 p2 p3 p4 pos:Pos} (hN:X.N.Nodup) (xd:XCls X.K D) (hg:Gl X dn) (hm:X.mg dn=some (.ref D)) (tp:X.Top) (hc:X.calm=true)
  (he:∀ σ₀ E' pn' EX,zpi (CX1 X.prog X.w X.base) (X.tryC E' pn') σ₀ EX→PE (X.tryC E' pn') e (λ σ H Q=>σ=σ₀∧te EX σ H Q))
  (hh:∀ x,PSs (X.hand x) (b₀::suite) th) (hj:X.N[j]? = some y:=by rfl) (hi:X.N[i]? = some n:=by rfl) (hy:X.env.scope.names.lookup y=some .local:=by rfl) (hn:X.env.scope.names.lookup n=some .local:=by rfl)
  (hs:swapsWith e (some (.Name y p1)) p2.line X.env=pure false:=by rfl) (hdb:(dn == ("__debug__" : Str))=false:=by decide) :
  PS X (.Try [.Assign [.Name y p1] e p2] [.ExceptHandler (some (.Name dn p3)) (some n) (b₀::suite) p4] [] [] pos) (tTry X.K j i D te th) := .mk <| by
 intro pins s σ H Dn I h
 obtain ⟨EX,hte,hth⟩:=h
 show wpAny (model X.prog X.w) X.A (do standAt pos;tryStmt false (execs [.Assign [.Name y p1] e p2] X.env) [.ExceptHandler (some (.Name dn p3)) (some n) (b₀::suite) p4] (execs [] X.env) [] X.env) (SP X pins Dn) X.xe s
 refine wpAny_bind (wpAny_standAt (wpAny_tryStmt_except ?_))
 generalize hE:(λ (e:Value) (s₁:Shared)=>wpAny (model X.prog X.w) X.A (noteFrame e X.env) (λ _ s₂=>wpAny (model X.prog X.w) X.A (setFlight e none) (λ _ s₃ =>
  wpAny (model X.prog X.w) X.A (handleBy e X.env [.ExceptHandler (some (.Name dn p3)) (some n) (b₀::suite) p4]) (SP X pins Dn) X.xe s₃) X.xe s₂) X.xe s₁)=E'
 have hx:zpi (CX1 X.prog X.w X.base) (X.tryC E' pins) σ EX:=by
  rintro pins' H1 s1 _ s' J1 ⟨x,C,H',rfl,os,bare,un,hok,F,q⟩
  have J:Inv (X.tryC E' pins) [] σ H' s':=(J1.call' (ch:=[]) os un hok bare λ b z=>absurd z (by simp)).nopins
  have F':Fly (X.tryC E' pins).new H' x C s'.heap:=F.imp λ b hb=>zkr J1 hb
  have tp':(X.tryC E' pins).Top:=⟨tp.top⟩
  show E' (.ref x) s'
  rw [← hE]
  refine zag (X:=X.tryC E' pins) J tp' F' λ h1 I1 F1 t1=>?_
  refine zzc (X:=X.tryC E' pins) (A:=X.A) I1 F1 t1 λ h2 I2 F2 t2=>?_
  obtain ⟨xc,hmro,hsuite⟩:=hth C x H' q F2.free
  obtain ⟨oe,vs,a1,a2,a3,a4,_,_⟩:=id F2.ob
  refine wpAny_handleBy_cons (codeAny_handlers_test ?_) (by intro q;cases q)
  refine zge (X:=X.hand x) (I2.ofTry.toHand x) hg hm ?_ hdb
  refine zgk (I2.kIn) xd xc hmro a1 a2 ?_
  refine codeAny_handlers_suite_as ?_
  refine zzc (X:=X.tryC E' pins) (A:=X.A.mark (some (.ref x))) I2 F2 t2 λ h3 I3 F3 _=>?_
  obtain ⟨oe3,vs3,c1,c2,c3,c4,_,_⟩:=id F3.ob
  have I4:Inv (X.hand x) pins σ (upd H' x (excO x C)) { s' with heap:=h3 }:=(I3.ofTry.toHand x).track (λ o e=>F3.new.1 o e) (λ p hp=>F3.new.2 p hp) F3.free ⟨_,_,c1,c2,c3,c4⟩
  refine ztf (X:=X.hand x) (v := .ref x) I4 hN hi (.inl hn) rfl (λ s5 I5=>?_) (.inr hn)
  refine wpAny_mono (hh x pins s5 _ _ _ I5 hsuite) (λ fl s6 q6=>?_) λ _ _ z=>z.elim
  show wpAny (model X.prog X.w) X.A (do bindName X.env n .none;unbindBehindTheSuite X.env n p4) (λ _ s₃=>SP X pins Dn fl s₃) X.xe s6
  have hcls:(X.env.scope.kind == .class || (X.env.scope.kind == .module && X.env.locals != X.env.globals))=false:=by rw [I.ok.kind];rfl
  have go:∀ {σ6:St} {H6:Hp} {R:Unit→Shared→Prop},Inv (X.hand x) pins σ6 H6 s6→(∀ s7,Inv X pins (σ6.set i none) H6 s7→R () s7)→wpAny (model X.prog X.w) X.A (do bindName X.env n .none;unbindBehindTheSuite X.env n p4) R X.xe s6:=fun {σ6 H6 R} I6 k=>by
   have I6':Inv X pins σ6 H6 s6:=I6.ofHand I.ok.hd
   obtain ⟨m,hm6,hl6⟩:=I6'.loc
   exact wpAny_nameGoes_keeps hn hm6 hcls λ h' v a b=>k _ (I6'.goes hN hi hm6 hl6 a b)
  cases fl with
  | next=>obtain ⟨σ6,H6,I6,r6⟩:=q6;exact go I6 λ s7 I7=>⟨_,H6,I7,r6⟩
  | brk=>obtain ⟨σ6,H6,I6,r6⟩:=q6;exact go I6 λ s7 I7=>⟨_,H6,I7,r6⟩
  | cont=>obtain ⟨σ6,H6,I6,r6⟩:=q6;exact go I6 λ s7 I7=>⟨_,H6,I7,r6⟩
  | ret u=>obtain ⟨v,σ6,H6,I6,rv,r6⟩:=q6;exact go I6 λ s7 I7=>⟨v,_,H6,I7,rv,r6⟩
 have B:=zga (zsa (X:=X.tryC E' pins) (i:=j) (pos:=p2) (pos':=p1) hN hj (.inl hy) (he σ E' pins EX hx) hs (.inr hy))
 refine thn (B [] s σ H { nx:=Dn.nx,rt:=λ _ _=>False } (I.toTry E') ⟨rfl,hte⟩) λ fl s1 q1=>?_
 cases fl with
 | next=>obtain ⟨σ1,H1,I1,r1⟩:=q1;exact wpAny_execs_nil ⟨σ1,H1,I1.ofTry,r1⟩
 | brk=>obtain ⟨_,_,_,r1⟩:=q1;exact r1.elim
 | cont=>obtain ⟨_,_,_,r1⟩:=q1;exact r1.elim
 | ret u=>obtain ⟨_,_,_,_,_,r1⟩:=q1;exact r1.elim
end
end L2
namespace L2
open PySem PySem.Spec PyProof.Rows
noncomputable def ExcAt (x C:Addr) (h:Heap):Prop:=∃ o,h.get? x=some o∧o.cls = .ref C∧o.dict=none∧W.notCls o=true
theorem ExcAt.inst {x C:Addr} {h:Heap} (p:ExcAt x C h):∃ ox,W.InstAt h x ox C none:=by
 obtain ⟨o,a,b,c,d⟩:=p
 refine ⟨o,a,b,d,?_⟩
 rw [c]
 trivial
theorem zik {M:Model} {A:Around} {E:Value→Shared→Prop} {s:Shared} {K:W.Frag} {x C:Addr} {ox:Obj} {nameV:Value} {Q:Unit→Shared→Prop} (X:K.In s.heap) (I:W.InstAt s.heap x ox C none)
  (be:W.subIn K (.ref C) (.type "BaseException")=some true) (h:Q () s):wpAny M A (checkBuiltinCall "BaseException.__getattribute__" ⟨[.ref x,nameV],[]⟩) Q E s:=by
 have hk:builtinKind "BaseException.__getattribute__" = some .slot:=by decide +kernel
 have hsplit:splitId "BaseException.__getattribute__" = some ("BaseException", "__getattribute__"):=by decide +kernel
 have ha:=F.args_bexc_ga (.ref x) nameV
 have L0:=I.type (M:=M)
 have L1:=W.looks_subIn (M:=M) X be
 simp only [checkBuiltinCall,hk,hsplit]
 refine wpAny_bind ?_
 unfold isInstance
 refine wpAny_bind (L0.at (L1.at ?_))
 repeat wp_step
 exact h
theorem zwk {prog:Program} {w:World} {A:Around} {E:Value→Shared→Prop} {s:Shared} {K:W.Frag} {x C:Addr} {ox:Obj} {tk:Tok} {P:Fin→Shared→Prop} (X:K.In s.heap) (I:W.InstAt s.heap x ox C none)
  (hf:W.findObj K C none "__class__" = some (.bind (.builtin "getset_descriptor.__get__") (.builtin "object.__class__"))) (mo:W.mroIn K C (.type "object")=some true) (h:P (.done (.ret (.ref C))) s) :
  wpAny (model prog w) A (Builtin.«object.__getattribute__» ⟨[.ref x,.str "__class__" tk],[]⟩) P E s:=by
 have L0:=I.type (M:=model prog w)
 have L1:=W.looks_find (M:=model prog w) X I hf
 refine wpAny_bind (wpAny_pure (wpAny_bind (wpAny_pure (wpAny_bind (L0.at (wpAny_bind (L1.at ?_)))))))
 show wpAny _ _ (holding [Value.builtin "object.__class__"] (call (.builtin "getset_descriptor.__get__") [.builtin "object.__class__",.ref x,.ref C]) >>= ret) _ _ _
 exact wpAny_bind (wpAny_holding (wpAny_call (W.class_get (ox:=ox) (od:=none) X I mo (wpAny_pure h))))
theorem zyj {prog:Program} {w:World} {A:Around} {E:Value→Shared→Prop} {s:Shared} {K:W.Frag} {x C:Addr} {ox:Obj} {Q:Option Value→Shared→Prop} (xc:XCls K C) (X:K.In s.heap) (I:W.InstAt s.heap x ox C none)
  (h:Q (some (.ref C)) { s with toks:=s.toks+1 }):wpAny (model prog w) A (getAttr? (.ref x) "__class__") Q E s:=by
 have hf:W.findObj K C none "__class__" = some (.bind (.builtin "getset_descriptor.__get__") (.builtin "object.__class__")):=by
  obtain ⟨cd,hc,_⟩:=W.any_some xc.hd
  unfold W.findObj
  rw [hc,Option.bind_some,xc.ca,Option.bind_some]
  simp only [xc.gs,xc.tk,Option.bind_some]
 obtain ⟨hh,g,d,t,os⟩:=s
 have L0:=I.type (M:=model prog w)
 have L1:=W.looks_findIn (M:=model prog w) X xc.ga
 have L2:=W.looks_findIn (M:=model prog w) X xc.gn
 have f3:=F.attr_ValueError.ga.bind (.ref x)
 unfold getAttr? getAttrBy? getAttrBy
 refine wpAny_bind (wpAny_mkText (wpAny_bind (wpAny_attempt (wpAny_holding (wpAny_bind (L0.at (wpAny_bind (L1.at ?_))))))))
 show wpAny _ _ (getAttrByItsOwn _ _ _ _ _ _) _ _ _
 unfold getAttrByItsOwn
 refine wpAny_bind ?_
 show wpAny _ _ (typeLookup (.ref C) "__getattr__") _ _ _
 refine L2.at (wpAny_bind (wpAny_attempt (wpAny_holding ?_)))
 show wpAny _ _ (boundAndCalled _ _ _) _ _ _
 unfold boundAndCalled
 rw [f3]
 refine wpAny_bind (wpAny_pure ?_)
 exact wpAny_call (codeAny_call_builtin F.attr_ValueError.ga.plain F.entry_bexc_ga (zik (s:=⟨hh,g,d,t+1,os⟩) X I xc.be (zwk (s:=⟨hh,g,d,t+1,os⟩) X I hf xc.mo (W.handed_on rfl (wpAny_pure h)))))
theorem zcj {K:W.Frag} {x C:Addr} (xc:XCls K C):W.KitX K (.ref x) (.ref C) (ExcAt x C) where
 ty:=λ _ _ _ p=>let ⟨_,I⟩:=p.inst;I.type
 it:=λ M h X _=>by
  obtain ⟨cdD,hcD,_⟩:=W.any_some xc.hd
  unfold W.clsIn at hcD
  split at hcD
  ·rename_i c' d' cd' sl' ho
   intro A' Q' E' s' k q
   unfold isType loadHead
   exact wpAny_bind (wpAny_loadPart (k _ _ (X _ _ ho)) (wpAny_pure q))
  ·cases hcD
 ne:=λ h tp dd its n sl X htp=>by
  obtain ⟨cdD,hcD,_⟩:=W.any_some xc.hd
  refine Bool.eq_false_iff.mpr λ q=>?_
  have e:C=tp:=Value.ref.inj (beq_iff_eq.mp q)
  subst e
  unfold W.clsIn at hcD
  split at hcD
  ·rename_i c' d' cd' sl' ho
   cases (X _ _ ho).symm.trans htp
  ·cases hcD
 ca:=fun {prog w A E Q s} X p h=>by
  obtain ⟨ox,I⟩:=p.inst
  exact zyj xc X I h
noncomputable def clsV:V→Option Value
 | .ref a=>some (.ref a)
 | .ty n=>some (.type n)
 | _=>none
theorem zdi {v:V} {u c:Value} (r:RelV v u) (e:clsV v=some c):u=c:=by
 cases v with
 | ref a=>cases e;exact r
 | ty n=>cases e;exact r
 | _=>cases e
section
variable {X:Cx}
theorem zlf:zmi X (.builtin "isinstance") (λ xs H Q=>∃ x C v c b,xs=[.ref x,v]∧H x=some (excO x C)∧XCls X.K C∧clsV v=some c∧W.kitOne X.K (.ref C) c=some b∧Q (.bl b) H):=by
 intro pins s σ H xs us Q I rv h
 obtain ⟨x,C,v,c,b,rfl,hx,xc,hv,hk,q⟩:=h
 obtain ⟨u,u',rfl,ru,rv'⟩:=rv.two
 cases (show u=Value.ref x from ru)
 have e:=zdi rv' hv
 subst e
 have p:ExcAt x C s.heap:=(show ObjOk X.prog X.w H s.heap x (excO x C) from I.hok x _ hx).1
 exact W.kia_one (zcj xc) I.kIn p hk (λ z=>nomatch z) λ tk=>⟨.bl b,H,I.tok tk,rfl,q⟩
theorem zni:∀ {vs:List V} {cs us:List Value},vs.map clsV=cs.map some→Vals vs us→us=cs
 | [],cs,us,e,r=>by
  cases r
  cases cs with
  | nil=>rfl
  | cons c cs=>cases e
 | v::vs,cs,us,e,r=>by
  cases r with
  | cons h t =>
   cases cs with
   | nil=>cases e
   | cons c cs =>
    simp only [List.map_cons,List.cons.injEq] at e
    rw [zdi h e.1,zni e.2 t]
theorem zih:zmi X (.builtin "isinstance") (λ xs H Q=>∃ x C tp vs cs b,xs=[.ref x,.ref tp]∧H x=some (excO x C)∧XCls X.K C∧H tp=some (.tup vs)∧vs.map clsV=cs.map some∧W.kitAny X.K (.ref C) cs=some b∧Q (.bl b) H):=by
 intro pins s σ H xs us Q I rv h
 obtain ⟨x,C,tp,vs,cs,b,rfl,hx,xc,ht,hv,hk,q⟩:=h
 obtain ⟨u,u',rfl,ru,rv'⟩:=rv.two
 cases (show u=Value.ref x from ru)
 cases (show u'=Value.ref tp from rv')
 have p:ExcAt x C s.heap:=(show ObjOk X.prog X.w H s.heap x (excO x C) from I.hok x _ hx).1
 obtain ⟨_,its,r,o,e,ec,n,ed⟩:=(show ObjOk X.prog X.w H s.heap tp (.tup vs) from I.hok tp _ ht)
 have ei:=zni hv r
 subst ei
 obtain ⟨c,d,dt,sl⟩:=o
 dsimp only at ec ed
 subst ec ed
 exact W.kia_tup (zcj xc) I.kIn p e hk (λ z=>nomatch z) λ tk=>⟨.bl b,H,I.tok tk,rfl,q⟩
end
section
variable {X:Cx}
theorem zxi {pins:List (Addr×Obj)} {σ:St} {s3:Shared} {H3:Hp} {fp:List Addr} {scope:Scope} {N':List Str} {E:XK} {Q:VK} {D:Addr} (I3:Inv X pins σ H3 s3) (hf:∀ b∈fp,FpOk X pins H3 b) (tp:X.Top) (W:Wants X E) :
  Wants (X.comp scope s3.heap.objs.size s3 H3 fp N' (notedBy (model X.prog X.w) X.A (compEnvC scope (clOf scope X.env) s3.heap.objs.size X.env) λ e s'=>compPost (model X.prog X.w) X.A X.xe none (EP X pins σ Q) (.ref D) s3.heap.objs.size (.error e) s')) E:=by
 intro σ' H' s' x C I F q
 obtain ⟨E',hE⟩:∃ E',E'=(notedBy (model X.prog X.w) X.A (compEnvC scope (clOf scope X.env) s3.heap.objs.size X.env) λ e s'=>compPost (model X.prog X.w) X.A X.xe none (EP X pins σ Q) (.ref D) s3.heap.objs.size (.error e) s'):=⟨_,rfl⟩
 rw [← hE] at I F
 have tp':(X.comp scope s3.heap.objs.size s3 H3 fp N' E').Top:=by
  obtain ⟨env,outer,L,a,b,c⟩:=tp.top
  exact ⟨env,outer,L,a,b,c⟩
 show (notedBy (model X.prog X.w) X.A (compEnvC scope (clOf scope X.env) s3.heap.objs.size X.env) λ e s'=>compPost (model X.prog X.w) X.A X.xe none (EP X pins σ Q) (.ref D) s3.heap.objs.size (.error e) s') (.ref x) s'
 refine zag (X:=X.comp scope s3.heap.objs.size s3 H3 fp N' E') I tp' F λ h1 I1 F1 t1=>?_
 obtain ⟨m,hn,_⟩:=I1.loc
 refine ⟨m,hn,λ h2 hs cenv hc=>?_⟩
 have new:∀ b,(X.comp scope s3.heap.objs.size s3 H3 fp N' E').new b→X.new b:=λ b hb=>by
  refine ⟨λ o e=>?_,λ p hp z=>?_⟩
  ·by_cases hx:b∈X.ex
   ·exact hx
   ·obtain ⟨o',q'⟩:=I3.base.there b o e hx
    rcases (hf b (hb.1 o' q')).2.2.2.1 with z | z
    ·exact z
    ·exact absurd (Nat.lt_of_lt_of_le (Heap.lt_size e) z) (Nat.lt_irrefl _)
  ·have e:=(I3.pin p (List.mem_append_left _ hp)).1
   rw [z] at e
   exact (hf b (hb.1 _ e)).2.2.2.2.2 p (List.mem_append_left _ hp) z
 have J1:Inv X pins σ H' { s' with heap:=h1 }:=zog I3 hf I1
 have xC:∀ (b:Addr) (o:Obj) (vs:Array Value),h1.get? b=some o→o.data = .fields vs→b≠s3.heap.objs.size:=λ b o vs e d=>(I1.fieldsNe (show ({ s' with heap:=h1 }:Shared).heap.get? b=some o from e) d).1
 have J2:Inv X [] σ H' { s' with heap:=h2 }:=by
  refine (J1.turnedL (ch:=[s3.heap.objs.size]) (t':=s'.toks) (λ b hb'=>?_) λ b u hb' e=>(hs.2 b λ z=>hb' (by simp [z])).trans e).nopins
  have eb:b=s3.heap.objs.size:=by simpa using hb'
  subst eb
  exact I3.fpOk (Nat.le_refl _) I1.free
 have F2:Fly X.new H' x C h2:=by
  obtain ⟨⟨oe,vs,a1,a2,a3,a4,a5,a6⟩,b,c⟩:=F1.imp new
  refine ⟨⟨oe,vs,(hs.2 x (xC x oe vs a1 a4)).trans a1,a2,a3,a4,a5,a6.imp id ?_⟩,b,c⟩
  rintro ⟨T,oT,ts,t1,t2,t3,t4,t5⟩
  exact ⟨T,oT,ts,t1,t2,(hs.2 T (xC T oT ts t3 t4)).trans t3,t4,t5⟩
 obtain ⟨oe,vs,T,e1,d1,v1⟩:=t1
 have e2:h2.get? x=some oe:=(hs.2 x (xC x oe vs e1 d1)).trans e1
 unfold PySem.passOn
 refine wpAny_bind (wpAny_field e2 d1 v1 ?_)
 rw [if_neg (by simp)]
 refine wpAny_bind (zzc (X:=X) (s:={ s' with heap:=h2 }) J2 F2 ⟨_,_,_,e2,d1,v1⟩ λ h3 J3 F3 _=>?_)
 exact wpAny_throw (W σ H' _ x C J3 F3 q)
theorem zvf {elt tg iter:Expr} {ifs:List Expr} {scope:Scope} {pos:Pos} {wi:TI} {g:TG} {ti:TT} {te:TE} (E:XK) (N':List Str) (nt:Nat) (cap:List Nat) (W:Wants X E) (tp:X.Top)
  (hc:X.calm=true) (hi:PI X tg iter wi) (hgk:zoi nt g)
  (hg:∀ C s₀ H₀ fp E',PG (X.comp scope C s₀ H₀ fp N' E') tg g)
  (hif:∀ C s₀ H₀ fp E',PIf (X.comp scope C s₀ H₀ fp N' E') ifs ti)
  (he:∀ C s₀ H₀ fp E',Wants (X.comp scope C s₀ H₀ fp N' E') E→PE (X.comp scope C s₀ H₀ fp N' E') elt te)
  (hk:scope.kind = .function:=by rfl) (hb:zee scope X.env=true:=by rfl) (hcap:zon X scope N' nt cap=true:=by rfl)
  (hs:∀ x,foldedSetIterable iter X.env x=pure x:=by intro _;rfl):PE X (.ListComp elt [⟨tg,iter,ifs,0⟩] scope pos) (zus wi nt cap g ti te) :=
 zlg (λ C s₀ H₀ fp E'=>Wants (X.comp scope C s₀ H₀ fp N' E') E) (λ pins σ s3 H3 fp Q D I hf=>zxi I hf tp W) hc hi (λ C s₀ H₀ fp E' _=>hg C s₀ H₀ fp E') (λ C s₀ H₀ fp E' _=>hif C s₀ H₀ fp E') (λ C s₀ H₀ fp E' w=>he C s₀ H₀ fp E' w) hk hb hcap hgk hs
end
theorem zgm {l:W.OpenLaw} {n k:Nat} {q:Program} {loose:List Str} {XP:(Str→Option Value)→Heap→Prop} {YP:World→Heap→Prop} {d:DefRec} {K:Params→W.Frag} {sp:World→Sp} {x:Str}
  (hn:l.most=some n) (hn2:n≤sizeLine) (hdf:d.params.defaults=[]) (hr:Room k callerA) (hY:∀ (w:World) (h:Heap),YP w h→(K w.params).In h)
  (F:∀ (w:World) (mg:Str→Option Value) (fa:Addr) (h:Heap),(K w.params).In h→h.Ns mainGlobals mg→mg d.name=some (.ref fa) →
   ∃ fd:FuncData,(∀ (s:Shared) (u:Value),BindsTo s fd ⟨[u],[]⟩ [(x,u)])∧∀ base:Heap,(K w.params).In base→base.Ns mainGlobals mg→FnOk l.prog w (K w.params) mg base (CX1 l.prog w base) k fa fd [x] (sp w))
  (hsp:∀ (w:World) (H:Hp) (a:Addr) (ns:List Int),ns.length≤n→Only H→SqL (K w.params) H a (ns.map V.int)→sp w [.ref a] H (λ v _=>v = .bl true) λ _ _ _=>False) :
  W.WalkO q loose XP YP l.row.toRowW d [] (λ f vs=>PySem.call f vs):=by
 refine walk_of (x:=x) (K:=K) (CX:=λ _ _ _ _ _ _ _=>False) (sp:=λ w vs H Q E=>sp w vs H Q λ _ _ _=>False) hn hn2 hdf hr hY (λ w mg fa h a b c=>?_) (λ w H a ns h1 h2 h3=>hsp w H a ns h1 h2 h3) λ _ _ _ _ _ z=>z
 obtain ⟨fd,hb,hF⟩:=F w mg fa h a b c
 refine ⟨fd,hb,λ base h1 h2=>?_⟩
 have G:=hF base h1 h2
 refine ⟨λ vs H Q E h=>G.len vs H Q _ h,λ A outer s H args us vs Q E hr he hbi hv h=>codeAny_mono (G.run A outer s H args us vs Q _ hr he hbi hv h) λ r s' z=>?_⟩
 cases r with
 | error e=>obtain ⟨_,_,_,_,_,_,_,_,_,z⟩:=z;exact z
 | ok fl=>cases fl <;> exact z
end L2
namespace L2
open PySem PySem.Spec PyProof.Rows PySem.NumText
section
variable {P:Program} {w:World} {K:W.Frag} {mg:Str→Option Value} {base:Heap} {CX:CXT} {k:Nat} {f:Addr} {fd:FuncData} {ps:List Str}
end
theorem zpj (lo hi:Option Int) (n:Nat):Builtin.Str.strSliceIndices lo hi 1 n=sliceRange ((HT.sIx n 0 lo:Nat):Int) ((HT.sIx n n hi:Nat):Int) 1:=by
 unfold Builtin.Str.strSliceIndices
 simp only [show (1:Int) > 0 by decide,if_true]
 congr 1
 ·cases lo with
  | none=>rfl
  | some i=>simp only [HT.sIx];by_cases h:i<0 <;> simp only [h,if_true,if_false] <;> omega
 ·cases hi with
  | none=>rfl
  | some i=>simp only [HT.sIx];by_cases h:i<0 <;> simp only [h,if_true,if_false] <;> omega
theorem znd (x:Str) (lo hi:Option Int):(Txt.slice x lo hi).cps.toList=(x.cps.toList.drop (HT.sIx x.length 0 lo)).take (HT.sIx x.length x.length hi - HT.sIx x.length 0 lo):=by
 have hl:x.cps.toList.length=x.length:=Array.length_toList
 unfold Txt.slice
 rw [zpj,sliceRange_one,pick_run]
 split
 ·rename_i h
  simp only [List.length_map,List.length_range,Bool.and_eq_true,beq_iff_eq] at h
  have h1:=HT.sIx_le x.length x.length (Nat.le_refl _) hi
  have h2:HT.sIx x.length x.length hi - HT.sIx x.length 0 lo=x.length:=h.2
  rw [h2]
  rcases Nat.eq_zero_or_pos x.length with e | e
  ·have:x.cps.toList=[]:=by rw [← List.length_eq_zero_iff,hl];exact e
   rw [this]
   simp
  ·have h3:HT.sIx x.length 0 lo=0:=by omega
   rw [h3,List.drop_zero,List.take_of_length_le (by omega)]
 ·rfl
theorem zjb (a b:Str):V.str a=V.str b↔a.cps.toList=b.cps.toList:=⟨λ h=>by cases h;rfl,λ h=>by rw [ext_toList h]⟩
theorem zpf (x:Str):(Txt.slice x (some 1) none).cps.toList=x.cps.toList.tail:=by
 rw [znd]
 have hl:x.cps.toList.length=x.length:=Array.length_toList
 simp only [HT.sIx]
 cases e:x.cps.toList with
 | nil=>simp
 | cons c cs =>
  rw [e] at hl
  simp only [List.length_cons] at hl
  have:min (Int.toNat 1) x.length=1:=by simp;omega
  simp only [show ¬ ((1:Int)<0) by decide,if_false,this,List.drop_succ_cons,List.drop_zero,List.tail_cons]
  rw [List.take_of_length_le (by omega)]
theorem zid (x:Str):Txt.startswith x "-" = decide (x.cps.toList.head? = some 45):=by
 unfold Txt.startswith Builtin.Str.subAt
 have e1:("-" : Str).cps = #[45]:=rfl
 have e2:("-" : Str).length=1:=rfl
 rw [e1,e2]
 cases x with
 | mk a =>
  cases a with
  | mk l =>
   cases l with
   | nil=>rfl
   | cons c cs =>
    have h:((List.toArray (c::cs)).extract 0 (0+1) == #[45])=decide (c=45):=by
     have:(List.toArray (c::cs)).extract 0 (0+1) = #[c]:=by simp
     rw [this]
     by_cases hc:c=45
     ·subst hc;rfl
     ·rw [decide_eq_false hc]
      simp [hc]
    rw [h]
    simp [Str.length]
theorem zgg {x:Str} {c:Nat} {cs:List Nat} (h:x.cps.toList=c::cs):atI x.cps.toList 0=some c:=by
 have:=zpg (xs:=x.cps.toList) (j:=0) (v:=c) (by rw [h];rfl)
 simpa using this
noncomputable abbrev DIG:Str := "0123456789"
noncomputable def zhf (c:Nat):Bool:=decide (48≤c) && decide (c≤57)
theorem zxo (c:Nat):decide (c∈DIG.cps.toList)=zhf c:=by
 have e:DIG.cps.toList=[48,49,50,51,52,53,54,55,56,57]:=by decide +kernel
 rw [e]
 unfold zhf
 rw [← Bool.decide_and,decide_eq_decide]
 simp only [List.mem_cons,List.not_mem_nil,or_false]
 omega
theorem zso (c:Nat):(!(Builtin.Str.occurrences DIG ⟨#[c]⟩ 0 DIG.length 1).isEmpty)=zhf c:=by rw [PySem.StrLaws.found_one,zxo]
theorem zif (cs:List Nat):cs.all zhf=true↔AllDigits cs:=by
 rw [List.all_eq_true]
 refine forall_congr' λ c=>imp_congr Iff.rfl ?_
 unfold zhf
 simp
noncomputable def zbc (cs:List Nat):Option Int :=
 if cs.head? = some 45 then
  (if cs.tail.length<1 ∨ 30<cs.tail.length ∨ cs.tail.all zhf=false ∨ cs.tail.head? = some 48 then none else some (-((digitsVal cs.tail:Nat):Int)))
 else (if cs.length<1 ∨ 30<cs.length ∨ cs.all zhf=false ∨ (cs.head? = some 48∧1<cs.length) then none else some ((digitsVal cs:Nat):Int))
section
variable {X:Cx}
noncomputable def zlo:V→List V→Hp→VK→Prop:=λ x xs H Q=>∃ z y,x = .str z∧xs=[.str y]∧Q (.bl (Txt.startswith z y)) H
theorem zfc:MtR X "str.startswith" zlo:=by
 intro pins s σ H x xs v us Q I rx rv h
 obtain ⟨z,y,rfl,rfl,q⟩:=h
 obtain ⟨t,rfl⟩:=rx
 obtain ⟨u,rfl,ru⟩:=rv.one
 obtain ⟨t',rfl⟩:=ru
 exact SC.startswith ⟨.bl _,H,I,rfl,q⟩
theorem zvd:zmi X (.type "int") (λ xs H Q=>∃ z n,xs=[.str z]∧z.length≤640∧PySem.intText? z=some n∧Q (.int n) H):=by
 intro pins s σ H xs us Q I rv h
 obtain ⟨z,n,rfl,hl,hn,q⟩:=h
 obtain ⟨u,rfl,ru⟩:=rv.one
 obtain ⟨t,rfl⟩:=ru
 exact W.KIN.call_text hn hl ⟨.int _,H,I.tok _,⟨_,rfl⟩,q⟩
end
theorem log2_lt {i:Int} {k:Nat} (h:i.natAbs<2 ^ k) (hk:0<k):i.natAbs.log2<k:=by
 rcases Nat.eq_zero_or_pos i.natAbs with e | e
 ·rw [e];simpa using hk
 ·exact (Nat.log2_lt (by omega)).mpr h
theorem zil {i:Int} {k:Nat} (hk:0<k) (h:i.natAbs<10 ^ k):(Str.ofString (toString i)).length≤k+1:=by
 have:=int_text_length_le10 hk h
 have e:(Str.ofString (toString i)).length=(toString i).length:=PySem.ofString_length _
 omega
theorem ziv {i:Int} (h1 : -(10 ^ 40)<i) (h2:i<10 ^ 40):i.natAbs<10 ^ 40:=by omega
theorem zcp {i:Int} (h1 : -(10 ^ 40)<i) (h2:i<10 ^ 40):i.natAbs.log2<1920:=log2_lt (Nat.lt_trans (ziv h1 h2) (Nat.lt_of_lt_of_le (show (10:Nat) ^ 40<2 ^ 200 by decide) (Nat.pow_le_pow_right (by decide) (by decide)))) (by decide)
theorem zml {α:Type} {xs:List α} {i:Int} (h0:0≤i) (h1:i<xs.length):∃ v,atI xs i=some v∧v∈xs:=by
 obtain ⟨j,rfl⟩:∃ j:Nat,i=j:=⟨i.toNat,by omega⟩
 have hj:j<xs.length:=by omega
 exact ⟨xs[j],zpg (by simp [List.getElem?_eq_getElem hj]),List.getElem_mem hj⟩
end L2
namespace L2
open PySem PySem.Spec PyProof.Rows PySem.NumText
theorem zqg:∀ {l:List (Str×Tok)} {ys:List Str},l.map (·.1)=ys→Vals (ys.map V.str) (strValues l):=by
 intro l
 induction l with
 | nil=>intro ys e;cases e;exact .nil
 | cons p l ih=>intro ys e;cases e;exact .cons ⟨p.2,rfl⟩ (ih rfl)
open Builtin.Str in
theorem ztj {prog:Program} {w:World} {A:Around} {E:Value→Shared→Prop} {s:Shared} {x y:Str} {t u:Tok} {Q:Value→Shared→Prop} (hy:(y.length == 0)=false)
  (hq:∀ l tk,l.map (·.1)=Txt.split x y→Q (.ref s.heap.objs.size) { s with heap:=s.heap.push { cls := .type "list",data := .seq (strValues l).toArray },toks:=tk })
  (hsz:x.length≤sizeLine) (hsz2:(partsBetween x (occurrences x y 0 x.length (x.length+1)) y.length).length≤sizeLine) :
  wpAny (model prog w) A (call (.builtin "str.split") [.str x t,.str y u]) Q E s:=by
 cases h1:(decide (x.length<y.length) || decide (strKind x<strKind y))
 ·cases hf:(occurrences x y 0 x.length (x.length+1)).isEmpty
  ·refine call_meets F.slot_str_split (typeIs_str _ _ _) F.entry_str_split (F.args_str_split_2 _ _) (meets_str_split_sep x y t u h1 hy hf hsz hsz2) ?_
   show wants Q E _ { s with toks:=_,heap:=s.heap.push { cls := .type "list",data := .seq (strsFrom s.toks (partsBetween x (occurrences x y 0 x.length (x.length+1)) y.length)).toArray } }
   rw [strsFrom_eq]
   exact hq (numbered s.toks _) _ ((numbered_texts _ _).trans ((if_neg (ne_true_of_eq_false h1)).trans (if_neg (ne_true_of_eq_false hf))).symm)
  ·exact call_meets F.slot_str_split (typeIs_str _ _ _) F.entry_str_split (F.args_str_split_2 _ _) (meets_str_split_not_found x y t u h1 hy hf)
    (hq [(x,t)] _ ((if_neg (ne_true_of_eq_false h1)).trans (if_pos hf)).symm)
 ·exact call_meets F.slot_str_split (typeIs_str _ _ _) F.entry_str_split (F.args_str_split_2 _ _) (meets_str_split_cannot_occur x y t u h1)
   (hq [(x,t)] _ (if_pos h1).symm)
section
variable {X:Cx}
noncomputable def zur:V→List V→Hp→VK→Prop:=λ x xs H Q=>∃ z y,x = .str z∧xs=[.str y]∧(y.length == 0)=false∧z.length≤10000∧∀ l,H l=none→Q (.ref l) (upd H l (.lst ((Txt.split z y).map V.str)))
theorem zod:MtR X "str.split" zur:=by
 intro pins s σ H x xs v us Q I rx rv h
 obtain ⟨z,y,rfl,rfl,hy,hz,q⟩:=h
 obtain ⟨t,rfl⟩:=rx
 obtain ⟨u,rfl,ru⟩:=rv.one
 obtain ⟨t',rfl⟩:=ru
 have hl:(10000:Nat)+2≤sizeLine:=by rw [sizeLine_eq];decide
 refine ztj hy (λ l tk e=>?_) (by omega) ?_
 ·refine ⟨.ref s.heap.objs.size,_,I.laid (t':=tk) (o := .lst ((Txt.split z y).map V.str)) (λ b ob q=>Heap.get?_push_of_some _ q) (Nat.le_refl _) ?_,rfl,q _ (I.hok.fresh (Nat.le_refl _))⟩
  refine ⟨?_,_,0,zqg e,Heap.get?_push_size _ rfl⟩
  have:=split_le z y
  rw [List.length_map]
  omega
 ·rw [len_partsBetween]
  have:=StrLaws.occ_length_le z y 0 z.length (z.length+1)
  omega
noncomputable def gLst (K:W.Frag) (n:Nat) (t:TGs):TG:=λ v σ H Q=>∃ a xs,v = .ref a∧SqL K H a xs∧xs.length=n∧t xs σ H Q
theorem zzp {pos:Pos} {es:List Expr} {k:Nat} {t:TGs} {n:Nat} (hc:X.calm=true) (h:PGs X es t)
  (hn:(assignEach es X.env).length=n:=by rfl) (hst:(assignEach es X.env).findIdx? (·.1)=none:=by rfl):PG X (.Tuple es k pos) (gLst X.K n t) := .mk <| by
 intro pins s σ H v u Q I r hw
 obtain ⟨a,xs,e1,hq,hl,hw⟩:=hw
 subst e1
 cases r
 obtain ⟨its,rv,ht,hz⟩:=I.list hq
 rw [assign_Tuple]
 refine wpAny_bind (wpAny_standAt ?_)
 unfold unpack
 have hn':(assignEach es X.env).length=its.toArray.size:=by simp [hn,← hl,rv.length]
 rw [hn',hst]
 refine wpAny_bind (wpAny_holding (W.kun_itemsOf (I.ok.hd hc) ht.isList λ h' hx=>?_))
 have I1:Inv X pins σ H { s with heap:=h' }:=I.kept (t':=s.toks) λ b o e=>hx b o (Nat.ne_of_lt (Heap.lt_size e)) e
 exact h pins _ σ H xs _ Q I1 (by simpa using rv) hw
end
theorem Same.seqT {K:W.Frag} {H H':Hp} {a:Addr} {xs:List V} (e:Same H H') (h:SqT K H a xs):SqT K H' a xs:=by
 rcases h with h | h
 ·rcases h with h | ⟨o,h⟩
  ·exact .inl (.inl (e _ _ h))
  ·exact .inl (.inr ⟨o,e _ _ h⟩)
 ·exact .inr h
theorem zbi {J:It} {n:Nat} {nt:Nat} {cap:List Nat} {g:TG} {te:TE} {σ:St} {H1:Hp} {Q:VK} {D:Addr} (val:Nat→V) (R:Nat→V→Hp→Prop) (hD:H1 D=none) (hP:Plain H1) (hx:n≤sizeLine)
  (hJ:∀ i H2,Same H1 H2→(i<n→J.go i H2)∧(J.stop n H2)∧∀ x H3,i<n→J.yld i H2 x H3→H3=H2∧x=val i)
  (mono:∀ i y H H',R i y H→(∀ b o,b≠D→H b=some o→H' b=some o)→(∃ zs,H D=some (.lst zs))→R i y H')
  (step:∀ (i:Nat) H2 (T:VK),i<n→Plain H2→Same H1 H2→(∀ y H6,R i y H6→Same H2 H6→Plain H6→T y H6)→g (val i) (List.replicate nt none++caps cap σ) H2 λ σ4 H4=>te σ4 H4 T)
  (fin:∀ ys H2,ys.length=n→(∀ (i:Nat) y,ys[i]? = some y→R i y H2)→H2 D=some (.lst ys)→Same H1 H2→Plain H2→Q (.ref D) H2) :
  zhq J D nt cap g tYes te σ H1 Q:=by
 refine ⟨λ i m ys H2=>m=n - i∧i≤n∧ys.length=i∧H2 D=some (.lst ys)∧Same H1 H2∧Plain H2∧∀ (j:Nat) y,ys[j]? = some y→R j y H2,⟨_,rfl,Nat.zero_le _,rfl,upd_same,zca hD,hP.lst,λ j y e=>by simp at e⟩,?_⟩
 rintro i m ys H2 ⟨rfl,hi,hl,hd,hs,hp,hr⟩
 refine ⟨hd,?_⟩
 obtain ⟨j1,j2,j3⟩:=hJ i H2 hs
 by_cases hlt:i<n
 ·refine .inr ⟨j1 hlt,by omega,λ v H3 hy=>?_⟩
  obtain ⟨rfl,rfl⟩:=j3 v H3 hlt hy
  simp only [tYes,if_true]
  refine step i _ _ hlt hp hs λ y H6 hR hs6 hp6=>⟨hs6 _ _ hd,_,by omega,rfl,hlt,by simp [hl],upd_same,?_,hp6.lst,?_⟩
  ·exact (hs.trans hs6).upd hD
  ·intro j z e
   have up:∀ b o,b≠D→H6 b=some o→(upd H6 D (.lst (ys++[y]))) b=some o:=λ b o hb e=>by rw [zwa hb];exact e
   rcases Nat.lt_or_ge j ys.length with hj | hj
   ·rw [List.getElem?_append_left hj] at e
    refine mono j z H6 _ (mono j z _ H6 (hr j z e) (λ b o _ e=>hs6 b o e) ⟨_,hd⟩) up ⟨_,hs6 _ _ hd⟩
   ·rw [List.getElem?_append_right hj] at e
    have hj0:j - ys.length=0:=by
     rcases Nat.eq_zero_or_pos (j - ys.length) with h0 | h0
     ·exact h0
     ·rw [List.getElem?_eq_none (by simp;omega)] at e;cases e
    rw [hj0] at e
    simp at e
    subst e
    have:j=i:=by omega
    subst this
    exact mono j y H6 _ hR up ⟨_,hs6 _ _ hd⟩
 ·have e:i=n:=by omega
  subst e
  exact .inl ⟨j2,fin ys H2 hl hr hd hs hp⟩
theorem zkp {K:W.Frag} {a:Addr} {xs:List V} {H1:Hp} (h:SqL K H1 a xs):∀ i H2,Same H1 H2→(i<xs.length→(Itl K a).go i H2)∧((Itl K a).stop xs.length H2)∧∀ x H3,i<xs.length→(Itl K a).yld i H2 x H3→H3=H2∧x=xs.getD i .non:=λ i H2 e=>by
 refine ⟨λ hi=>⟨xs,xs[i],e.seq h,by simp [hi]⟩,⟨xs,e.seq h,Nat.le_refl _⟩,λ x H3 hi y=>⟨y.1,?_⟩⟩
 have:=y.2 xs (e.seq h)
 rw [List.getD_eq_getElem?_getD,this];rfl
mutual
noncomputable def DV (K:W.Frag) (H:Hp):PyData→V→Prop
 | .none,v=>v = .non
 | .bool b,v=>v = .bl b
 | .int i,v=>v = .int i
 | .str x,v=>v = .str x
 | .list xs,v=>∃ a vs,v = .ref a∧SqL K H a vs∧DVs K H xs vs
 | .tuple xs,v=>∃ a vs,v = .ref a∧SqT K H a vs∧DVs K H xs vs
 | .dict _,_=>False
noncomputable def DVs (K:W.Frag) (H:Hp):List PyData→List V→Prop
 | [],vs=>vs=[]
 | d::ds,vs=>∃ v r,vs=v::r∧DV K H d v∧DVs K H ds r
end
mutual
theorem DV.same {K:W.Frag} {H H':Hp} (e:Same H H'):∀ (d:PyData) (v:V),DV K H d v→DV K H' d v
 | .none,v,h=>h
 | .bool b,v,h=>h
 | .int i,v,h=>h
 | .str x,v,h=>h
 | .list xs,v,⟨a,vs,h1,h2,h3⟩=>⟨a,vs,h1,e.seq h2,DVs.same e xs vs h3⟩
 | .tuple xs,v,⟨a,vs,h1,h2,h3⟩=>⟨a,vs,h1,e.seqT h2,DVs.same e xs vs h3⟩
 | .dict _,v,h=>h.elim
theorem DVs.same {K:W.Frag} {H H':Hp} (e:Same H H'):∀ (ds:List PyData) (vs:List V),DVs K H ds vs→DVs K H' ds vs
 | [],vs,h=>h
 | d::ds,vs,⟨v,r,h1,h2,h3⟩=>⟨v,r,h1,DV.same e d v h2,DVs.same e ds r h3⟩
end
section
variable {X:Cx} {pins:List (Addr×Obj)} {σ:St} {H:Hp} {s:Shared}
mutual
theorem DV.reads (I:Inv X pins σ H s):∀ (d:PyData) (v:V) (u:Value),DV X.K H d v→RelV v u→∃ as,Reads s.heap u d as
 | .none,v,u,h,r=>by cases (show v=V.non from h);cases r;exact ⟨_,.none⟩
 | .bool b,v,u,h,r=>by cases (show v=V.bl b from h);cases r;exact ⟨_,.bool b⟩
 | .int i,v,u,h,r=>by cases (show v=V.int i from h);obtain ⟨t,rfl⟩:=r;exact ⟨_,.int i t⟩
 | .str x,v,u,h,r=>by cases (show v=V.str x from h);obtain ⟨t,rfl⟩:=r;exact ⟨_,.str x t⟩
 | .list xs,v,u,h,r=>by
  obtain ⟨a,vs,rfl,h2,h3⟩:=h
  cases r
  obtain ⟨its,rv,pl,_⟩:=I.list h2
  obtain ⟨o,ho,hc,n,hd⟩:=pl.isList
  obtain ⟨as,ra⟩:=DVs.reads I xs vs its h3 rv
  exact ⟨_,.list ho hc hd (by simpa using ra)⟩
 | .tuple xs,v,u,h,r=>by
  obtain ⟨a,vs,rfl,h2,h3⟩:=h
  cases r
  obtain ⟨its,rv,pl,_⟩:=I.tuple h2
  obtain ⟨o,ho,hc,n,hd⟩:=pl
  obtain ⟨as,ra⟩:=DVs.reads I xs vs its h3 rv
  exact ⟨_,.tuple ho hc hd (by simpa using ra)⟩
 | .dict _,v,u,h,r=>h.elim
theorem DVs.reads (I:Inv X pins σ H s):∀ (ds:List PyData) (vs:List V) (us:List Value),DVs X.K H ds vs→Vals vs us→∃ as,ReadsAll s.heap us ds as
 | [],vs,us,h,r=>by cases (show vs=[] from h);cases r;exact ⟨_,.nil⟩
 | d::ds,vs,us,h,r=>by
  obtain ⟨v,rest,rfl,h2,h3⟩:=h
  cases r with
  | cons r rr =>
   obtain ⟨as,ra⟩:=DV.reads I d _ _ h2 r
   obtain ⟨bs,rb⟩:=DVs.reads I ds _ _ h3 rr
   exact ⟨_,.cons ra rb⟩
end
end
section
variable {X:Cx}
noncomputable def rEqD (K:W.Frag):R2:=λ x y H Q=>∃ d e,DV K H d x∧DV K H e y∧SeqAt.shaped d=true∧SeqAt.shaped e=true∧Q (.bl (PyData.eqv d e)) H
theorem zvt (hu:X.A.units+64<cLine):OpR X (compareOp .Eq) (rEqD X.K):=by
 intro pins s σ H x y v u Q I rx ry h
 obtain ⟨d,e,hd,he,sd,se,q⟩:=h
 obtain ⟨as,ra⟩:=DV.reads I d x v hd rx
 obtain ⟨bs,rb⟩:=DV.reads I e y u he ry
 exact SeqAt.compareEq_shaped ra rb sd se hu ⟨.bl _,H,I,rfl,q⟩
end
noncomputable def zfe {α:Type} (Pre:α→List V→Hp→Prop) (Post:α→V→Hp→Prop) (Exc:α→Addr→Prop):Sp:=λ vs H Q E=>Plain H∧∃ a,Pre a vs H∧(∀ v H',Post a v H'→Same H H'→Plain H'→Q v H')∧(∀ C H',Exc a C→Same H H'→Plain H'→E (.ref C) none H')
noncomputable def zbb {α β:Type} (f:α→Option β):List α→Option (List β)
 | []=>some []
 | x::xs=>match f x with
  | none=>none
  | some y=>match zbb f xs with
   | none=>none
   | some ys=>some (y::ys)
theorem zwb {α β:Type} {f:α→Option β}:∀ {xs:List α} {x:α},x∈xs→f x=none→zbb f xs=none:=by
 intro xs
 induction xs with
 | nil=>intro x h;cases h
 | cons a xs ih =>
  intro x h e
  unfold zbb
  rcases List.mem_cons.mp h with rfl | h
  ·rw [e]
  ·rw [ih h e]
   cases f a <;> rfl
theorem zhe {α β:Type} {f:α→Option β}:∀ {xs:List α} {ys:List β},xs.length=ys.length→(∀ (i:Nat) x,xs[i]? = some x→∃ y,ys[i]? = some y∧f x=some y)→zbb f xs=some ys:=by
 intro xs
 induction xs with
 | nil =>
  intro ys hl h
  cases ys with
  | nil=>rfl
  | cons _ _=>simp at hl
 | cons a xs ih =>
  intro ys hl h
  cases ys with
  | nil=>simp at hl
  | cons b ys =>
   obtain ⟨y,e1,e2⟩:=h 0 a rfl
   have e1:b=y:=by simpa using e1
   subst e1
   have:=ih (ys:=ys) (by simpa using hl) λ i x e=>h (i+1) x (by simpa using e)
   unfold zbb
   rw [e2,this]
theorem znk {α:Type} {R:Nat→α→Prop} {f:α→V}:∀ {ys:List V} ,(∀ (i:Nat) y,ys[i]? = some y→∃ x,y=f x∧R i x)→∃ xs:List α,ys=xs.map f∧∀ (i:Nat) x,xs[i]? = some x→R i x:=by
 intro ys
 induction ys generalizing R with
 | nil=>intro _;exact ⟨[],rfl,λ i x e=>by simp at e⟩
 | cons y ys ih =>
  intro h
  obtain ⟨x,e,r⟩:=h 0 y rfl
  obtain ⟨xs,e2,r2⟩:=ih (R:=λ i x=>R (i+1) x) λ i z e=>h (i+1) z (by simpa using e)
  refine ⟨x::xs,by rw [e,e2];rfl,λ i z ez=>?_⟩
  cases i with
  | zero=>simp at ez;subst ez;exact r
  | succ i=>exact r2 i z (by simpa using ez)
end L2
namespace L2
open PySem PySem.Spec PyProof.Rows PySem.NumText
section
variable {X:Cx}
end
end L2
namespace HT
open PySem PySem.Spec PyProof.Rows
section
variable {prog:Program} {w:World} {A:Around} {E:Value→Shared→Prop} {s:Shared}
theorem getItem_tuple_whole {t sl:Addr} {items:Array Value} {vl vu:Value} {lo hi:Option Int} {Q:Value→Shared→Prop} (ht:IsTup s.heap t items) (hs:s.heap.IsSliceOf sl vl vu .none) (pl:IsPart vl lo) (pu:IsPart vu hi)
  (hw:sIx items.size 0 lo=0∧sIx items.size items.size hi=items.size) (h:Q (.ref t) s):wpAny (model prog w) A (getItem (.ref t) (.ref sl)) Q E s:=by
 obtain ⟨os,hos,hcs,hds⟩:=id hs
 have hTs:s.TypeIs (.ref sl) "slice" := ⟨os,hos,hcs⟩
 unfold getItem
 try with_reducible refine wpAny_holding ?_
 first | refine wpAny_bind (wpAny_pure ?_) | skip
 refine wpAny_bind (wpAny_sequenceKey ht.typeIs (by decide) ?_)
 refine wpAny_bind (wpAny_callSpecial?_slot (name:=Str.ofString "__getitem__") ht.typeIs PyProof.Rows.slot_tuple_getitem
  (wpAny_call_entry PyProof.Rows.slot_tuple_getitem ht.typeIs entry_tuple_getitem ?_ (args_tuple_getitem _ _)))
 show wpAny _ _ (Builtin.Tuple.tupleItemsOf (.ref t) >>= _) _ _ s
 refine wpAny_bind (tupleItemsOf_ ht ?_)
 refine wpAny_bind (wpAny_typeOf hTs ?_)
 rw [if_pos (by decide)]
 refine wpAny_bind (zgc hs pl pu ?_)
 have hyes:((((sIx items.size 0 lo:Nat):Int) == 0 && (1:Int) == 1 && (sIx items.size items.size hi - sIx items.size 0 lo) == items.size)=true):=by
  rw [hw.1,hw.2]
  simp
 show wpAny _ _ (if (((sIx items.size 0 lo:Nat):Int) == 0 && (1:Int) == 1 && (sIx items.size items.size hi - sIx items.size 0 lo) == items.size)=true then _ else _) _ _ s
 rw [if_pos hyes]
 refine wpAny_bind ?_
 unfold Builtin.Tuple.tupleIsExact
 refine wpAny_bind (wpAny_typeOf ht.typeIs (wpAny_pure ?_))
 rw [if_pos (by decide)]
 refine wpAny_bind (wpAny_rule ?_)
 refine wpAny_pure ⟨_,rfl,?_⟩
 exact wpAny_pure h
end
end HT
namespace L2
open PySem PySem.Spec PyProof.Rows PySem.NumText
section
variable {X:Cx}
noncomputable def rSlG (K:W.Frag):V→Option Int→Option Int→Hp→VK→Prop:=λ x lo hi H Q=>∃ a xs,x = .ref a∧SqT K H a xs∧∀ p H',SqT K H' p (cutV xs lo hi)→Same H H'→(Plain H→Plain H')→Q (.ref p) H'
theorem ztp:SlR X (rSlG X.K):=by
 intro pins s σ H x v vl vu lo hi sl Q I rx hs pl pu h
 obtain ⟨a,xs,rfl,hx,q⟩:=h
 by_cases hw:HT.sIx xs.length 0 lo=0∧HT.sIx xs.length xs.length hi=xs.length
 ·cases rx
  obtain ⟨its,r,ht,hz⟩:=I.tuple hx
  have hlen:its.toArray.size=xs.length:=by rw [List.size_toArray];exact r.length.symm
  refine ⟨"tuple",_,PyProof.Rows.slot_tuple_getitem.lookup,ht.typeIs,?_⟩
  refine HT.getItem_tuple_whole ht hs pl pu (by rw [hlen];exact hw) ⟨.ref a,H,I,rfl,q _ _ ?_ (Same.refl _) id⟩
  unfold cutV
  rw [hw.1,hw.2]
  simpa using hx
 ·exact zds pins s σ H (.ref a) v vl vu lo hi sl Q I rx hs pl pu ⟨a,xs,rfl,hx,hw,λ p hp=>q _ _ (SqT.of upd_same) (zca hp) λ z=>z.tup⟩
noncomputable def zxu (K:W.Frag):R2:=λ x y H Q=>∃ a b xs ys,x = .ref a∧y = .ref b∧SqT K H a xs∧SqT K H b ys∧xs.length+ys.length≤sizeLine∧∀ p H',SqT K H' p (xs++ys)→Same H H'→(Plain H→Plain H')→Q (.ref p) H'
theorem zvg:OpR X (binaryOp .Add) (zxu X.K):=by
 intro pins s σ H x y v u Q I rx ry h
 obtain ⟨a,b,xs,ys,rfl,rfl,ha,hb,hz,q⟩:=h
 by_cases hx:xs=[]
 ·cases rx
  cases ry
  obtain ⟨its,r1,p1,_⟩:=I.tuple ha
  obtain ⟨its2,r2,p2,_⟩:=I.tuple hb
  have e:its=[]:=by subst hx;cases r1;rfl
  subst e
  obtain ⟨⟨cls,dd,data,sl⟩,ho,hc,n,hd⟩:=id p1
  obtain ⟨⟨cls2,dd2,data2,sl2⟩,ho2,hc2,n2,hd2⟩:=id p2
  simp only at hc hd hc2 hd2
  subst hc hd hc2 hd2
  exact concat_meets ⟨_,ho,rfl⟩ ⟨_,ho2,rfl⟩ noFill_tuple_add seq_tuple_add PySem.F.slot_tuple_add PySem.F.entry_tuple_add (PySem.F.args_tuple_add_2 _ _)
   (tuple_addW0 a b #[] its2.toArray n n2 dd dd2 sl sl2 rfl) ⟨ho,ho2,⟨.ref b,H,I,rfl,q _ _ (by subst hx;exact hb) (Same.refl _) id⟩⟩
 ·refine zwn pins s σ H _ _ v u Q I rx ry ⟨a,b,xs,ys,rfl,rfl,ha,hb,hx,hz,λ e=>q _ _ (by subst e;rw [List.append_nil];exact ha) (Same.refl _) id,λ _ p hp=>q _ _ (SqT.of upd_same) (zca hp) λ z=>z.tup⟩
end
mutual
noncomputable def noL:PyData→Bool
 | .list _=>false
 | .tuple xs=>noLs xs
 | _=>true
noncomputable def noLs:List PyData→Bool
 | []=>true
 | d::ds=>noL d && noLs ds
end
theorem SqT.mono {K:W.Frag} {H H':Hp} {a D:Addr} {xs:List V} (k:∀ b o,b≠D→H b=some o→H' b=some o) (hd:∃ zs,H D=some (.lst zs)) (h:SqT K H a xs):SqT K H' a xs:=by
 obtain ⟨zs,hd⟩:=hd
 rcases h with h | h
 ·rcases h with h | ⟨o,h⟩
  ·exact .inl (.inl (k _ _ (zju h hd (λ e=>nomatch e)) h))
  ·exact .inl (.inr ⟨o,k _ _ (zju h hd (λ e=>nomatch e)) h⟩)
 ·exact .inr h
mutual
theorem DV.mono {K:W.Frag} {H H':Hp} {D:Addr} (k:∀ b o,b≠D→H b=some o→H' b=some o) (hd:∃ zs,H D=some (.lst zs)):∀ (d:PyData) (v:V),noL d=true→DV K H d v→DV K H' d v
 | .none,v,_,h=>h
 | .bool b,v,_,h=>h
 | .int i,v,_,h=>h
 | .str x,v,_,h=>h
 | .list xs,v,n,_=>by cases n
 | .tuple xs,v,n,⟨a,vs,h1,h2,h3⟩=>⟨a,vs,h1,h2.mono k hd,DVs.mono k hd xs vs n h3⟩
 | .dict _,v,_,h=>h.elim
theorem DVs.mono {K:W.Frag} {H H':Hp} {D:Addr} (k:∀ b o,b≠D→H b=some o→H' b=some o) (hd:∃ zs,H D=some (.lst zs)):∀ (ds:List PyData) (vs:List V),noLs ds=true→DVs K H ds vs→DVs K H' ds vs
 | [],vs,_,h=>h
 | d::ds,vs,n,⟨v,r,h1,h2,h3⟩=>by
  have n:noL d=true∧noLs ds=true:=by rw [noLs,Bool.and_eq_true] at n;exact n
  exact ⟨v,r,h1,DV.mono k hd d v n.1 h2,DVs.mono k hd ds r n.2 h3⟩
end
theorem DVs.length {K:W.Frag} {H:Hp}:∀ {ds:List PyData} {vs:List V},DVs K H ds vs→vs.length=ds.length
 | [],vs,h=>by cases (show vs=[] from h);rfl
 | d::ds,vs,⟨v,r,h1,h2,h3⟩=>by subst h1;simp [DVs.length h3]
theorem DVs.append {K:W.Frag} {H:Hp}:∀ {ds es:List PyData} {vs us:List V},DVs K H ds vs→DVs K H es us→DVs K H (ds++es) (vs++us)
 | [],es,vs,us,h,h'=>by cases (show vs=[] from h);exact h'
 | d::ds,es,vs,us,⟨v,r,h1,h2,h3⟩,h'=>by subst h1;exact ⟨v,r++us,rfl,h2,DVs.append h3 h'⟩
section
variable {X:Cx} {K:W.Frag}
end
end L2
namespace L2
open PySem PySem.Spec PyProof.Rows PySem.NumText
noncomputable abbrev Stp:=Int×Int×Int
noncomputable def stp (s:Stp):PyData := .tuple [.int s.1,.int s.2.1,.int s.2.2]
noncomputable def plc (ss:List Stp):PyData := .tuple (ss.map stp)
noncomputable abbrev sV (s:Stp):List V:=[.int s.1,.int s.2.1,.int s.2.2]
theorem ztr {K:W.Frag} {H:Hp} {s:Stp} {t:Addr} (h:SqT K H t (sV s)):DV K H (stp s) (.ref t):=⟨t,_,rfl,h,_,_,rfl,rfl,_,_,rfl,rfl,_,_,rfl,rfl,rfl⟩
theorem zcl (s:Stp):noL (stp s)=true:=rfl
theorem zxh:∀ ss:List Stp,noLs (ss.map stp)=true
 | []=>rfl
 | s::ss=>by rw [List.map_cons,noLs,zcl,zxh ss];rfl
theorem zwp (ss:List Stp):noL (plc ss)=true:=zxh ss
theorem ztk {α:Type} {K:W.Frag} {H:Hp} {f:α→PyData}:∀ {ys:List V} {R:Nat→α→Prop},(∀ (i:Nat) y,ys[i]? = some y→∃ x,DV K H (f x) y∧R i x)→∃ xs:List α,xs.length=ys.length∧DVs K H (xs.map f) ys∧∀ (i:Nat) x,xs[i]? = some x→R i x:=by
 intro ys
 induction ys with
 | nil=>intro R _;exact ⟨[],rfl,rfl,λ i x e=>by simp at e⟩
 | cons y ys ih =>
  intro R h
  obtain ⟨x,e,r⟩:=h 0 y rfl
  obtain ⟨xs,e1,e2,r2⟩:=ih (R:=λ i x=>R (i+1) x) λ i z e=>h (i+1) z (by simpa using e)
  refine ⟨x::xs,by simp [e1],⟨y,ys,rfl,e,e2⟩,λ i z ez=>?_⟩
  cases i with
  | zero=>simp at ez;subst ez;exact r
  | succ i=>exact r2 i z (by simpa using ez)
theorem zgn {xs:List V} {i:Int} (h0:0≤i):cutV xs none (some i)=xs.take i.toNat:=by
 obtain ⟨j,rfl⟩:∃ j:Nat,i=j:=⟨i.toNat,by omega⟩
 unfold cutV
 rw [HT.sIx_none,HT.sIx_nat,List.drop_zero,Nat.sub_zero,Int.toNat_natCast]
 rcases Nat.le_total j xs.length with h | h
 ·rw [Nat.min_eq_left h]
 ·rw [Nat.min_eq_right h,List.take_of_length_le (Nat.le_refl _),List.take_of_length_le h]
theorem zse {xs:List V} {i:Int} (h0:0≤i):cutV xs (some i) none=xs.drop i.toNat:=by
 obtain ⟨j,rfl⟩:∃ j:Nat,i=j:=⟨i.toNat,by omega⟩
 unfold cutV
 rw [HT.sIx_none,HT.sIx_nat,Int.toNat_natCast]
 rcases Nat.le_total j xs.length with h | h
 ·rw [Nat.min_eq_left h,List.take_of_length_le (by rw [List.length_drop];exact Nat.le_refl _)]
 ·rw [Nat.min_eq_right h,List.drop_of_length_le h,List.drop_of_length_le (Nat.le_refl _),List.take_nil]
theorem zdk (x:Str) (lo hi:Option Int):(Txt.slice x lo hi).length=min (HT.sIx x.length x.length hi - HT.sIx x.length 0 lo) (x.length - HT.sIx x.length 0 lo):=by
 have h:=congrArg List.length (znd x lo hi)
 rw [List.length_take,List.length_drop,Array.length_toList,Array.length_toList] at h
 exact h
end L2
namespace L2
open PySem PySem.Spec PyProof.Rows PySem.NumText
section
open PySem.SeqAt
open PySem.AutoSeq1 (wpAny_loadPart')
open PySem.MeetsSeq PySem.MeetsSeq2 PySem.MeetsSeq3
end
section
variable {X:Cx} {pins:List (Addr×Obj)} {σ:St} {H:Hp} {s:Shared} {A:Around}
end
section
variable {X:Cx} {K:W.Frag}
end
end L2
namespace L2
open PySem PySem.Spec PyProof.Rows PySem.NumText
section
open PySem.SeqAt
open PySem.AutoSeq1 (wpAny_loadPart')
open PySem.MeetsSeq PySem.MeetsSeq2 PySem.MeetsSeq3
end
section
variable {X:Cx}
end
end L2
namespace L2
open PySem
noncomputable abbrev ST:=SetTable
end L2
namespace L2
open PySem
end L2
namespace L2
open PySem PySem.Spec PyProof.Rows PySem.NumText
section
variable {prog:Program} {w:World}
end
end L2
namespace L2
open PySem PySem.Spec PyProof.Rows PySem.NumText
section
variable {prog:Program} {w:World}
end
end L2
namespace L2
open PySem PySem.Spec PyProof.Rows PySem.NumText
section
variable {prog:Program} {w:World} {A:Around} {E:Value→Shared→Prop} {s:Shared}
end
end L2
namespace L2
open PySem PySem.Spec PyProof.Rows PySem.NumText
section
variable {prog:Program} {w:World} {A:Around} {E:Value→Shared→Prop} {s:Shared}
end
end L2
namespace L2
open PySem PySem.Spec PyProof.Rows PySem.NumText
section
variable {prog:Program} {w:World} {A:Around} {R:Result→Shared→Prop} {I:Addr} {fp wr:List Addr} {G:Array GenState→Array GenState→Prop} {n:Nat} {P:Nat→Value→Prop} {St:Nat→Shared→Prop}
end
section
variable {prog:Program} {w:World} {A:Around} {E:Value→Shared→Prop} {s:Shared}
end
end L2
namespace L2
open PySem PySem.Spec PyProof.Rows PySem.NumText
section
variable {X:Cx}
end
end L2
namespace L2
open PySem PySem.Spec PyProof.Rows PySem.NumText
section
variable {prog:Program} {w:World}
end
end L2
namespace L2
open PySem PySem.Spec PyProof.Rows PySem.NumText
section
variable {X:Cx}
end
section
variable {prog:Program} {w:World} {A:Around} {R:Result→Shared→Prop} {I:Addr} {fp wr:List Addr} {n:Nat} {P:Nat→Value→Prop} {St:Nat→Heap→Prop} {h0:Heap} {kw:List (Str×Value)}
end
section
variable {X:Cx}
end
end L2
namespace L2
open PySem PySem.Spec PyProof.Rows
section
variable {X:Cx} {CX:CXT} {k:Nat} {f C D:Addr} {fd:FuncData} {ps:List Str} {sp:Sp} {dvs:List V} {ds:List Value} {EX:XK} {x m:Str} {p pos apos:Pos} {e o:Expr} {es:List Expr} {ta:TE} {t:TA} {σ₀:St}
end
end L2
namespace L2
open PySem PySem.Spec PyProof.Rows PySem.NumText
theorem zig (x:Str) (c:Nat):(Txt.partition x ⟨#[c]⟩=(x,Str.empty,Str.empty)∧c∉x.cps.toList) ∨ ((Txt.partition x ⟨#[c]⟩).2.1=⟨#[c]⟩∧c∉(Txt.partition x ⟨#[c]⟩).1.cps.toList):=by
 unfold Txt.partition
 rcases StrLaws.occ_head x ⟨#[c]⟩ 1 (Nat.le_refl _) with ⟨e,hn⟩ | ⟨i,r,e,ha,hn⟩
 ·rw [e]
  refine .inl ⟨rfl,?_⟩
  have:=StrLaws.part_free x c 0 x.length (Nat.le_refl _) λ k _ _=>hn k
  rwa [StrLaws.sub_whole] at this
 ·rw [e]
  refine .inr ⟨rfl,?_⟩
  exact StrLaws.part_free x c 0 i (by have:=ha.1;omega) λ k _ hk=>hn k hk
theorem zzh {c:Nat}:∀ {a b r s:List Nat},c∉a→c∉b→a++c::r=b++c::s→a=b∧r=s
 | [],[],_,_,_,_,h=>⟨rfl,(List.cons.inj h).2⟩
 | [],y::b,_,_,_,hb,h=>absurd (List.mem_cons.mpr (.inl (List.cons.inj h).1)) hb
 | x::a,[],_,_,ha,_,h=>absurd (List.mem_cons.mpr (.inl (List.cons.inj h).1.symm)) ha
 | x::a,y::b,r,s,ha,hb,h=>by
  have h:=List.cons.inj h
  obtain ⟨e1,e2⟩:=zzh (λ z=>ha (List.mem_cons_of_mem _ z)) (λ z=>hb (List.mem_cons_of_mem _ z)) h.2
  exact ⟨by rw [h.1,e1],e2⟩
theorem zcc (c:Nat) (p q:Str) (r:List Str):(Str.join ⟨#[c]⟩ (p::q::r)).cps.toList=p.cps.toList++c::(Str.join ⟨#[c]⟩ (q::r)).cps.toList:=by
 show ((p++(⟨#[c]⟩:Str))++Str.join ⟨#[c]⟩ (q::r)).cps.toList=_
 show ((p.cps ++ #[c])++(Str.join ⟨#[c]⟩ (q::r)).cps).toList=_
 simp
theorem zfd {c:Nat}:∀ (ps qs:List Str),ps≠[]→qs≠[]→(∀ p∈ps,c∉p.cps.toList)→(∀ p∈qs,c∉p.cps.toList)→Str.join ⟨#[c]⟩ ps=Str.join ⟨#[c]⟩ qs→ps=qs
 | [],_,h,_,_,_,_=>absurd rfl h
 | _::_,[],_,h,_,_,_=>absurd rfl h
 | [p],[q],_,_,_,_,h=>by
  have h:p=q:=h
  rw [h]
 | [p],q::q2::r,_,_,hp,_,h=>by
  have h:p=Str.join ⟨#[c]⟩ (q::q2::r):=h
  refine absurd ?_ (hp p List.mem_cons_self)
  rw [h,zcc]
  simp
 | p::p2::r,[q],_,_,_,hq,h=>by
  have h:Str.join ⟨#[c]⟩ (p::p2::r)=q:=h
  refine absurd ?_ (hq q List.mem_cons_self)
  rw [← h,zcc]
  simp
 | p::p2::r,q::q2::t,_,_,hp,hq,h=>by
  have h:(Str.join ⟨#[c]⟩ (p::p2::r)).cps.toList=(Str.join ⟨#[c]⟩ (q::q2::t)).cps.toList:=by rw [h]
  rw [zcc,zcc] at h
  obtain ⟨e1,e2⟩:=zzh (hp p List.mem_cons_self) (hq q List.mem_cons_self) h
  have e3:=zfd (p2::r) (q2::t) (by simp) (by simp) (λ z hz=>hp z (List.mem_cons_of_mem _ hz)) (λ z hz=>hq z (List.mem_cons_of_mem _ hz)) (ext_toList e2)
  rw [ext_toList e1,e3]
theorem zqc (x:Str) (c:Nat):Txt.split x ⟨#[c]⟩≠[]:=by
 intro h
 unfold Txt.split at h
 split at h
 ·cases h
 ·split at h
  ·cases h
  ·rw [StrLaws.partsBetween_eq] at h
   obtain ⟨p,q,e⟩:=StrLaws.partsFrom_ne x (⟨#[c]⟩:Str).length 0 (Builtin.Str.occurrences x ⟨#[c]⟩ 0 x.length (x.length+1))
   rw [e] at h
   cases h
theorem zvh {x:Str} {c:Nat} (h:c∉x.cps.toList):Txt.split x ⟨#[c]⟩=[x] :=
 zfd _ _ (zqc x c) (by simp) (StrLaws.split_free x c) (λ p hp=>by rw [List.mem_singleton.mp hp];exact h) (by rw [StrLaws.join_split];rfl)
theorem zqj {a r:Str} {c:Nat} (h:c∉a.cps.toList):Txt.split (a++(⟨#[c]⟩:Str)++r) ⟨#[c]⟩=a::Txt.split r ⟨#[c]⟩:=by
 have hne:=zqc r c
 refine zfd _ _ (zqc _ c) (by simp) (StrLaws.split_free _ c) (λ p hp=>?_) ?_
 ·rcases List.mem_cons.mp hp with rfl | hp
  ·exact h
  ·exact StrLaws.split_free r c p hp
 ·rw [StrLaws.join_split]
  have e:Str.join ⟨#[c]⟩ (Txt.split r ⟨#[c]⟩)=r:=StrLaws.join_split r _
  cases hs:Txt.split r ⟨#[c]⟩ with
  | nil=>exact absurd hs hne
  | cons q t =>
   rw [hs] at e
   show _=(a++(⟨#[c]⟩:Str))++Str.join ⟨#[c]⟩ (q::t)
   rw [e]
theorem zli (x:Str) (c:Nat):(Txt.partition x ⟨#[c]⟩=(x,Str.empty,Str.empty)∧Txt.split x ⟨#[c]⟩=[x]) ∨
  ∃ a r,Txt.partition x ⟨#[c]⟩=(a,⟨#[c]⟩,r)∧Txt.split x ⟨#[c]⟩=a::Txt.split r ⟨#[c]⟩∧x=a++(⟨#[c]⟩:Str)++r∧c∉a.cps.toList:=by
 rcases zig x c with ⟨e,h⟩ | ⟨e,h⟩
 ·exact .inl ⟨e,zvh h⟩
 ·have hs:=StrLaws.partition_sum x ⟨#[c]⟩
  rw [e] at hs
  refine .inr ⟨(Txt.partition x ⟨#[c]⟩).1,(Txt.partition x ⟨#[c]⟩).2.2,Prod.ext rfl (Prod.ext e rfl),?_,hs.symm,h⟩
  have:=zqj (r:=(Txt.partition x ⟨#[c]⟩).2.2) h
  rwa [hs] at this
theorem zaj (sep:Str):∀ (ps:List Str) (p:Str) (n:Nat),p∈ps→n∈p.cps.toList→n∈(Str.join sep ps).cps.toList
 | [],_,_,h,_=>by cases h
 | [q],p,n,h,hn=>by rw [List.mem_singleton.mp h] at hn;exact hn
 | q::q2::r,p,n,h,hn=>by
  show n∈((q++sep)++Str.join sep (q2::r)).cps.toList
  show n∈((q.cps++sep.cps)++(Str.join sep (q2::r)).cps).toList
  simp only [Array.toList_append,List.mem_append]
  rcases List.mem_cons.mp h with rfl | h
  ·exact .inl (.inl hn)
  ·exact .inr (zaj sep (q2::r) p n h hn)
theorem zek {x p:Str} {c n:Nat} (h:p∈Txt.split x ⟨#[c]⟩) (hn:n∈p.cps.toList):n∈x.cps.toList:=by
 have:=zaj ⟨#[c]⟩ _ p n h hn
 rwa [StrLaws.join_split] at this
section
variable {X:Cx}
noncomputable def zki:V→List V→Hp→VK→Prop:=λ x xs H Q=>∃ z y,x = .str z∧xs=[.str y]∧(y.length == 0)=false∧z.length≤10000∧∀ l,H l=none→Q (.ref l) (upd H l (.tup [.str (Txt.partition z y).1,.str (Txt.partition z y).2.1,.str (Txt.partition z y).2.2]))
theorem zrc:MtR X "str.partition" zki:=by
 intro pins s σ H x xs v us Q I rx rv h
 obtain ⟨z,y,rfl,rfl,hy,hz,q⟩:=h
 obtain ⟨t,rfl⟩:=rx
 obtain ⟨u,rfl,ru⟩:=rv.one
 obtain ⟨t',rfl⟩:=ru
 have hl:(10000:Nat)+2≤sizeLine:=by rw [sizeLine_eq];decide
 have fin:∀ (ta tb tc:Tok) (k:Nat),EP X pins σ Q (.ref s.heap.objs.size) { s with heap:=s.heap.push { cls := .type "tuple",data := .seq [.str (Txt.partition z y).1 ta,.str (Txt.partition z y).2.1 tb,.str (Txt.partition z y).2.2 tc].toArray },toks:=k }:=λ ta tb tc k =>
  ⟨.ref s.heap.objs.size,_,I.laid (t':=k) (o := .tup [.str (Txt.partition z y).1,.str (Txt.partition z y).2.1,.str (Txt.partition z y).2.2]) (λ b ob q=>Heap.get?_push_of_some _ q) (Nat.le_refl _) ⟨by show 3≤sizeLine;omega,_,.cons ⟨ta,rfl⟩ (.cons ⟨tb,rfl⟩ (.cons ⟨tc,rfl⟩ .nil)),⟨_,Heap.get?_push_size _ rfl,rfl,0,rfl⟩⟩,rfl,q _ (I.hok.fresh (Nat.le_refl _))⟩
 refine call_meets F.slot_str_partition (typeIs_str _ _ _) F.entry_str_partition (F.args_str_partition_2 _ _) (meets_str_partition z y t t' hy (by omega)) ?_
 unfold Txt.partition at fin
 revert fin
 cases Builtin.Str.occurrences z y 0 z.length 1 with
 | nil=>intro fin;exact fin _ _ _ _
 | cons i r=>intro fin;exact fin _ _ _ _
end
end L2
namespace L2
open PySem PySem.Spec PyProof.Rows PySem.NumText
theorem ok_iff {z:Str}:PyData.strOk z=true ↔ ∀ n∈z.cps.toList,n<0x110000:=by
 unfold PyData.strOk
 rw [← Array.all_toList,List.all_eq_true]
 constructor
 ·intro h n hn;exact of_decide_eq_true (h n hn)
 ·intro h n hn;exact decide_eq_true (h n hn)
theorem zvc (a b:Str):(a++b).cps.toList=a.cps.toList++b.cps.toList:=by
 show (a.cps++b.cps).toList=_
 simp
theorem znq {a b:Str} (h1:PyData.strOk a=true) (h2:PyData.strOk b=true):PyData.strOk (a++b)=true:=by
 rw [ok_iff] at *
 intro n hn
 rw [zvc,List.mem_append] at hn
 exact hn.elim (h1 n) (h2 n)
theorem zym {z:Str} (h:PyData.strOk z=true) (lo hi:Option Int):PyData.strOk (Txt.slice z lo hi)=true:=by
 rw [ok_iff] at *
 intro n hn
 rw [znd] at hn
 exact h n (List.mem_of_mem_drop (List.mem_of_mem_take hn))
theorem zfl {z p:Str} {c:Nat} (h:PyData.strOk z=true) (hp:p∈Txt.split z ⟨#[c]⟩):PyData.strOk p=true:=by
 rw [ok_iff] at *
 intro n hn
 exact h n (zek hp hn)
theorem znc (sep:Str):∀ (ps:List Str) (n:Nat),n∈(Str.join sep ps).cps.toList→n∈sep.cps.toList ∨ ∃ p∈ps,n∈p.cps.toList
 | [],n,h=>by simp [Str.join,Str.empty] at h
 | [q],n,h=>.inr ⟨q,List.mem_cons_self,h⟩
 | q::q2::r,n,h=>by
  have h:n∈((q++sep)++Str.join sep (q2::r)).cps.toList:=h
  rw [zvc,zvc,List.mem_append,List.mem_append] at h
  rcases h with (h | h) | h
  ·exact .inr ⟨q,List.mem_cons_self,h⟩
  ·exact .inl h
  ·rcases znc sep (q2::r) n h with z | ⟨p,hp,z⟩
   ·exact .inl z
   ·exact .inr ⟨p,List.mem_cons_of_mem _ hp,z⟩
theorem zme (z:Str) (c:Nat) {n:Nat} (h:n∈z.cps.toList):n=c ∨ ∃ p∈Txt.split z ⟨#[c]⟩,n∈p.cps.toList:=by
 have e:=StrLaws.join_split z ⟨#[c]⟩
 rw [← e] at h
 rcases znc _ _ n h with z | z
 ·exact .inl (by simpa using z)
 ·exact .inr z
theorem zvl {sep:Str} {ps:List Str} (h1:PyData.strOk sep=true) (h2:∀ p∈ps,PyData.strOk p=true):PyData.strOk (Txt.join sep ps)=true:=by
 show PyData.strOk (Builtin.Str.glued sep ps)=true
 rw [StrLaws.glued_eq_join,ok_iff]
 intro n hn
 rcases znc _ _ n hn with z | ⟨p,hp,z⟩
 ·exact ok_iff.mp h1 n z
 ·exact ok_iff.mp (h2 p hp) n z
theorem zbg (s:String):PyData.strOk (Str.ofString s)=true:=by
 rw [ok_iff]
 intro n hn
 rw [signs_ofString] at hn
 obtain ⟨c,_,rfl⟩:=List.mem_map.mp hn
 have:=c.valid
 unfold UInt32.isValidChar Nat.isValidChar at this
 show c.val.toNat<1114112
 omega
theorem zgi (c:Nat) (t:Str):(!(Builtin.Str.occurrences t ⟨#[c]⟩ 0 t.length 1).isEmpty)=decide (c∈t.cps.toList):=by
 have hs:=StrLaws.partition_sum t ⟨#[c]⟩
 have h:=zig t c
 unfold Txt.partition at h hs
 cases e:Builtin.Str.occurrences t ⟨#[c]⟩ 0 t.length 1 with
 | nil =>
  rw [e] at h
  rcases h with ⟨_,h⟩ | ⟨h,_⟩
  ·rw [decide_eq_false h];rfl
  ·have:(0:Nat)=1:=congrArg Str.length h
   cases this
 | cons i r =>
  rw [e] at h hs
  rcases h with ⟨h,_⟩ | ⟨_,_⟩
  ·have:(1:Nat)=0:=congrArg (λ q:Str×Str×Str=>q.2.1.length) h
   cases this
  ·dsimp only at hs
   have:c∈t.cps.toList:=by rw [← hs,zvc,zvc];simp
   rw [decide_eq_true this];rfl
theorem zji {cs:List Nat} {n:Int} (h:zbc cs=some n):∀ c∈cs,c=45 ∨ zhf c=true:=by
 intro c hc
 unfold zbc at h
 split at h
 ·rename_i hh
  split at h
  ·cases h
  ·rename_i hb
   cases cs with
   | nil=>cases hc
   | cons x xs =>
    rcases List.mem_cons.mp hc with rfl | hc
    ·exact .inl (by simpa using hh)
    ·refine .inr ?_
     cases ha:(x::xs).tail.all zhf with
     | false=>exact absurd (.inr (.inr (.inl ha))) hb
     | true=>exact List.all_eq_true.mp ha c hc
 ·split at h
  ·cases h
  ·rename_i hb
   refine .inr ?_
   cases ha:cs.all zhf with
   | false=>exact absurd (.inr (.inr (.inl ha))) hb
   | true=>exact List.all_eq_true.mp ha c hc
end L2
namespace L2
open PySem PySem.Spec PyProof.Rows PySem.NumText
noncomputable abbrev Ver:=Int×List Stp×Str
noncomputable def ver (v:Ver):PyData := .tuple [.int v.1,plc v.2.1,.str v.2.2]
noncomputable def vdat:Option Ver→PyData
 | none=>.none
 | some v=>ver v
theorem zhp {K:W.Frag} {H:Hp} {v:Ver} {t:Addr} {pv:V} (h:SqT K H t [.int v.1,pv,.str v.2.2]) (hp:DV K H (plc v.2.1) pv):DV K H (ver v) (.ref t):=⟨t,_,rfl,h,_,_,rfl,rfl,_,_,rfl,hp,_,_,rfl,rfl,rfl⟩
theorem zsm (o:Option Ver):noL (vdat o)=true:=by
 cases o with
 | none=>rfl
 | some v =>
  show (noL (.int v.1) && (noL (plc v.2.1) && (noL (.str v.2.2) && true)))=true
  rw [zwp]
  rfl
end L2
namespace L2
open PySem PySem.Spec PyProof.Rows PySem.NumText PySem.W
section
variable {n:Nat} {s:Shared} {cmp:Nat→Nat→(Bool→Shared→Prop)→Shared→Prop} {lt:Nat→Nat→Bool}
end
end L2
namespace L2
open PySem PySem.Spec PyProof.Rows PySem.NumText PySem.W
section
variable {prog:Program} {w:World} {A:Around} {E:Value→Shared→Prop} {s:Shared} {a:Addr} {vs:List Value} {lt:Nat→Nat→Bool}
end
end L2
namespace L2
open PySem PySem.Spec PyProof.Rows PySem.NumText PySem.W
section
variable {prog:Program} {w:World} {A:Around} {E:Value→Shared→Prop} {s:Shared}
end
section
variable {α:Type} {as:List α} {enc:α→List PyData} {lt:α→α→Bool} {f:FirstTy}
end
end L2
namespace L2
open PySem PySem.Spec PyProof.Rows PySem.NumText PySem.W
section
variable {X:Cx}
end
end L2
namespace L2
open PySem PySem.Spec PyProof.Rows PySem.NumText
noncomputable abbrev Mark:=Int×Int
noncomputable def mkV (m:Mark):List V:=[.int m.1,.int m.2]
theorem znj {v:V} {o:Option Value} (h:RelO (some v) o):∃ u,o=some u∧RelV v u:=by
 cases o with
 | none=>exact h.elim
 | some u=>exact ⟨u,rfl,h⟩
theorem zvo {a:Option V} {b:Option Value} (h:RelO a b):a.isSome=b.isSome:=by
 cases a <;> cases b <;> first | rfl | exact h.elim
section
variable {X:Cx} {pins:List (Addr×Obj)} {σ:St} {H:Hp} {s:Shared} {a:Addr} {es:List Ent}
theorem Inv.bigM (I:Inv X pins σ H s):sysModules<s.heap.objs.size:=Nat.lt_trans (by decide) (I.mod.glob.keeps I.bk).lt
variable {o i e value:Expr} {pos pos':Pos} {td ty tv:TE}
end
end L2
namespace L2
open PySem PySem.Spec PyProof.Rows PySem.NumText
section
variable {prog:Program} {w:World} {A:Around} {E:Value→Shared→Prop} {s:Shared} {d it v:Addr} {ds:Array DictEntry} {ep i:Nat} {ok ov:Value}
end
end L2
namespace L2
open PySem PySem.Spec PyProof.Rows PySem.NumText
section
variable {prog:Program} {w:World} {A:Around} {E:Value→Shared→Prop} {s:Shared} {d it S r:Addr} {ds:Array DictEntry} {ep:Nat}
end
section
variable {X:Cx} {pins:List (Addr×Obj)} {σ:St} {H:Hp} {s:Shared} {h':Heap}
end
end L2
namespace L2
open PySem PySem.Spec PyProof.Rows PySem.NumText
section
variable {prog:Program} {w:World} {A:Around} {E:Value→Shared→Prop} {s:Shared} {l:Addr} {xs:Array Value} {c:Nat} {sl:Array (Option Value)}
end
section
variable {prog:Program} {w:World} {A:Around} {E:Value→Shared→Prop} {s:Shared} {l d it:Addr}
end
section
variable {X:Cx}
end
end L2
namespace L2
open PySem PySem.Spec PyProof.Rows PySem.NumText
section
variable {X:Cx} {pins:List (Addr×Obj)} {σ:St} {H:Hp} {s:Shared} {a:Addr} {es:List Ent} {o:Obj}
end
section
variable {X:Cx} {o:Expr} {td:TE} {apos cpos:Pos}
end
end L2
namespace L2
open PySem PySem.Spec PyProof.Rows PySem.NumText
noncomputable def markD (m:Mark):PyData := .tuple [.int m.1,.int m.2]
theorem zeq {K:W.Frag} {H:Hp} {q:Addr} {m:Mark} (h:SqT K H q (mkV m)):DV K H (markD m) (.ref q):=⟨q,_,rfl,h,_,_,rfl,rfl,_,_,rfl,rfl,rfl⟩
section
variable {X:Cx}
end
end L2
namespace L2
open PySem PySem.Spec PyProof.Rows PySem.NumText
theorem zsn (v:Ver):noL (ver v)=true:=zsm (some v)
end L2
namespace L2
open PySem PySem.Spec PyProof.Rows PySem.NumText
end L2
namespace L2
open PySem PySem.Spec PyProof.Rows PySem.NumText
section
variable {X:Cx}
end
end L2
namespace L2
open PySem PySem.Spec PyProof.Rows PySem.NumText
section
variable {prog:Program} {w:World} {A:Around} {E:Value→Shared→Prop} {s:Shared}
end
end L2
namespace L2
open PySem PySem.Spec PyProof.Rows PySem.NumText
section
variable {prog:Program} {w:World} {A:Around} {E:Value→Shared→Prop} {s:Shared}
end
end L2
namespace L2
open PySem PySem.Spec PyProof.Rows PySem.NumText
section
variable {prog:Program} {w:World} {A:Around} {E:Value→Shared→Prop} {s:Shared}
end
end L2
namespace L2
open PySem PySem.Spec PyProof.Rows PySem.NumText
section
variable {prog:Program} {w:World} {A:Around} {E:Value→Shared→Prop} {s:Shared}
end
section
variable {prog:Program} {w:World} {A:Around} {R:Result→Shared→Prop} {I:Addr} {fp wr:List Addr} {G:Array GenState→Array GenState→Prop} {n:Nat} {P:Nat→Value→Prop} {St:Nat→Shared→Prop}
end
section
variable {prog:Program} {w:World} {A:Around} {E:Value→Shared→Prop} {s:Shared}
end
end L2
namespace L2
open PySem PySem.Spec PyProof.Rows PySem.NumText
section
variable {X:Cx} {pins:List (Addr×Obj)} {σ:St} {H:Hp} {s:Shared}
end
section
variable {X:Cx}
end
end L2
namespace L2
open PySem PySem.Spec PyProof.Rows PySem.NumText
section
variable {prog:Program} {w:World} {A:Around} {E:Value→Shared→Prop} {s:Shared}
end
section
variable {X:Cx} {e:Expr} {ta:TA} {x:Str} {id:String} {r:List V→Hp→VK→Prop} {p pos kp kp1:Pos} {j:Nat}
end
end L2
namespace L2
open PySem PySem.Spec PyProof.Rows PySem.NumText
section
variable {X:Cx}
end
end L2
namespace L2
open PySem PySem.Spec PyProof.Rows PySem.NumText
section
variable {prog:Program} {w:World} {A:Around} {E:Value→Shared→Prop} {s:Shared} {d it:Addr} {ds:Array DictEntry} {ep i:Nat}
end
end L2
namespace L2
open PySem PySem.Spec PyProof.Rows PySem.NumText
section
variable {X:Cx} {o:Expr} {td:TE}
end
section
variable {prog:Program} {w:World} {A:Around} {E:Value→Shared→Prop} {s:Shared} {d it S:Addr} {ds:Array DictEntry} {ep:Nat}
end
section
variable {X:Cx}
end
end L2
namespace L2
open PySem PySem.Spec PyProof.Rows PySem.NumText
section
variable {X:Cx}
end
section
variable {prog:Program} {w:World} {A:Around} {E:Value→Shared→Prop} {s:Shared} {d q:Addr}
end
end L2
namespace L2
open PySem PySem.Spec PyProof.Rows PySem.NumText
section
variable {prog:Program} {w:World} {A:Around} {E:Value→Shared→Prop} {s:Shared} {d q:Addr}
end
section
variable {X:Cx} {o e:Expr} {td ty:TE} {apos cpos:Pos}
end
end L2
namespace L2
open PySem PySem.Spec PyProof.Rows PySem.NumText
section
variable {prog:Program} {w:World} {A:Around} {E:Value→Shared→Prop} {s:Shared} {a it:Addr}
end
end L2
namespace L2
open PySem PySem.Spec PyProof.Rows PySem.NumText
section
variable {prog:Program} {w:World} {A:Around} {E:Value→Shared→Prop} {s:Shared} {a it:Addr}
end
section
variable {X:Cx}
end
end L2
namespace L2
open PySem PySem.Spec PyProof.Rows PySem.NumText
section
variable {prog:Program} {w:World} {A:Around} {E:Value→Shared→Prop} {s:Shared} {a it:Addr} {es:Array (Int×Value)} {ep i:Nat} {t:ST}
end
end L2
namespace L2
open PySem PySem.Spec PyProof.Rows PySem.NumText
section
variable {prog:Program} {w:World} {A:Around} {E:Value→Shared→Prop} {s:Shared} {a it S:Addr} {es:Array (Int×Value)} {ep:Nat} {t:ST}
end
section
variable {X:Cx}
end
end L2
namespace L2
open PySem PySem.Spec PyProof.Rows PySem.NumText
section
variable {prog:Program} {w:World} {A:Around} {R:Result→Shared→Prop} {s:Shared}
end
section
variable {X:Cx}
end
end L2
namespace L2
open PySem PySem.Spec PyProof.Rows PySem.NumText
section
variable {prog:Program} {w:World} {A:Around} {E:Value→Shared→Prop} {R:Result→Shared→Prop} {s:Shared}
end
section
variable {X:Cx}
end
end L2
namespace L2
open PySem PySem.Spec PyProof.Rows PySem.NumText
section
variable {X:Cx}
end
end L2
namespace L2
open PySem PySem.Spec PyProof.Rows PySem.NumText
end L2
namespace L2
open PySem PySem.Spec PyProof.Rows PySem.NumText
theorem toE {X:Cx} {e:Expr} {t t':TE} (h:PE X e t) (z:t=t'):PE X e t':=z ▸ h
theorem toS {X:Cx} {e:Stmt} {t t':TS} (h:PS X e t) (z:t=t'):PS X e t':=z ▸ h
end L2
namespace L2
open PySem PySem.Spec PyProof.Rows PySem.NumText
section
variable {prog:Program} {w:World} {A:Around} {E:Value→Shared→Prop} {s:Shared} {d a:Addr} {ds:Array DictEntry} {ep:Nat} {o:Obj}
end
section
variable {X:Cx}
end
end L2
namespace L2
open PySem PySem.Spec PyProof.Rows PySem.NumText
section
variable {prog:Program} {w:World} {A:Around} {E:Value→Shared→Prop} {s:Shared} {d r:Addr} {ds:Array DictEntry} {ep:Nat}
end
section
variable {X:Cx}
end
end L2
namespace L2
open PySem PySem.Spec PyProof.Rows PySem.NumText
end L2
namespace L2
open PySem PySem.Spec PyProof.Rows PySem.NumText
end L2
namespace L2
open PySem PySem.Spec PyProof.Rows PySem.NumText
section
variable {X:Cx} {tg:Expr}
end
end L2
namespace L2
open PySem PySem.Spec PyProof.Rows PySem.NumText
section
variable {prog:Program} {w:World} {A:Around} {E:Value→Shared→Prop} {s:Shared}
end
section
variable {X:Cx}
end
end L2
namespace L2
open PySem PySem.Spec PyProof.Rows PySem.NumText
end L2
namespace L2
open PySem PySem.Spec PyProof.Rows PySem.NumText
section
variable {X:Cx} {tg:Expr}
end
end L2
namespace L2
open PySem PySem.Spec PyProof.Rows PySem.NumText
end L2
namespace L2
open PySem PySem.Spec PyProof.Rows PySem.NumText
end L2
namespace L2
open PySem PySem.Spec PyProof.Rows PySem.NumText PySem.W
section
variable {prog:Program} {w:World} {A:Around} {E:Value→Shared→Prop} {s:Shared} {a:Addr} {vs:List Value}
end
section
variable {X:Cx}
end
end L2
namespace L2
open PySem PySem.Spec PyProof.Rows PySem.NumText PySem.W
noncomputable def EntK (w:World):List DictEntry→List (Str×Value)→Prop
 | [],[]=>True
 | e::es,kv::kvs=>e.hash=hashStr w kv.1∧(∃ t,e.key = .str kv.1 t)∧e.val=kv.2∧EntK w es kvs
 | _,_=>False
noncomputable def DcK (w:World) (K:W.Frag) (d:Addr) (kvs:List (Str×Value)):Prop:=∃ es ep,K.lookup d=some ⟨.type "dict",none,.dict es ep, #[]⟩∧EntK w es.toList kvs∧(kvs.map (·.1)).Nodup
theorem EntK.pairs {P:Program} {w:World}:∀ {es:List DictEntry} {kvs:List (Str×Value)},EntK w es kvs→Pairs (strKind P w) es kvs∧∀ e∈es,∃ k,(strKind P w).is k e.key=true∧e.hash=(strKind P w).hash k:=by
 intro es
 induction es with
 | nil =>
  intro kvs h
  cases kvs with
  | nil=>exact ⟨.nil,λ e he=>absurd he (by simp)⟩
  | cons _ _=>exact False.elim h
 | cons e es ih =>
  intro kvs h
  cases kvs with
  | nil=>exact False.elim h
  | cons kv kvs =>
   obtain ⟨h1,⟨t,h2⟩,h3,h4⟩:=h
   obtain ⟨a,b⟩:=ih h4
   have hi:(strKind P w).is kv.1 e.key=true:=by rw [h2];exact beq_self_eq_true kv.1
   refine ⟨.cons hi h3 a,λ x hx=>?_⟩
   rcases List.mem_cons.mp hx with rfl | hx
   ·exact ⟨kv.1,hi,h1⟩
   ·exact b x hx
theorem DcK.dict {P:Program} {w:World} {K:W.Frag} {d:Addr} {kvs:List (Str×Value)} (D:DcK w K d kvs) {h:Heap} (k:K.In h):h.DictOf (strKind P w) d kvs:=by
 obtain ⟨es,ep,hl,he,nd⟩:=D
 obtain ⟨a,b⟩:=he.pairs (P:=P)
 exact ⟨_,es,ep,k d _ hl,⟨rfl,rfl,rfl⟩,rfl,λ e he=>b e (Array.mem_toList_iff.mpr he),a,nd⟩
section
variable {X:Cx}
variable {CX:CXT} {k:Nat} {E:XK} {x:Str} {p pos:Pos} {e:Expr} {es:List Expr} {t:TA}
end
end L2
namespace L2
open PySem PySem.Spec PyProof.Rows PySem.NumText
section
variable {X:Cx}
end
end L2
namespace L2
open PySem PySem.Spec PyProof.Rows PySem.NumText
end L2
namespace L2
open PySem PySem.Spec PyProof.Rows PySem.NumText
section
variable {X:Cx}
end
end L2
namespace L2
open PySem PySem.Spec PyProof.Rows PySem.NumText
section
variable {X:Cx} {o e z:Expr} {td ty tz:TE}
end
end L2
namespace L2
open PySem PySem.Spec PyProof.Rows PySem.NumText
section
variable {prog:Program} {w:World} {A:Around} {E:Value→Shared→Prop} {R:Result→Shared→Prop} {s:Shared}
end
section
variable {X:Cx}
end
end L2
namespace L2
open PySem PySem.Spec PyProof.Rows PySem.NumText
section
variable {X:Cx}
end
end L2
namespace L2
open PySem PySem.Spec PyProof.Rows PySem.NumText PySem.W
section
variable {X:Cx} {o e:Expr}
noncomputable def zem:Value→Option V
 | .int n _=>some (.int n)
 | .str z _=>some (.str z)
 | .ref a=>some (.ref a)
 | .none=>some .non
 | _=>none
theorem zze {u:Value} {v:V} (h:zem u=some v):RelV v u:=by
 cases u <;> first | cases h;exact ⟨_,rfl⟩ | cases h;rfl | cases h
noncomputable def ztu (d:Addr) (kvs:List (Str×Value)) (ty:TE):TE:=λ σ H Q=>ty σ H λ y H1=>∃ k,y = .str k∧((valueAt kvs k=none∧Q .non H1) ∨ ∃ u v,valueAt kvs k=some u∧zem u=some v∧Q v H1)
theorem zaq {d:Addr} {kvs:List (Str×Value)} {ty td:TE} {apos cpos:Pos} (D:DcK X.w X.K d kvs) (hd:(d == sysModules)=false) (ho:PE X o td) (htd:∀ σ H Q,Q (.ref d) H→td σ H Q) (he:PE X e ty) (hbase:attributeBase o "get" X.env (eval o X.env)=eval o X.env:=by rfl)
  (hfew:((backTo cpos (starEach [e] X.env)).all (λ x => !x.1) && (backToKw cpos (keywordEach [] X.env)).all (λ x=>x.1.isSome)
   && decide (([e]:List Expr).length+([]:List Keyword).length+(if ([]:List Keyword).isEmpty then 0 else 1)<30))=true:=by rfl)
  (hline:(apos.endLine == cpos.line)=true:=by rfl) (htr:backTo cpos (starEach [e] X.env)=[(false,eval e X.env)]:=by rfl):PE X (.Call (.Attribute o "get" apos) [e] [] cpos) (ztu d kvs ty) := .mk <| by
 intro pins s σ H Q I h
 refine wpAny_Call_method hbase hfew hline PySem.F.plainAttrs_dict PySem.F.slot_dict_get PySem.F.type_dict_get (thn (ho pins s σ H (λ v H1=>v = .ref d∧H1=H) I (htd _ _ _ ⟨rfl,rfl⟩)) λ u s1 ⟨x,H1,I1,rx,ex,eH⟩=>?_)
 subst ex eH
 cases rx
 have dd:s1.heap.DictOf (strKind X.prog X.w) d kvs:=D.dict I1.kIn
 refine ⟨dd.typeIs,λ b q=>?_,?_⟩
 ·cases q
  obtain ⟨ob,_,_,h1,h2,_⟩:=dd
  exact ⟨ob,h1,h2.2.1⟩
 rw [htr]
 refine wpAny_dict_get1 (knd:=strKind X.prog X.w) hd (thn (he pins s1 σ H1 _ I1 h) λ kv s2 ⟨y,H2,I2,ry,k,ey,alt⟩=>?_)
 subst ey
 obtain ⟨t,rfl⟩:=ry
 have d2:s2.heap.DictOf (strKind X.prog X.w) d kvs:=D.dict I2.kIn
 refine ⟨k,_,beq_self_eq_true k,d2.mapOf,?_⟩
 rcases alt with ⟨hn,q⟩ | ⟨u,v,hu,hc,q⟩
 ·rw [hn]
  exact ⟨.non,H2,I2.tok _,rfl,q⟩
 ·rw [hu]
  exact ⟨v,H2,I2.tok _,zze hc,q⟩
noncomputable def rIxC (d:Addr) (kvs:List (Str×Value)):R2:=λ x y H Q=>x = .ref d∧∃ k u v,y = .str k∧valueAt kvs k=some u∧zem u=some v∧Q v H
theorem ix_C {d:Addr} {kvs:List (Str×Value)} (D:DcK X.w X.K d kvs):IxR X (rIxC d kvs):=by
 intro value slice pins s σ H x y v u Q I rx ry h hs
 obtain ⟨rfl,k,u',v',rfl,hf,hc,q⟩:=h
 cases rx
 obtain ⟨t,rfl⟩:=ry
 have dd:s.heap.DictOf (strKind X.prog X.w) d kvs:=D.dict I.kIn
 have hT:s.TypeIs (.ref d) "dict" := dd.typeIs
 have fin:wpAny (model X.prog X.w) X.A (subscripted slice false (.ref d) (.str k t)) (λ r s3=>wpAny (model X.prog X.w) X.A (letTemporaryGo value (.ref d) r >>= λ _=>pure r) (EP X pins σ Q) X.xe s3) X.xe s:=by
  rw [hs]
  refine wpAny_operating (wpAny_getItem_of (knd:=strKind X.prog X.w) (k:=k) (beq_self_eq_true k) dd.mapOf hf ?_)
  exact wpAny_bind (wpAny_letTemporaryGo (wpAny_pure ⟨v',H,I.tok _,zze hc,q⟩))
 unfold subscriptTail
 refine wpAny_bind ?_
 rw [getitemInPython_of_ne hT.not_modules]
 refine wpAny_bind (wpAny_specialOf hT PySem.F.slot_dict_getitem.lookup ?_)
 first
  | exact wpAny_pure (wpAny_bind fin)
  | exact wpAny_bind (wpAny_pure (wpAny_bind fin))
open Builtin.Str in
noncomputable def zuf (x y:Str) (k:Nat):List Str:=if (decide (x.length<y.length) || decide (PySem.Builtin.Str.strKind x<PySem.Builtin.Str.strKind y))=true then [x] else if (occurrences x y 0 x.length k).isEmpty then [x] else partsBetween x (occurrences x y 0 x.length k) y.length
end
open Builtin.Str in
theorem zzd (s y:Str) (hi k N:Nat):∀ (l:List Nat) (a b:Array Nat×Nat),a.1.toList=b.1.toList.take k→(b.1.size<k→a.2=b.2)→b.1.size+l.length≤N→(forIn l a (StrLaws.occBody s y hi k)).run.fst.toList=(forIn l b (StrLaws.occBody s y hi N)).run.fst.toList.take k
 | [],a,b,h,_,_=>h
 | i::l,a,b,h,hf,hn=>by
  rw [List.forIn_cons,List.forIn_cons]
  unfold StrLaws.occBody
  have hn':b.1.size+1+l.length≤N:=by rw [List.length_cons] at hn;omega
  by_cases hk:b.1.size<k
  ·have ea:a.1.toList=b.1.toList:=by rw [h];exact List.take_of_length_le (by rw [Array.length_toList];omega)
   have es:a.1.size=b.1.size:=by rw [← Array.length_toList,ea,Array.length_toList]
   have ef:=hf hk
   by_cases hc:((b.1.size<N∧b.2≤i)∧i+y.length≤hi)∧subAt s y i=true
   ·have hc':((a.1.size<k∧a.2≤i)∧i+y.length≤hi)∧subAt s y i=true:=⟨⟨⟨by omega,by rw [ef];exact hc.1.1.2⟩,hc.1.2⟩,hc.2⟩
    rw [if_pos hc,if_pos hc']
    refine zzd s y hi k N l _ _ ?_ (λ _=>rfl) (by rw [Array.size_push];omega)
    show (a.1.push i).toList=(b.1.push i).toList.take k
    rw [Array.toList_push,Array.toList_push,ea,List.take_of_length_le (by rw [List.length_append,Array.length_toList];exact hk)]
   ·have hc':¬ (((a.1.size<k∧a.2≤i)∧i+y.length≤hi)∧subAt s y i=true):=λ z=>hc ⟨⟨⟨by omega,by rw [← ef];exact z.1.1.2⟩,z.1.2⟩,z.2⟩
    rw [if_neg hc,if_neg hc']
    exact zzd s y hi k N l _ _ h hf (by show b.1.size+l.length≤N;omega)
  ·have es:a.1.size=k:=by
    rw [← Array.length_toList,h,List.length_take,Array.length_toList]
    omega
   rw [if_neg (λ z=>by have:=z.1.1.1;omega:¬ (((a.1.size<k∧a.2≤i)∧i+y.length≤hi)∧subAt s y i=true))]
   by_cases hc:((b.1.size<N∧b.2≤i)∧i+y.length≤hi)∧subAt s y i=true
   ·rw [if_pos hc]
    refine zzd s y hi k N l _ _ ?_ (λ z=>absurd z (by show ¬ (b.1.push i).size<k;rw [Array.size_push];omega)) (by show (b.1.push i).size+l.length≤N;rw [Array.size_push];omega)
    show a.1.toList=(b.1.push i).toList.take k
    rw [Array.toList_push,List.take_append_of_le_length (by rw [Array.length_toList];omega)]
    exact h
   ·rw [if_neg hc]
    exact zzd s y hi k N l _ _ h (λ z=>absurd z hk) (by show b.1.size+l.length≤N;omega)
noncomputable def cutK (c:Nat) (ps:List Str) (k:Nat):List Str:=if ps.length≤k+1 then ps else ps.take k++[Str.join ⟨#[c]⟩ (ps.drop k)]
theorem zbd (x:Str) (c:Nat):∀ (cuts:List Nat) (a f k:Nat),StrLaws.ChainTo x ⟨#[c]⟩ x.length a cuts f→StrLaws.partsFrom x (⟨#[c]⟩:Str).length a (cuts.take k)=cutK c (StrLaws.partsFrom x (⟨#[c]⟩:Str).length a cuts) k
 | [],a,f,k,h=>by
  rw [List.take_nil]
  unfold cutK
  rw [if_pos (by show 1≤k+1;omega)]
 | i::r,a,f,0,h=>by
  obtain ⟨p,q,e⟩:=StrLaws.partsFrom_ne x (⟨#[c]⟩:Str).length (i+(⟨#[c]⟩:Str).length) r
  have ej:=StrLaws.join_partsFrom x ⟨#[c]⟩ (i::r) a f h
  have hl:¬ (StrLaws.partsFrom x (⟨#[c]⟩:Str).length a (i::r)).length≤0+1:=by
   show ¬ (Builtin.Str.strSub x a i::StrLaws.partsFrom x (⟨#[c]⟩:Str).length (i+(⟨#[c]⟩:Str).length) r).length≤1
   rw [e,List.length_cons,List.length_cons]
   omega
  unfold cutK
  rw [if_neg hl,List.take_zero,List.take_zero,List.drop_zero,ej]
  rfl
 | i::r,a,f,k+1,h=>by
  have ih:=zbd x c r (i+(⟨#[c]⟩:Str).length) f k h.2.2
  show Builtin.Str.strSub x a i::StrLaws.partsFrom x (⟨#[c]⟩:Str).length (i+(⟨#[c]⟩:Str).length) (r.take k)=cutK c (Builtin.Str.strSub x a i::StrLaws.partsFrom x (⟨#[c]⟩:Str).length (i+(⟨#[c]⟩:Str).length) r) (k+1)
  rw [ih]
  unfold cutK
  by_cases hl:(StrLaws.partsFrom x (⟨#[c]⟩:Str).length (i+(⟨#[c]⟩:Str).length) r).length≤k+1
  ·rw [if_pos hl,if_pos (by rw [List.length_cons];omega)]
  ·rw [if_neg hl,if_neg (by rw [List.length_cons];omega),List.take_succ_cons,List.drop_succ_cons,List.cons_append]
theorem zjh (x:Str) (c:Nat) (h1:(decide (x.length<(⟨#[c]⟩:Str).length) || decide (Builtin.Str.strKind x<Builtin.Str.strKind ⟨#[c]⟩))=false):Txt.split x ⟨#[c]⟩=StrLaws.partsFrom x (⟨#[c]⟩:Str).length 0 (Builtin.Str.occurrences x ⟨#[c]⟩ 0 x.length (x.length+1)):=by
 unfold Txt.split
 rw [if_neg (ne_true_of_eq_false h1)]
 split
 ·rename_i he
  rw [List.isEmpty_iff.mp he]
  show [x]=[Builtin.Str.strSub x 0 x.length]
  rw [StrLaws.sub_whole]
 ·rw [StrLaws.partsBetween_eq]
theorem zbk (x:Str) (c k:Nat):zuf x ⟨#[c]⟩ k=cutK c (Txt.split x ⟨#[c]⟩) k:=by
 cases h1:(decide (x.length<(⟨#[c]⟩:Str).length) || decide (Builtin.Str.strKind x<Builtin.Str.strKind ⟨#[c]⟩)) with
 | true =>
  have e1:Txt.split x ⟨#[c]⟩=[x]:=by unfold Txt.split;rw [if_pos h1]
  unfold zuf cutK
  rw [if_pos h1,e1,if_pos (by show 1≤k+1;omega)]
 | false =>
  have et:Builtin.Str.occurrences x ⟨#[c]⟩ 0 x.length k=(Builtin.Str.occurrences x ⟨#[c]⟩ 0 x.length (x.length+1)).take k:=by
   rw [StrLaws.occ_eq,StrLaws.occ_eq]
   exact zzd x ⟨#[c]⟩ x.length k (x.length+1) _ _ _ (by simp) (λ _=>rfl) (by rw [List.length_range'];show 0+_≤_;omega)
  obtain ⟨f,hf⟩:=StrLaws.occ_chain x ⟨#[c]⟩ (x.length+1)
  have ep:=zbd x c _ 0 f k hf
  rw [zjh x c h1,← ep,← et]
  unfold zuf
  rw [if_neg (ne_true_of_eq_false h1)]
  split
  ·rename_i he
   rw [List.isEmpty_iff.mp he]
   show [x]=[Builtin.Str.strSub x 0 x.length]
   rw [StrLaws.sub_whole]
  ·rw [StrLaws.partsBetween_eq]
section
variable {X:Cx}
noncomputable def zgo:V→List V→Hp→VK→Prop:=λ x xs H Q=>∃ z c k,x = .str z∧xs=[.str ⟨#[c]⟩,.int (k:Nat)]∧z.length≤10000∧k<1000∧∀ l,H l=none→Q (.ref l) (upd H l (.lst ((cutK c (Txt.split z ⟨#[c]⟩) k).map V.str)))
theorem zbo (c:Nat) (ps:List Str) (k:Nat):(cutK c ps k).length≤ps.length:=by
 unfold cutK
 split
 ·exact Nat.le_refl _
 ·rw [List.length_append,List.length_take,List.length_singleton]
  omega
open Builtin.Str in
theorem zkj:MtR X "str.split" zgo:=by
 intro pins s σ H x xs v us Q I rx rv h
 obtain ⟨z,c,k,rfl,rfl,hz,hk,q⟩:=h
 obtain ⟨t,rfl⟩:=rx
 cases rv with
 | cons r1 r2 =>
  obtain ⟨t1,rfl⟩:=r1
  obtain ⟨u,rfl,ru⟩:=zyl r2
  obtain ⟨t2,rfl⟩:=ru
  have hl:(10000:Nat)+2≤sizeLine:=by rw [sizeLine_eq];decide
  have hkk:(decide ((k:Int) < -(2 ^ 63:Int)) || decide ((k:Int) ≥ 2 ^ 63))=false:=by
   rw [Bool.or_eq_false_iff]
   exact ⟨decide_eq_false (by omega),decide_eq_false (by omega)⟩
  have elim:limitOf z (k:Int)=k:=by
   unfold limitOf
   rw [if_neg (by omega)]
   rfl
  have hq:∀ (l:List (Str×Tok)) tk,l.map (·.1)=zuf z ⟨#[c]⟩ k→EP X pins σ Q (.ref s.heap.objs.size) { s with heap:=s.heap.push { cls := .type "list",data := .seq (strValues l).toArray },toks:=tk }:=λ l tk e=>by
   rw [zbk] at e
   refine ⟨.ref s.heap.objs.size,_,I.laid (t':=tk) (o := .lst ((cutK c (Txt.split z ⟨#[c]⟩) k).map V.str)) (λ b ob q=>Heap.get?_push_of_some _ q) (Nat.le_refl _) ?_,rfl,q _ (I.hok.fresh (Nat.le_refl _))⟩
   refine ⟨?_,_,0,zqg e,Heap.get?_push_size _ rfl⟩
   have h1:=split_le z ⟨#[c]⟩
   have h2:=zbo c (Txt.split z ⟨#[c]⟩) k
   rw [List.length_map]
   omega
  obtain ⟨raising,htree⟩:=split_sep_max_tree z ⟨#[c]⟩ (k:Int) t t1 t2 hkk
  cases h1:(decide (z.length<(⟨#[c]⟩:Str).length) || decide (PySem.Builtin.Str.strKind z<PySem.Builtin.Str.strKind ⟨#[c]⟩)) with
  | true =>
   refine call_meets F.slot_str_split (typeIs_str _ _ _) F.entry_str_split (F.args_str_split_3 _ _ _) (S:=λ _ R s=>R (.ok (.ret (.ref s.heap.objs.size))) { s with heap:=s.heap.push { cls := .type "list",data := .seq #[.str z t] } }) (.of_wp λ prog w A R s h=>?_) (hq [(z,t)] _ (by unfold zuf;rw [if_pos h1];rfl))
   rw [htree,if_pos h1]
   exact wpAny_bind (wpAny_rule (wpAny_bind (wpAny_newList (wpAny_pure ⟨_,rfl,h⟩) (by show 1≤sizeLine;decide))))
  | false =>
   have hy:((⟨#[c]⟩:Str).length == 0)=false:=rfl
   cases he:(occurrences z ⟨#[c]⟩ 0 z.length k).isEmpty with
   | true =>
    refine call_meets F.slot_str_split (typeIs_str _ _ _) F.entry_str_split (F.args_str_split_3 _ _ _) (S:=λ _ R s=>R (.ok (.ret (.ref s.heap.objs.size))) { s with heap:=s.heap.push { cls := .type "list",data := .seq #[.str z t] } }) (.of_wp λ prog w A R s h=>?_) (hq [(z,t)] _ (by unfold zuf;rw [if_neg (ne_true_of_eq_false h1),if_pos he];rfl))
    rw [htree,if_neg (ne_true_of_eq_false h1),if_neg (ne_true_of_eq_false hy),elim,he]
    exact wpAny_bind (wpAny_rule (wpAny_bind (wpAny_newList (wpAny_pure ⟨_,rfl,h⟩) (by show 1≤sizeLine;decide))))
   | false =>
    have hpl:(partsBetween z (occurrences z ⟨#[c]⟩ 0 z.length (limitOf z (k:Int))) (⟨#[c]⟩:Str).length).length≤sizeLine:=by
     rw [len_partsBetween,elim]
     have:=StrLaws.occ_length_le z ⟨#[c]⟩ 0 z.length k
     omega
    refine call_meets F.slot_str_split (typeIs_str _ _ _) F.entry_str_split (F.args_str_split_3 _ _ _) (meets_str_split_sep_max z ⟨#[c]⟩ (k:Int) t t1 t2 hkk h1 hy (by rw [elim];exact he) (by omega) hpl) ?_
    rw [elim]
    show wants _ _ _ { s with toks:=_,heap:=s.heap.push { cls := .type "list",data := .seq (strsFrom s.toks (partsBetween z (occurrences z ⟨#[c]⟩ 0 z.length k) (⟨#[c]⟩:Str).length)).toArray } }
    rw [strsFrom_eq]
    exact hq (numbered s.toks _) _ ((numbered_texts _ _).trans (by unfold zuf;rw [if_neg (ne_true_of_eq_false h1),if_neg (ne_true_of_eq_false he)]))
end
end L2
namespace L2
open PySem PySem.Spec PyProof.Rows PySem.NumText PySem.W
section
variable {prog:Program} {w:World} {A:Around} {E:Value→Shared→Prop} {s:Shared}
theorem zyh {l:Addr} {v0:Value} {its:List Value} {Q:List Value→Shared→Prop} (nh:A.handled=none) (pl:s.heap.IsList l (v0::its).toArray) (hz:its.length+1≤sizeLine)
  (q:∀ (hp:Heap) (tk:Nat),(∀ b o,s.heap.get? b=some o→hp.get? b=some o)→Q [v0,.ref hp.objs.size] { s with heap:=hp.push { cls := .type "list",data := .seq its.toArray },toks:=tk }):wpAny (model prog w) A (unpackItems (.ref l) 2 (some 1)) Q E s:=by
 have nl:l≠s.heap.objs.size:=by obtain ⟨o,ho,_⟩:=pl;exact Nat.ne_of_lt (Heap.lt_size ho)
 unfold unpackItems notIterableAtAll
 refine wpAny_bind (wpAny_bind (wpAny_specialOf pl.typeIs slot_list_iter.lookup (wpAny_pure ?_)))
 simp only [Bool.false_eq_true,if_false]
 refine wpAny_bind (wpAny_holding (wpAny_pyIter_list pl ?_))
 have i0:(s.heap.push { cls := .type "list_iterator",data := .fields #[.ref l,.int 0 0] }).IsListIter s.heap.objs.size l 0:=⟨_,Heap.get?_push_size _ rfl,rfl,rfl⟩
 refine wpAny_bind (wpAny_holding (kun_draw nl 1 0 _ _ i0 (pl.push _) (by simp) λ k1 j1 sb1=>?_))
 have pk:k1.IsList l (v0::its).toArray:=(pl.push _).extBut sb1.extBut nl
 have j1':=j1
 have pk':=pk
 obtain ⟨oj,hoj,_⟩:=j1'
 obtain ⟨ok,hok,_⟩:=pk'
 have e1:((v0::its).toArray.toList.drop 0).take 1=[v0]:=by simp
 rw [e1]
 rw [if_neg (show ¬ ([v0].length<1) by simp)]
 refine wpAny_bind (wpAny_holding (kun_collect (s:={ s with heap:=k1 }) (T := "list_iterator") (.inr (.inr (.inl rfl))) (Walks.list (A:=A.in1) nh s.heap.objs.size l nl (v0::its).toArray) (λ _ _ z=>z.1.typeIs) (k:=1) (by simp) ⟨j1,pk⟩ (Heap.lt_size hoj) (Heap.lt_size hok) (λ k2 tk kk=>?_) (by simpa using hz)))
 have e2:(v0::its).toArray.toList.drop 1=its:=by simp
 rw [e2]
 show wpAny _ _ (if its.length<2 - 1 - 1 then _ else _) _ _ _
 rw [if_neg (by omega)]
 show wpAny _ _ (newList (its.take (its.length - (2 - 1 - 1))) >>= λ d=>pure ([v0]++[d]++its.drop (its.length - (2 - 1 - 1)))) _ _ _
 have e3:its.take (its.length - (2 - 1 - 1))=its:=List.take_of_length_le (by omega)
 have e4:its.drop (its.length - (2 - 1 - 1))=[]:=List.drop_of_length_le (by omega)
 rw [e3,e4]
 refine wpAny_bind (wpAny_newList (wpAny_pure (q k2 tk λ b o z=>kk b o (Nat.ne_of_lt (Heap.lt_size z)) (sb1.extBut b o (Nat.ne_of_lt (Heap.lt_size z)) (Heap.get?_push_of_some _ z)))) (by omega))
end
section
variable {X:Cx}
noncomputable def zpw (K:W.Frag) (t:TGs):TG:=λ v σ H Q=>∃ a x xs,v = .ref a∧SqL K H a (x::xs)∧∀ D,H D=none→t [x,.ref D] σ (upd H D (.lst xs)) Q
theorem znp {pos:Pos} {es:List Expr} {k:Nat} {t:TGs} (hc:X.calm=true) (h:PGs X es t) (hn:(assignEach es X.env).length=2:=by rfl) (hst:(assignEach es X.env).findIdx? (·.1)=some 1:=by rfl):PG X (.Tuple es k pos) (zpw X.K t) := .mk <| by
 intro pins s σ H v u Q I r hw
 obtain ⟨a,x,xs,e1,hq,hw⟩:=hw
 subst e1
 cases r
 obtain ⟨its,rv,pl,hz⟩:=I.list hq
 cases rv with
 | @cons _ v0 _ vs r0 rr =>
  rw [assign_Tuple]
  refine wpAny_bind (wpAny_standAt ?_)
  unfold unpack
  rw [hn,hst]
  have hl:vs.length+1≤sizeLine:=by rw [← rr.length];exact hz
  refine wpAny_bind (wpAny_holding (zyh (I.ok.hd hc) pl.isList hl λ hp tk kk=>?_))
  have I1:Inv X pins σ H { s with heap:=hp,toks:=tk }:=I.kept (t':=tk) kk
  have I2:Inv X pins σ (upd H hp.objs.size (.lst xs)) { s with heap:=hp.push { cls := .type "list",data := .seq vs.toArray },toks:=tk }:=I1.laid (t':=tk) (o := .lst xs) (λ b ob q=>Heap.get?_push_of_some _ q) (Nat.le_refl _) ⟨by rw [rr.length];omega,vs,0,rr,Heap.get?_push_size _ rfl⟩
  exact h pins _ σ _ [x,.ref hp.objs.size] _ Q I2 (.cons r0 (.cons rfl .nil)) (hw _ (I1.hok.fresh (Nat.le_refl _)))
theorem zpm {e:Expr} {sp:Pos} {t:TG} (h1:PG X e t):PGs X [.Starred e sp] (ziq t gNil) := .mk <| by
 intro pins s σ H vs us Q I r h
 obtain ⟨v,vr,e1,h⟩:=h
 subst e1
 cases r with
 | cons r rr =>
  rw [show (assignEach [Expr.Starred e sp] X.env).map (·.2)=[assign e X.env] from rfl]
  refine assignInOrder_cons (thn (h1 pins s σ H _ _ _ I r h) λ _ s1 ⟨σ1,H1,I1,q1,q2⟩=>?_)
  subst q1
  cases rr
  exact assignInOrder_nil ⟨σ1,H1,I1,q2⟩
end
end L2
namespace L2
open PySem PySem.Spec PyProof.Rows PySem.NumText PySem.W
noncomputable def SeqH (b:Bool) (h:Heap) (a:Addr) (v:Array Value):Prop:=if b=true then h.IsTuple a v else h.IsList a v
noncomputable def ItrH (b:Bool) (h:Heap) (j a:Addr) (i:Nat):Prop:=if b=true then h.IsTupleIter j a i else h.IsListIter j a i
theorem ItrH.keep {b:Bool} {h h':Heap} {j a:Addr} {i:Nat} (x:ItrH b h j a i) (k:∀ o,h.get? j=some o→h'.get? j=some o):ItrH b h' j a i:=by
 cases b with
 | true=>obtain ⟨o,ho,z⟩:=x;exact ⟨o,k o ho,z⟩
 | false=>obtain ⟨o,ho,z⟩:=x;exact ⟨o,k o ho,z⟩
theorem SeqH.keep {b:Bool} {h h':Heap} {a:Addr} {v:Array Value} (x:SeqH b h a v) (k:∀ o,h.get? a=some o→h'.get? a=some o):SeqH b h' a v:=by
 cases b with
 | true=>obtain ⟨o,ho,z⟩:=x;exact ⟨o,k o ho,z⟩
 | false=>obtain ⟨o,ho,z⟩:=x;exact ⟨o,k o ho,z⟩
theorem ItrH.ob {b:Bool} {h:Heap} {j a:Addr} {i:Nat} (x:ItrH b h j a i):∃ o,h.get? j=some o∧∀ v,o.data ≠ .cell v:=by
 cases b with
 | true=>obtain ⟨o,ho,_,d⟩:=x;exact ⟨o,ho,λ v z=>by rw [d] at z;cases z⟩
 | false=>obtain ⟨o,ho,_,d⟩:=x;exact ⟨o,ho,λ v z=>by rw [d] at z;cases z⟩
theorem SeqH.ob {b:Bool} {h:Heap} {a:Addr} {v:Array Value} (x:SeqH b h a v):∃ o,h.get? a=some o:=by
 cases b with
 | true=>obtain ⟨o,ho,_⟩:=x;exact ⟨o,ho⟩
 | false=>obtain ⟨o,ho,_⟩:=x;exact ⟨o,ho⟩
section
variable {prog:Program} {w:World} {A:Around} {E:Value→Shared→Prop} {s:Shared}
theorem zdp {b:Bool} {j a:Addr} {i:Nat} {v:Array Value} {x:Value} {Q:Value→Shared→Prop} (hj:ItrH b s.heap j a i) (ha:SeqH b s.heap a v) (hv:v[i]? = some x)
  (q:∀ h',ItrH b h' j a (i+1)→Heap.SameBut j s.heap h'→Q x { s with heap:=h' }):wpAny (model prog w) A (Builtin.SmallTypes.nextOf (.ref j)) Q E s:=by
 cases b with
 | false=>exact wpAny_nextOf_list_item hj ha hv q
 | true =>
  have hj:s.heap.IsTupleIter j a i:=hj
  obtain ⟨o,ho,hc,hd⟩:=id hj
  obtain ⟨oa,hoa,_,na,hda⟩:=ha
  unfold Builtin.SmallTypes.nextOf
  refine wpAny_bind (wpAny_callSpecial?_slot (name:=Str.ofString "__next__") hj.typeIs F.slot_tuple_iterator_next (wpAny_call_entry F.slot_tuple_iterator_next hj.typeIs F.entry_tuple_iterator_next ?_ (F.args_tuple_iterator_next_1 _)))
  show wpAny _ _ (field (.ref j) 0 >>= _) _ _ s
  refine wpAny_bind (wpAny_field ho hd (x := .ref a) rfl ?_)
  show wpAny _ _ (if (Value.ref a == Value.none)=true then _ else _) _ _ s
  rw [if_neg (show ¬ ((Value.ref a == Value.none)=true) from Bool.false_ne_true)]
  show wpAny _ _ (field (.ref j) 1 >>= _) _ _ s
  refine wpAny_bind (wpAny_field ho hd (x := .int (i:Nat) 0) rfl ?_)
  show wpAny _ _ (seqItems? (.ref a) >>= _) _ _ s
  refine wpAny_bind (wpAny_seqItems hoa hda ?_)
  simp only [Int.toNat_natCast,hv]
  refine wpAny_bind (wpAny_setField ho hd (by simp) (wpAny_pure ⟨x,rfl,wpAny_pure (q _ ?_ (Heap.SameBut.update ..))⟩))
  exact ⟨_,Heap.get?_update_self _ ho (Obj.isFreed_of_fields (Obj.data_mapFields hd _)),(Obj.cls_mapFields ..).trans hc,by rw [Obj.data_mapFields hd];simp [rawInt]⟩
theorem zjt {b:Bool} {j a:Addr} {i:Nat} {v:Array Value} {Q:Value→Shared→Prop} (nh:A.handled=none) (hj:ItrH b s.heap j a i) (ha:SeqH b s.heap a v) (hv:v[i]? = none)
  (q:∀ h' e,Heap.ExtBut j s.heap h'→(∃ o,h'.get? e=some o∧o.cls = .type "StopIteration")→E (.ref e) { s with heap:=h' }):wpAny (model prog w) A (Builtin.SmallTypes.nextOf (.ref j)) Q E s:=by
 cases b with
 | false=>exact wpAny_nextOf_list_end nh hj ha hv q
 | true =>
  have hj:s.heap.IsTupleIter j a i:=hj
  obtain ⟨o,ho,hc,hd⟩:=id hj
  obtain ⟨oa,hoa,_,na,hda⟩:=ha
  unfold Builtin.SmallTypes.nextOf
  refine wpAny_bind (wpAny_callSpecial?_slot (name:=Str.ofString "__next__") hj.typeIs F.slot_tuple_iterator_next (wpAny_call_entry F.slot_tuple_iterator_next hj.typeIs F.entry_tuple_iterator_next ?_ (F.args_tuple_iterator_next_1 _)))
  show wpAny _ _ (field (.ref j) 0 >>= _) _ _ s
  refine wpAny_bind (wpAny_field ho hd (x := .ref a) rfl ?_)
  show wpAny _ _ (if (Value.ref a == Value.none)=true then _ else _) _ _ s
  rw [if_neg (show ¬ ((Value.ref a == Value.none)=true) from Bool.false_ne_true)]
  show wpAny _ _ (field (.ref j) 1 >>= _) _ _ s
  refine wpAny_bind (wpAny_field ho hd (x := .int (i:Nat) 0) rfl ?_)
  show wpAny _ _ (seqItems? (.ref a) >>= _) _ _ s
  refine wpAny_bind (wpAny_seqItems hoa hda ?_)
  simp only [Int.toNat_natCast,hv]
  refine wpAny_bind (wpAny_rule (wpAny_bind (wpAny_setField ho hd (by simp) (show wpAny _ _ (newExc (.type "StopIteration") [] >>= _) _ _ _ from wpAny_bind ?_))))
  simp only [newExc,newTuple]
  refine wpAny_bind (wpAny_newObj_type (wpAny_bind (m:=firstArgMember _ _) (wpAny_of_eq (a:=Value.none) (by first | rfl | (simp only [firstArgMember];rfl)) (wpAny_newObj_type ?_ (by size_fits)))) (by size_fits))
  simp only [raiseNew]
  refine wpAny_bind (wpAny_handled ?_)
  first | rw [show A.in1.handled=none from nh] | rw [nh]
  exact wpAny_bind (wpAny_pure (wpAny_throw (q _ _ (((Heap.SameBut.update ..).extBut.push _).push _) ⟨_,Heap.get?_push_size _ rfl,rfl⟩)))
end
end L2
namespace L2
open PySem PySem.Spec PyProof.Rows PySem.NumText PySem.W
structure Apt (z t p j k:Addr):Prop where
 tz:t≠z
 pz:p≠z
 jz:j≠z
 kz:k≠z
 tp:t≠p
 tj:t≠j
 tk:t≠k
 pj:p≠j
 pk:p≠k
 jk:j≠k
section
variable {prog:Program} {w:World} {A:Around} {E:Value→Shared→Prop} {s:Shared}
theorem ztt {b:Bool} {z t p j k a c:Addr} {i:Nat} {vs us:Array Value} {x y e f:Value} {Q:Value→Shared→Prop} (D:Apt z t p j k) (hz:IsZip s.heap z t p .none) (ht:IsPair s.heap t (.ref j) (.ref k)) (hp:IsPair s.heap p e f)
  (hj:ItrH b s.heap j a i) (hk:s.heap.IsListIter k c i) (ha:SeqH b s.heap a vs) (hc:s.heap.IsList c us) (an:a≠z∧a≠p∧a≠j∧a≠k) (cn:c≠z∧c≠p∧c≠j∧c≠k) (hx:vs[i]? = some x) (hy:us[i]? = some y)
  (q:∀ h',IsZip h' z t p (rawInt s.heap.objs.size)→IsPair h' p x y→ItrH b h' j a (i+1)→h'.IsListIter k c (i+1)→IsPair h' s.heap.objs.size x y→(∀ d o,d≠z→d≠p→d≠j→d≠k→s.heap.get? d=some o→h'.get? d=some o)→Q (.ref s.heap.objs.size) { s with heap:=h' }) :
  wpAny (model prog w) A (Builtin.«zip.__next__» ⟨[.ref z],[]⟩) (λ r s'=>∃ v,r = .done (.ret v)∧Q v s') E s:=by
 show wpAny _ _ (field (.ref z) 2 >>= _) _ _ _
 refine wpAny_bind (wpAny_field hz rfl (x := .bool false) rfl (show wpAny _ _ (field (.ref z) 3 >>= _) _ _ _ from wpAny_bind (wpAny_field hz rfl (x := .ref t) rfl (wpAny_bind (wpAny_seqItems ht rfl ?_)))))
 show wpAny _ _ (Builtin.SmallTypes.ownedTupleIsFree (.ref z) >>= _) _ _ _
 unfold Builtin.SmallTypes.ownedTupleIsFree
 refine wpAny_bind (wpAny_bind (wpAny_field hz rfl (x := .none) rfl (wpAny_pure ?_)))
 simp only [if_true]
 refine wpAny_bind (wpAny_rule (wpAny_bind (wpAny_field hz rfl (x := .ref p) rfl (wpAny_bind (wpAny_setField_rec hz (by simp) λ k1 z1 s1=>?_)))))
 have z1:IsZip k1 z t p .ellipsis:=z1
 refine wpAny_bind ?_
 simp only [List.zipIdx_cons,List.zipIdx_nil,List.forIn_cons,List.forIn_nil]
 refine wpAny_bind (wpAny_bind (wpAny_onRaise (show wpAny _ _ (Builtin.SmallTypes.nextOf (.ref j) >>= _) _ _ _ from wpAny_bind ?_)))
 refine zdp (s:={ s with heap:=k1 }) (hj.keep λ o q=>s1.extBut _ _ D.jz q) (ha.keep λ o q=>s1.extBut _ _ an.1 q) hx λ k2 j2 s2=>wpAny_pure ?_
 have p2:IsPair k2 p e f:=s2.extBut _ _ D.pj (s1.extBut _ _ D.pz hp)
 refine wpAny_bind (wpAny_seqItems p2 rfl (wpAny_bind (wpAny_updateSeq_pair p2 λ k3 p3 s3=>?_)))
 have p3:IsPair k3 p x f:=p3
 refine wpAny_bind (wpAny_letGo (wpAny_pure ?_))
 refine wpAny_bind (wpAny_bind (wpAny_onRaise (show wpAny _ _ (Builtin.SmallTypes.nextOf (.ref k) >>= _) _ _ _ from wpAny_bind ?_)))
 have hk3:k3.IsListIter k c i:=hk.at λ o q=>s3.extBut _ _ D.pk.symm (s2.extBut _ _ D.jk.symm (s1.extBut _ _ D.kz q))
 have hc3:k3.IsList c us:=hc.at λ o q=>s3.extBut _ _ cn.2.1 (s2.extBut _ _ cn.2.2.1 (s1.extBut _ _ cn.1 q))
 refine wpAny_nextOf_list_item (s:={ s with heap:=k3 }) hk3 hc3 hy λ k4 j4 s4=>wpAny_pure ?_
 have p4:IsPair k4 p x f:=s4.extBut _ _ D.pk p3
 refine wpAny_bind (wpAny_seqItems p4 rfl (wpAny_bind (wpAny_updateSeq_pair p4 λ k5 p5 s5=>?_)))
 have p5:IsPair k5 p x y:=p5
 refine wpAny_bind (wpAny_letGo (wpAny_pure (wpAny_pure ?_)))
 refine wpAny_bind (wpAny_seqItems p5 rfl (wpAny_bind (wpAny_newTuple ?_)))
 have zz:k5.objs.size=s.heap.objs.size:=by rw [s5.1,s4.1,s3.1,s2.1,s1.1]
 have z5:IsZip k5 z t p .ellipsis:=s5.extBut _ _ D.pz.symm (s4.extBut _ _ D.kz.symm (s3.extBut _ _ D.pz.symm (s2.extBut _ _ D.jz.symm z1)))
 have all5:∀ d o,d≠z→d≠p→d≠j→d≠k→s.heap.get? d=some o→k5.get? d=some o:=λ d o d1 d2 d3 d4 q=>s5.extBut _ _ d2 (s4.extBut _ _ d4 (s3.extBut _ _ d2 (s2.extBut _ _ d3 (s1.extBut _ _ d1 q))))
 have j5:ItrH b k5 j a (i+1):=j2.keep λ o q=>s5.extBut _ _ D.pj.symm (s4.extBut _ _ D.jk (s3.extBut _ _ D.pj.symm q))
 have l5:k5.IsListIter k c (i+1):=j4.at λ o q=>s5.extBut _ _ D.pk.symm q
 have zlt:z<k5.objs.size:=Heap.lt_size z5
 have z6:IsZip (k5.push { cls := .type "tuple",data := .seq #[x,y] }) z t p .ellipsis:=Heap.get?_push_of_some _ z5
 show wpAny _ _ (Builtin.SmallTypes.ownedTupleHandOut (.ref z) (.ref k5.objs.size) >>= _) _ _ _
 unfold Builtin.SmallTypes.ownedTupleHandOut
 refine wpAny_bind (wpAny_bind (wpAny_setField_rec z6 (by simp) λ k7 z7 s7=>?_))
 have z7:IsZip k7 z t p (rawInt k5.objs.size):=z7
 refine wpAny_setField_rec z7 (by simp) λ k8 z8 s8=>?_
 have z8:IsZip k8 z t p (rawInt k5.objs.size):=z8
 have up:∀ d o,d≠z→k5.get? d=some o→k8.get? d=some o:=λ d o d1 q=>s8.extBut _ _ d1 (s7.extBut _ _ d1 (Heap.get?_push_of_some _ q))
 have t8:IsPair k8 k5.objs.size x y:=s8.extBut _ _ (Nat.ne_of_gt zlt) (s7.extBut _ _ (Nat.ne_of_gt zlt) (Heap.get?_push_size _ rfl))
 rw [zz] at z8 t8
 refine wpAny_pure ⟨_,rfl,?_⟩
 show Q (.ref k5.objs.size) _
 rw [zz]
 exact q k8 z8 (up _ _ D.pz p5) (j5.keep λ o q=>up _ o D.jz q) (l5.at λ o q=>up _ o D.kz q) t8 λ d o d1 d2 d3 d4 q=>up d o d1 (all5 d o d1 d2 d3 d4 q)
theorem zim {b:Bool} {z t p j k a:Addr} {i:Nat} {vs:Array Value} {e f:Value} {Q:Fin→Shared→Prop} (nh:A.handled=none) (D:Apt z t p j k) (hz:IsZip s.heap z t p .none) (ht:IsPair s.heap t (.ref j) (.ref k)) (hp:IsPair s.heap p e f)
  (hj:ItrH b s.heap j a i) (ha:SeqH b s.heap a vs) (an:a≠z) (hx:vs[i]? = none)
  (q:∀ h' e,(∀ d o,d≠z→d≠j→s.heap.get? d=some o→h'.get? d=some o)→(∃ o,h'.get? e=some o∧o.cls = .type "StopIteration")→E (.ref e) { s with heap:=h' }):wpAny (model prog w) A (Builtin.«zip.__next__» ⟨[.ref z],[]⟩) Q E s:=by
 show wpAny _ _ (field (.ref z) 2 >>= _) _ _ _
 refine wpAny_bind (wpAny_field hz rfl (x := .bool false) rfl (show wpAny _ _ (field (.ref z) 3 >>= _) _ _ _ from wpAny_bind (wpAny_field hz rfl (x := .ref t) rfl (wpAny_bind (wpAny_seqItems ht rfl ?_)))))
 show wpAny _ _ (Builtin.SmallTypes.ownedTupleIsFree (.ref z) >>= _) _ _ _
 unfold Builtin.SmallTypes.ownedTupleIsFree
 refine wpAny_bind (wpAny_bind (wpAny_field hz rfl (x := .none) rfl (wpAny_pure ?_)))
 simp only [if_true]
 refine wpAny_bind (wpAny_rule (wpAny_bind (wpAny_field hz rfl (x := .ref p) rfl (wpAny_bind (wpAny_setField_rec hz (by simp) λ k1 z1 s1=>?_)))))
 have z1:IsZip k1 z t p .ellipsis:=z1
 refine wpAny_bind ?_
 simp only [List.zipIdx_cons,List.zipIdx_nil,List.forIn_cons,List.forIn_nil]
 refine wpAny_bind (wpAny_bind (wpAny_onRaise (show wpAny _ _ (Builtin.SmallTypes.nextOf (.ref j) >>= _) _ _ _ from wpAny_bind ?_)))
 refine zjt (s:={ s with heap:=k1 }) nh (hj.keep λ o q=>s1.extBut _ _ D.jz q) (ha.keep λ o q=>s1.extBut _ _ an q) hx λ k2 e s2 he=>?_
 obtain ⟨oe,hoe,hce⟩:=he
 have z2:IsZip k2 z t p .ellipsis:=s2 _ _ D.jz.symm z1
 have ez:e≠z:=λ x=>by subst x;rw [z2] at hoe;cases hoe;simp at hce
 exact wpAny_setField_rec z2 (by simp) λ k3 _ s3=>q k3 e (λ d o d1 d2 q=>s3.extBut _ _ d1 (s2 _ _ d2 (s1.extBut _ _ d1 q))) ⟨oe,s3.extBut _ _ ez hoe,hce⟩
theorem zom {b:Bool} {z t p j k a c:Addr} {i:Nat} {vs us:Array Value} {x y e f:Value} {Q:Option Value→Shared→Prop} (D:Apt z t p j k) (hz:IsZip s.heap z t p .none) (ht:IsPair s.heap t (.ref j) (.ref k)) (hp:IsPair s.heap p e f)
  (hj:ItrH b s.heap j a i) (hk:s.heap.IsListIter k c i) (ha:SeqH b s.heap a vs) (hc:s.heap.IsList c us) (an:a≠z∧a≠p∧a≠j∧a≠k) (cn:c≠z∧c≠p∧c≠j∧c≠k) (hx:vs[i]? = some x) (hy:us[i]? = some y)
  (q:∀ h',IsZip h' z t p (rawInt s.heap.objs.size)→IsPair h' p x y→ItrH b h' j a (i+1)→h'.IsListIter k c (i+1)→IsPair h' s.heap.objs.size x y→(∀ d o,d≠z→d≠p→d≠j→d≠k→s.heap.get? d=some o→h'.get? d=some o)→Q (some (.ref s.heap.objs.size)) { s with heap:=h' }):wpAny (model prog w) A (pyNext (.ref z)) Q E s:=by
 have hT:s.TypeIs (.ref z) "zip" := ⟨_,hz,rfl⟩
 unfold pyNext
 exact wpAny_bind (wpAny_attempt (wpAny_callSpecial?_slot (name:=Str.ofString "__next__") hT F.slot_zip_next (wpAny_call_entry F.slot_zip_next hT F.entry_zip_next (ztt D hz ht hp hj hk ha hc an cn hx hy λ h' a1 a2 a3 a4 a5 a6=>wpAny_pure (q h' a1 a2 a3 a4 a5 a6)) (F.args_zip_next_1 _))))
theorem zzl {b:Bool} {z t p j k a:Addr} {i:Nat} {vs:Array Value} {e f:Value} {Q:Option Value→Shared→Prop} (nh:A.handled=none) (D:Apt z t p j k) (hz:IsZip s.heap z t p .none) (ht:IsPair s.heap t (.ref j) (.ref k)) (hp:IsPair s.heap p e f)
  (hj:ItrH b s.heap j a i) (ha:SeqH b s.heap a vs) (an:a≠z) (hx:vs[i]? = none) (q:∀ h',(∀ d o,d≠z→d≠j→s.heap.get? d=some o→h'.get? d=some o)→Q none { s with heap:=h' }):wpAny (model prog w) A (pyNext (.ref z)) Q E s:=by
 have hT:s.TypeIs (.ref z) "zip" := ⟨_,hz,rfl⟩
 unfold pyNext
 refine wpAny_bind (wpAny_attempt (wpAny_callSpecial?_slot (name:=Str.ofString "__next__") hT F.slot_zip_next (wpAny_call_entry F.slot_zip_next hT F.entry_zip_next (zim nh D hz ht hp hj ha an hx λ h' e kk he=>?_) (F.args_zip_next_1 _))))
 obtain ⟨o,ho,hc⟩:=he
 exact wpAny_bind (wpAny_isInstance (T := "StopIteration") (b:=true) ⟨o,ho,hc⟩ isSubtype_stop (wpAny_pure (q _ kk)))
end
noncomputable def itO (b:Bool) (a:Addr):Obj:={ cls := .type (if b=true then "tuple_iterator" else "list_iterator"),data := .fields #[.ref a,.int 0 0] }
noncomputable abbrev za (b:Bool) (h:Heap) (a:Addr):Heap:=h.push (itO b a)
noncomputable abbrev zb (b:Bool) (h:Heap) (a c:Addr):Heap:=(za b h a).push { cls := .type "list_iterator",data := .fields #[.ref c,.int 0 0] }
noncomputable abbrev zc (b:Bool) (h:Heap) (a c:Addr):Heap:=(zb b h a c).push { cls := .type "tuple",data := .seq #[.ref h.objs.size,.ref (za b h a).objs.size] }
noncomputable abbrev zd (b:Bool) (h:Heap) (a c:Addr):Heap:=(zc b h a c).push { cls := .type "tuple",data := .seq #[.none,.none] }
noncomputable abbrev ze (b:Bool) (h:Heap) (a c:Addr):Heap:=(zd b h a c).push { cls := .type "zip",data := .fields #[.none,.bool false,.bool false,.ref (zb b h a c).objs.size,.ref (zc b h a c).objs.size] }
set_option maxHeartbeats 4000000 in
theorem zzi (b:Bool) (a c:Addr) (vs us:Array Value) :
  Meets (Builtin.«zip.__new__» ⟨[.type "zip",.ref a,.ref c],[]⟩) (λ _ R s=>SeqH b s.heap a vs∧s.heap.IsList c us∧R (.ok (.ret (.ref (zd b s.heap a c).objs.size))) { s with heap:=ze b s.heap a c }) :=
 .of_wp λ prog w A R s h=>by
  obtain ⟨h0,g,d,tk,os⟩:=s
  obtain ⟨ha,hc,q⟩:=h
  have hsub:=sub_zip
  cases b with
  | false =>
   have l1:Heap.IsList (Shared.heap ⟨h0,g,d,tk,os⟩) a vs:=ha
   have l2:Heap.IsList (Shared.heap ⟨h0.push { cls := .type "list_iterator",data := .fields #[.ref a,.int 0 0] },g,d,tk,os⟩) c us:=Heap.IsList.push hc _
   wp_walk using wpAny_pyIter_list l1,wpAny_pyIter_list l2
   exact ⟨_,rfl,q⟩
  | true =>
   have l1:Heap.IsTuple (Shared.heap ⟨h0,g,d,tk,os⟩) a vs:=ha
   have l2:Heap.IsList (Shared.heap ⟨h0.push { cls := .type "tuple_iterator",data := .fields #[.ref a,.int 0 0] },g,d,tk,os⟩) c us:=Heap.IsList.push hc _
   wp_walk using wpAny_pyIter_tuple l1,wpAny_pyIter_list l2
   exact ⟨_,rfl,q⟩
section
variable {prog:Program} {w:World} {A:Around} {E:Value→Shared→Prop} {s:Shared}
theorem zyk {b:Bool} {a c:Addr} {vs us:Array Value} {Q:Value→Shared→Prop} (ha:SeqH b s.heap a vs) (hc:s.heap.IsList c us)
  (q:∀ h',IsZip h' (s.heap.objs.size+4) (s.heap.objs.size+2) (s.heap.objs.size+3) .none→IsPair h' (s.heap.objs.size+2) (.ref s.heap.objs.size) (.ref (s.heap.objs.size+1))→IsPair h' (s.heap.objs.size+3) .none .none →
   ItrH b h' s.heap.objs.size a 0→h'.IsListIter (s.heap.objs.size+1) c 0→(∀ d o,s.heap.get? d=some o→h'.get? d=some o)→Q (.ref (s.heap.objs.size+4)) { s with heap:=h' }):wpAny (model prog w) A (call (.type "zip") [.ref a,.ref c]) Q E s:=by
 refine callType_new F.called_zip (by decide) (F.typeCall_zip_2 _ _) (F.newCall_zip_2 _ _) (λ ob=>F.args_object_init_3 ob _ _) F.entry_zip_new (zzi b a c vs us) ⟨ha,hc,?_⟩
 have n1:(za b s.heap a).objs.size=s.heap.objs.size+1:=Heap.size_push ..
 have n2:(zb b s.heap a c).objs.size=s.heap.objs.size+2:=by rw [Heap.size_push,n1]
 have n3:(zc b s.heap a c).objs.size=s.heap.objs.size+3:=by rw [Heap.size_push,n2]
 have n4:(zd b s.heap a c).objs.size=s.heap.objs.size+4:=by rw [Heap.size_push,n3]
 have up1:∀ d o,(za b s.heap a).get? d=some o→(ze b s.heap a c).get? d=some o:=λ d o x=>Heap.get?_push_of_some _ (Heap.get?_push_of_some _ (Heap.get?_push_of_some _ (Heap.get?_push_of_some _ x)))
 have g5:(ze b s.heap a c).get? (zd b s.heap a c).objs.size=some { cls := .type "zip",data := .fields #[.none,.bool false,.bool false,.ref (zb b s.heap a c).objs.size,.ref (zc b s.heap a c).objs.size] }:=Heap.get?_push_size _ rfl
 have g4:(ze b s.heap a c).get? (zc b s.heap a c).objs.size=some { cls := .type "tuple",data := .seq #[.none,.none] }:=Heap.get?_push_of_some _ (Heap.get?_push_size _ rfl)
 have g3:(ze b s.heap a c).get? (zb b s.heap a c).objs.size=some { cls := .type "tuple",data := .seq #[.ref s.heap.objs.size,.ref (za b s.heap a).objs.size] }:=Heap.get?_push_of_some _ (Heap.get?_push_of_some _ (Heap.get?_push_size _ rfl))
 have g2:(ze b s.heap a c).get? (za b s.heap a).objs.size=some { cls := .type "list_iterator",data := .fields #[.ref c,.int 0 0] }:=Heap.get?_push_of_some _ (Heap.get?_push_of_some _ (Heap.get?_push_of_some _ (Heap.get?_push_size _ rfl)))
 have g1:(ze b s.heap a c).get? s.heap.objs.size=some (itO b a):=up1 _ _ (Heap.get?_push_size _ (by cases b <;> rfl))
 have i1:ItrH b (ze b s.heap a c) s.heap.objs.size a 0:=by
  cases b with
  | true=>exact ⟨_,g1,rfl,rfl⟩
  | false=>exact ⟨_,g1,rfl,rfl⟩
 show _∧_
 rw [n2,n3,n4] at g5
 rw [n1,n2] at g3
 rw [n3] at g4
 rw [n1] at g2
 rw [n4]
 exact ⟨⟨_,g5,rfl⟩,q _ g5 g3 g4 i1 ⟨_,g2,rfl,rfl⟩ λ d o x=>up1 d o (Heap.get?_push_of_some _ x)⟩
end
end L2
namespace L2
open PySem PySem.Spec PyProof.Rows PySem.NumText PySem.W
noncomputable def SqA (b:Bool) (K:W.Frag) (H:Hp) (a:Addr) (xs:List V):Prop:=if b=true then SqT K H a xs else SqL K H a xs
theorem SqA.same {b:Bool} {K:W.Frag} {H H':Hp} {a:Addr} {xs:List V} (h:SqA b K H a xs) (s:Same H H'):SqA b K H' a xs:=by
 cases b with
 | true=>exact s.seqT h
 | false=>exact s.seq h
noncomputable def Itz (K:W.Frag) (b:Bool) (a c:Addr):It :=
 ⟨λ i H=>∃ xs x ys y,SqA b K H a xs∧xs[i]? = some x∧SqL K H c ys∧ys[i]? = some y,λ i H v H'=>∃ T x y,v = .ref T∧H T=none∧H'=upd H T (.tup [x,y])∧(∀ xs,SqA b K H a xs→xs[i]? = some x)∧∀ ys,SqL K H c ys→ys[i]? = some y,λ i H=>∃ xs,SqA b K H a xs∧xs.length≤i⟩
section
variable {X:Cx} {pins:List (Addr×Obj)} {σ:St} {H:Hp} {s:Shared}
theorem Inv.sqA (I:Inv X pins σ H s) {b:Bool} {a:Addr} {xs:List V} (h:SqA b X.K H a xs):∃ its:List Value,Vals xs its∧SeqH b s.heap a its.toArray∧xs.length≤sizeLine:=by
 cases b with
 | true =>
  obtain ⟨its,r,p,hz⟩:=I.tuple h
  exact ⟨its,r,p,hz⟩
 | false =>
  obtain ⟨its,r,p,hz⟩:=I.list h
  exact ⟨its,r,p.isList,hz⟩
theorem Inv.sqA_inj (I:Inv X pins σ H s) {b:Bool} {a:Addr} {xs ys:List V} (h:SqA b X.K H a xs) (h':SqA b X.K H a ys):xs=ys:=by
 cases b with
 | true=>exact I.tuple_inj h h'
 | false=>exact I.list_inj h h'
end
noncomputable def zlu (b:Bool) (z t p j k a c:Addr) (i:Nat) (h:Heap):Prop:=IsZip h z t p .none∧IsPair h t (.ref j) (.ref k)∧(∃ e f,IsPair h p e f)∧ItrH b h j a i∧h.IsListIter k c i
theorem zbn {P:Program} {w:World} {K:W.Frag} {elts:List Expr} {kk:Nat} {tp:Pos} {b:Bool} (z t p j k a c:Addr) (D:Apt z t p j k) (an:a≠z∧a≠p∧a≠j∧a≠k) (cn:c≠z∧c≠p∧c≠j∧c≠k) :
  Turn P w K (.Tuple elts kk tp) (Itz K b a c) [z,t,p,j,k] z (zlu b z t p j k a c) where
 mem:=by simp
 obj:=λ i h st d hd=>by
  obtain ⟨h1,h2,⟨e,f,h3⟩,h4,⟨o,h5,_,d5⟩⟩:=st
  simp only [List.mem_cons,List.not_mem_nil,or_false] at hd
  rcases hd with rfl | rfl | rfl | rfl | rfl
  ·exact ⟨_,h1,λ v z=>nomatch z⟩
  ·exact ⟨_,h2,λ v z=>nomatch z⟩
  ·exact ⟨_,h3,λ v z=>nomatch z⟩
  ·exact h4.ob
  ·exact ⟨o,h5,λ v z=>by rw [d5] at z;cases z⟩
 keep:=λ i h h' st q=>by
  obtain ⟨h1,h2,⟨e,f,h3⟩,h4,h5⟩:=st
  exact ⟨q z (by simp) _ h1,q t (by simp) _ h2,⟨e,f,q p (by simp) _ h3⟩,h4.keep λ o x=>q j (by simp) o x,h5.at λ o x=>q k (by simp) o x⟩
 item:=by
  intro X hP hw hK hc i pins s σ H E I hf st hg
  subst hP hw hK
  obtain ⟨h1,h2,⟨e,f,h3⟩,h4,h5⟩:=st
  obtain ⟨xs,x,ys,y,hq,hx,hr,hy⟩:=hg
  obtain ⟨its,rv,pa,hz⟩:=I.sqA hq
  obtain ⟨jts,rw_,pc,hz'⟩:=I.list hr
  obtain ⟨u,hu,ru⟩:=rv.get hx
  obtain ⟨v,hv,rv'⟩:=rw_.get hy
  have zlt:z<s.heap.objs.size:=Heap.lt_size h1
  refine zom D h1 h2 h3 h4 h5 pa pc.isList an cn (x:=u) (y:=v) (by simpa using hu) (by simpa using hv) λ k1 z1 p1 j1 l1 t1 all1=>?_
  refine ⟨_,rfl,wpAny_letOwnedTupleGo_zip z1 λ k2 z2 s2=>?_⟩
  have hT2:k2.get? s.heap.objs.size=some { cls := .type "tuple",data := .seq #[u,v] }:=(s2.2 _ (Nat.ne_of_gt zlt)).trans t1
  have all2:∀ d o,d∉[z,t,p,j,k]→s.heap.get? d=some o→k2.get? d=some o:=λ d o hd q=>by
   have n1:d≠z:=λ e=>hd (by simp [e])
   exact (s2.2 d n1).trans (all1 d o n1 (λ e=>hd (by simp [e])) (λ e=>hd (by simp [e])) (λ e=>hd (by simp [e])) q)
  have I2:Inv X pins σ (upd H s.heap.objs.size (.tup [x,y])) { s with heap:=k2 }:=by
   refine I.turnLay (t':=s.toks) (ch:=[z,t,p,j,k]) hf all2 (Nat.le_refl _) ?_
   exact ⟨by show 2≤sizeLine;decide,[u,v],.cons ru (.cons rv' .nil),⟨_,hT2,rfl,_,rfl⟩⟩
  have hn:H s.heap.objs.size=none:=I.hok.fresh (Nat.le_refl _)
  refine ⟨.ref s.heap.objs.size,_,I2,rfl,⟨_,x,y,rfl,hn,rfl,λ xs' h'=>by rw [I.sqA_inj h' hq];exact hx,λ ys' h'=>by rw [I.list_inj h' hr];exact hy⟩,⟨z2,s2.extBut _ _ D.tz (all1 _ _ D.tz D.tp D.tj D.tk h2),⟨_,_,s2.extBut _ _ D.pz p1⟩,j1.keep λ o q=>s2.extBut _ _ D.jz q,l1.at λ o q=>s2.extBut _ _ D.kz q⟩,λ d hd=>?_⟩
  have hd':d<s.heap.objs.size:=by
   have hd2:=hd
   simp only [List.mem_cons,List.not_mem_nil,or_false] at hd2
   rcases hd2 with rfl | rfl | rfl | rfl | rfl
   ·exact zlt
   ·exact Heap.lt_size h2
   ·exact Heap.lt_size h3
   ·obtain ⟨o,q,_⟩:=h4.ob;exact Heap.lt_size q
   ·obtain ⟨o,q,_⟩:=h5;exact Heap.lt_size q
  rw [zwa (Nat.ne_of_lt hd')]
  exact (hf d hd).1
 done:=by
  intro X hP hw hK hc i pins s σ H E I hf st hg
  subst hP hw hK
  obtain ⟨h1,h2,⟨e,f,h3⟩,h4,h5⟩:=st
  obtain ⟨xs,hq,hx⟩:=hg
  obtain ⟨its,rv,pa,hz⟩:=I.sqA hq
  have hl:=rv.length
  exact zzl (I.ok.hd hc) D h1 h2 h3 h4 pa an.1 (by simp;omega) λ h' al=>⟨rfl,I.turnedL (t':=s.toks) hf λ d o hd q=>al d o (λ e=>hd (by simp [e])) (λ e=>hd (by simp [e])) q⟩
 self:=λ A i s Q E st h=>wpAny_pyIter_zip st.1 h
theorem zyp (n:Nat):Apt (n+4) (n+2) (n+3) n (n+1):=by
 constructor <;> (intro e;have e:(_:Nat)=(_:Nat):=e;omega)
theorem zal {a n:Nat} (h:a<n):(a:Addr)≠n+4∧(a:Addr)≠n+3∧(a:Addr)≠n∧(a:Addr)≠n+1:=by
 refine ⟨?_,?_,?_,?_⟩ <;> (intro e;have e:(_:Nat)=(_:Nat):=e;omega)
section
variable {X:Cx}
noncomputable def iZip (K:W.Frag) (b:Bool) (ta:TA):TI:=λ σ H R=>ta σ H λ vs H1=>∃ a c,vs=[.ref a,.ref c]∧(∃ xs,SqA b K H1 a xs)∧(∃ ys,SqL K H1 c ys)∧R (Itz K b a c) H1
theorem zbp (b:Bool) {elts:List Expr} {kk:Nat} {tp:Pos} {a c:Expr} {ta:TA} {p pos:Pos} (hg:Gl X "zip") (hm:X.mg "zip" = none) (hb:bootBuiltins "zip" = some (.type "zip")) (ha:PA X [a,c] ta) (hs:starEach [a,c] X.env=(false,eval a X.env)::starEach [c] X.env:=by rfl) (hs2:starEach [c] X.env=[(false,eval c X.env)]:=by rfl) :
  PI X (.Tuple elts kk tp) (.Call (.Name "zip" p) [a,c] [] pos) (iZip X.K b ta) := .mk <| by
 intro pins s σ H R I h
 refine Call_ (zph I hg hm hb (PyProof.Rows.callWith_type1 (thn (ha pos pins s σ H _ I h) λ us s1 ⟨vs,H1,I1,r1,q1⟩=>?_) hs (by rw [hs2];rfl)))
 obtain ⟨a1,c1,e,⟨xs,hq⟩,⟨ys,hr⟩,q⟩:=q1
 subst e
 cases r1 with
 | cons r rr =>
  cases rr with
  | cons r2 r3 =>
   cases r3
   cases r
   cases r2
   obtain ⟨its,rv,pa,hz⟩:=I1.sqA hq
   obtain ⟨jts,rw_,pc,hz'⟩:=I1.list hr
   refine zyk pa pc.isList λ h' z1 t1 p1 j1 k1 al=>?_
   have I2:Inv X pins σ H1 { s1 with heap:=h' }:=I1.kept (t':=s1.toks) al
   have la:a1<s1.heap.objs.size:=by obtain ⟨o,q⟩:=pa.ob;exact Heap.lt_size q
   have lc:c1<s1.heap.objs.size:=by obtain ⟨o,q,_⟩:=pc.isList;exact Heap.lt_size q
   have T:=zbn (P:=X.prog) (w:=X.w) (K:=X.K) (elts:=elts) (kk:=kk) (tp:=tp) (b:=b) (s1.heap.objs.size+4) (s1.heap.objs.size+2) (s1.heap.objs.size+3) s1.heap.objs.size (s1.heap.objs.size+1) a1 c1 (zyp _) (zal la) (zal lc)
   have t0:zlu b (s1.heap.objs.size+4) (s1.heap.objs.size+2) (s1.heap.objs.size+3) s1.heap.objs.size (s1.heap.objs.size+1) a1 c1 0 h':=⟨z1,t1,⟨_,_,p1⟩,j1,k1⟩
   refine T.self X.A 0 _ _ _ t0 ⟨_,_,_,_,H1,rfl,I2,T,t0,λ d hd=>?_,q⟩
   have hd':s1.heap.objs.size≤d:=by
    simp only [List.mem_cons,List.not_mem_nil,or_false] at hd
    rcases hd with rfl | rfl | rfl | rfl | rfl
    ·exact Nat.le_add_right _ _
    ·exact Nat.le_add_right _ _
    ·exact Nat.le_add_right _ _
    ·exact Nat.le_refl _
    ·exact Nat.le_add_right _ _
   exact I1.fpOk hd' (I1.hok.fresh hd')
end
theorem zjn {K:W.Frag} {b:Bool} {a c:Addr} {xs ys:List V} {nt:Nat} {cap:List Nat} {g:TG} {te:TE} {σ:St} {H1:Hp} {Q:VK} {D:Addr} (R:Nat→V→Hp→Prop) (hD:H1 D=none) (hP:Plain H1) (ha:SqA b K H1 a xs) (hc:SqL K H1 c ys) (hx:xs.length≤sizeLine) (hl':xs.length=ys.length)
  (mono:∀ i y H H',R i y H→(∀ b o,b≠D→H b=some o→H' b=some o)→(∃ zs,H D=some (.lst zs))→R i y H')
  (step:∀ (i:Nat) x y H2 T' (T:VK),xs[i]? = some x→ys[i]? = some y→Plain H2→Same H1 H2→H2 T'=none→(∀ v H6,R i v H6→Same H2 H6→Plain H6→T v H6)→g (.ref T') (List.replicate nt none++caps cap σ) (upd H2 T' (.tup [x,y])) λ σ4 H4=>te σ4 H4 T)
  (fin:∀ vs H2,vs.length=xs.length→(∀ (i:Nat) y,vs[i]? = some y→R i y H2)→H2 D=some (.lst vs)→Same H1 H2→Plain H2→Q (.ref D) H2) :
  zhq (Itz K b a c) D nt cap g tYes te σ H1 Q:=by
 refine ⟨λ i m vs H2=>m=xs.length - i∧i≤xs.length∧vs.length=i∧H2 D=some (.lst vs)∧Same H1 H2∧Plain H2∧∀ (j:Nat) y,vs[j]? = some y→R j y H2,⟨_,rfl,Nat.zero_le _,rfl,upd_same,zca hD,hP.lst,λ j y e=>by simp at e⟩,?_⟩
 rintro i m vs H2 ⟨rfl,hi,hl,hd,hs,hp,hr⟩
 refine ⟨hd,?_⟩
 by_cases hlt:i<xs.length
 ·have hlt':i<ys.length:=by omega
  refine .inr ⟨⟨xs,xs[i],ys,ys[i],ha.same hs,by simp [hlt],hs.seq hc,by simp [hlt']⟩,by omega,λ v H3 hy=>?_⟩
  obtain ⟨T',x,y,rfl,hT,rfl,hx',hy'⟩:=hy
  simp only [tYes,if_true]
  refine step i x y _ T' _ (hx' xs (ha.same hs)) (hy' ys (hs.seq hc)) hp hs hT λ v H6 hR hs6 hp6=>⟨hs6 _ _ hd,_,by omega,rfl,hlt,by simp [hl],upd_same,(hs.trans hs6).upd hD,hp6.lst,?_⟩
  intro j z e
  have up:∀ b o,b≠D→H6 b=some o→(upd H6 D (.lst (vs++[v]))) b=some o:=λ b o hb e=>by rw [zwa hb];exact e
  rcases Nat.lt_or_ge j vs.length with hj | hj
  ·rw [List.getElem?_append_left hj] at e
   exact mono j z H6 _ (mono j z _ H6 (hr j z e) (λ b o _ e=>hs6 b o e) ⟨_,hd⟩) up ⟨_,hs6 _ _ hd⟩
  ·have hj0:j=i:=by
    have:=(List.getElem?_eq_some_iff.mp e).1
    rw [List.length_append,List.length_cons,List.length_nil] at this
    omega
   subst hj0
   have e:some v=some z:=by rw [← e,← hl,List.getElem?_concat_length]
   cases e
   exact mono j v H6 _ hR up ⟨_,hs6 _ _ hd⟩
 ·have e:i=xs.length:=by omega
  subst e
  exact .inl ⟨⟨xs,ha.same hs,Nat.le_refl _⟩,fin vs H2 hl hr hd hs hp⟩
end L2
namespace L2
open PySem PySem.Spec PyProof.Rows PySem.NumText PySem.W
noncomputable def KvR (k:Str×V) (u:Str×Value):Prop:=k.1=u.1∧RelV k.2 u.2
noncomputable def tdOk (P:Program) (w:World) (a:Addr) (kvs:List (Str×V)) (h:Heap):Prop:=(a == sysModules)=false∧∃ us:List (Str×Value),Paired KvR kvs us∧h.DictOf (strKind P w) a us
noncomputable def tdO (P:Program) (w:World) (a:Addr) (kvs:List (Str×V)):HO := .ext (tdOk P w a kvs)
noncomputable def vAt (kvs:List (Str×V)) (k:Str):Option V:=(kvs.find? λ kv=>kv.1=k).map (·.2)
theorem zui:∀ {kvs:List (Str×V)} {us:List (Str×Value)},Paired KvR kvs us→∀ k,RelO (vAt kvs k) (valueAt us k)
 | _,_,.nil,k=>trivial
 | a::kvs,u::us,.cons r rr,k=>by
  unfold vAt valueAt
  rw [List.find?_cons,List.find?_cons,r.1]
  by_cases h:u.1=k
  ·rw [decide_eq_true h]
   exact r.2
  ·rw [decide_eq_false h]
   exact zui rr k
theorem zol:∀ {kvs:List (Str×V)} {us:List (Str×Value)},Paired KvR kvs us→us.map (·.1)=kvs.map (·.1)
 | _,_,.nil=>rfl
 | _,_,.cons r rr=>by rw [List.map_cons,List.map_cons,r.1,zol rr]
section
variable {X:Cx}
noncomputable abbrev TD:=St→Hp→(List (Str×V)→Hp→Prop)→Prop
structure PD (X:Cx) (ks:List (Option Expr)) (vs:List Expr) (pos:Pos) (t:TD):Prop where
 run:∀ (pins:List (Addr×Obj)) (s:Shared) (σ:St) (H:Hp) (Q:List (Str×V)→Hp→Prop),Inv X pins σ H s→t σ H Q →
  wpAny (model X.prog X.w) X.A (evalPairs (pairTrees ks vs X.env pos)) (λ ps s'=>∃ kvs us H',Inv X pins σ H' s'∧Carries (strKind X.prog X.w) ps us∧Paired KvR kvs us∧Q kvs H') X.xe s
noncomputable def dNil:TD:=λ _ H Q=>Q [] H
noncomputable def zcv (k:Str) (tv:TE) (t:TD):TD:=λ σ H Q=>tv σ H λ v H1=>t σ H1 λ kvs H2=>Q ((k,v)::kvs) H2
theorem zxt {pos:Pos}:PD X [] [] pos dNil := .mk λ pins s σ H Q I h=>pairTrees_nil_walk ⟨[],[],H,I,True.intro,.nil,h⟩
theorem zug (k:Str) {ke ve:Expr} {ks:List (Option Expr)} {vs:List Expr} {pos:Pos} {tk tv:TE} {t:TD} (hk:PE X ke tk) (htk:∀ σ H Q,Q (.str k) H→tk σ H Q) (hv:PE X ve tv) (h:PD X ks vs pos t):PD X (some ke::ks) (ve::vs) pos (zcv k tv t) := .mk <| by
 intro pins s σ H Q I hw
 refine pairTrees_cons_walk (thn (hk pins s σ H (λ v H1=>v = .str k∧H1=H) I (htk _ _ _ ⟨rfl,rfl⟩)) λ u s1 ⟨x,H1,I1,rx,ex,eH⟩=>?_)
 subst ex eH
 obtain ⟨tk',rfl⟩:=rx
 refine thn (hv pins s1 σ H1 _ I1 hw) λ u2 s2 ⟨y,H2,I2,ry,q2⟩=>?_
 refine thn (h.run pins s2 σ H2 _ I2 q2) λ ps s3 ⟨kvs,us,H3,I3,c3,p3,q3⟩=>?_
 exact ⟨(k,y)::kvs,(k,u2)::us,H3,I3,⟨beq_self_eq_true k,rfl,c3⟩,.cons ⟨rfl,ry⟩ p3,q3⟩
theorem zvr {P:Program} {w:World} {H:Hp} {h:Heap} {a:Addr} {kvs:List (Str×V)} {us:List (Str×Value)} (y:(a == sysModules)=false) (r:Paired KvR kvs us) (d:h.DictOf (strKind P w) a us):ObjOk P w H h a (tdO P w a kvs):=by
 obtain ⟨o,es,ep,h1,h2⟩:=id d
 exact ⟨⟨y,us,r,d⟩,⟨o,h1⟩,λ g1 g2 ⟨y,us,r,o,es,ep,q1,q2⟩ k=>⟨y,us,r,o,es,ep,k _ q1,q2⟩⟩
noncomputable def tTd (P:Program) (w:World) (t:TD):TE:=λ σ H Q=>∀ p,H p=none→t σ (upd H p (tdO P w p [])) λ kvs H1=>H1 p=some (tdO P w p [])∧(kvs.map (·.1)).Nodup∧Q (.ref p) (upd H1 p (tdO P w p kvs))
theorem zlw {ks:List (Option Expr)} {vs:List Expr} {pos:Pos} {t:TD} (h:PD X ks vs pos t) (hall:ks.all (·.isSome)=true:=by rfl) (hl:ks.length=vs.length:=by rfl) (h0:ks≠[]:=by simp) (hlen:ks.length≤15:=by decide):PE X (.Dict ks vs pos) (tTd X.prog X.w t) := .mk <| by
 intro pins s σ H Q I hw
 refine wpAny_Dict_walk (knd:=strKind X.prog X.w) hall hl h0 hlen ?_
 have y0:(s.heap.objs.size == sysModules)=false:=beq_eq_false_iff_ne.mpr (Ne.symm (Nat.ne_of_lt I.bigM))
 have I0:Inv X pins σ (upd H s.heap.objs.size (tdO X.prog X.w s.heap.objs.size [])) { s with heap:=s.heap.push { cls := .type "dict",data := .dict #[] } }:=I.laid (t':=s.toks) (λ _ _ q=>Heap.get?_push_of_some _ q) (Nat.le_refl _) (zvr y0 .nil (Heap.DictOf.new s.heap))
 refine thn (h.run _ _ σ _ _ I0 (hw _ (I.hok.fresh (Nat.le_refl _)))) λ ps s1 ⟨kvs,us,H1,I2,c2,p2,e1,nd,q⟩=>?_
 obtain ⟨⟨_,us0,r0,d0⟩,_,_⟩:=(show ObjOk X.prog X.w H1 s1.heap _ (tdO X.prog X.w _ []) from I2.hok _ _ e1)
 cases r0
 refine ⟨us,c2,d0,λ h' D' sb=>?_⟩
 have em:merged [] us=us:=merged_nil_of_nodup us (by rw [zol p2];exact nd)
 rw [em] at D'
 have he:∃ ob,h'.get? s.heap.objs.size=some ob:=let ⟨ob,_,_,hq,_⟩:=D'; ⟨ob,hq⟩
 exact ⟨.ref _,_,I2.write (t':=_) (by rw [e1];exact True.intro) (.inl rfl) (λ b ob hb z=>(sb.2 b hb).trans z) he (zvr y0 p2 D'),rfl,q⟩
noncomputable def zbm (P:Program) (w:World):R2:=λ x y H Q=>∃ k a kvs,x = .str k∧y = .ref a∧H a=some (tdO P w a kvs)∧Q (.bl (!(vAt kvs k).isSome)) H
theorem zij:OpR X (compareOp .NotIn) (zbm X.prog X.w):=by
 intro pins s σ H x y v u Q I rx ry h
 obtain ⟨k,a,kvs,rfl,rfl,ha,q⟩:=h
 obtain ⟨t,rfl⟩:=rx
 cases ry
 obtain ⟨⟨y0,us,r,d⟩,_,_⟩:=(show ObjOk X.prog X.w H s.heap a (tdO X.prog X.w a kvs) from I.hok a _ ha)
 refine wpAny_notIn_of (knd:=strKind X.prog X.w) (beq_self_eq_true k) y0 d.mapOf ?_
 rw [← zvo (zui r k)]
 exact ⟨.bl _,H,I.tok _,rfl,q⟩
noncomputable def zbv (P:Program) (w:World):R2:=λ x y H Q=>∃ k a kvs v,x = .ref a∧y = .str k∧H a=some (tdO P w a kvs)∧vAt kvs k=some v∧Q v H
theorem zgw:IxR X (zbv X.prog X.w):=by
 intro value slice pins s σ H x y v u Q I rx ry h hs
 obtain ⟨k,a,kvs,v',rfl,rfl,ha,hf,q⟩:=h
 cases rx
 obtain ⟨t,rfl⟩:=ry
 obtain ⟨⟨y0,us,r,d⟩,_,_⟩:=(show ObjOk X.prog X.w H s.heap a (tdO X.prog X.w a kvs) from I.hok a _ ha)
 have hT:s.TypeIs (.ref a) "dict" := d.typeIs
 have rl:=zui r k
 rw [hf] at rl
 obtain ⟨u',hu,ru⟩:=znj rl
 have fin:wpAny (model X.prog X.w) X.A (subscripted slice false (.ref a) (.str k t)) (λ r s3=>wpAny (model X.prog X.w) X.A (letTemporaryGo value (.ref a) r >>= λ _=>pure r) (EP X pins σ Q) X.xe s3) X.xe s:=by
  rw [hs]
  refine wpAny_operating (wpAny_getItem_of (knd:=strKind X.prog X.w) (k:=k) (beq_self_eq_true k) d.mapOf hu ?_)
  exact wpAny_bind (wpAny_letTemporaryGo (wpAny_pure ⟨v',H,I.tok _,ru,q⟩))
 unfold subscriptTail
 refine wpAny_bind ?_
 rw [getitemInPython_of_ne hT.not_modules]
 refine wpAny_bind (wpAny_specialOf hT PySem.F.slot_dict_getitem.lookup ?_)
 first
  | exact wpAny_pure (wpAny_bind fin)
  | exact wpAny_bind (wpAny_pure (wpAny_bind fin))
end
end L2
namespace L2
open PySem PySem.Spec PyProof.Rows PySem.NumText PySem.W
section
variable {X:Cx}
noncomputable def zrw:R2:=λ x y H Q=>∃ z n,x = .str z∧y = .int n∧MulOk z n∧Q (.str (Txt.mul z n)) H
theorem zie:OpR X (binaryOp .Mult) zrw:=by
 intro pins s σ H x y v u Q I rx ry h
 obtain ⟨z,n,rfl,rfl,hm,q⟩:=h
 obtain ⟨t,rfl⟩:=rx
 obtain ⟨t',rfl⟩:=ry
 exact SB.mul (n:=n) hm λ t'' k'=>⟨.str _,H,I.tok _,⟨_,rfl⟩,q⟩
end
section
variable {X:Cx}
end
theorem zfg:MulOk "9" 30:=⟨by decide,λ _ _=>by decide,λ _ _=>by decide +kernel⟩
theorem zcg:MulOk "9" 31:=⟨by decide,λ _ _=>by decide,λ _ _=>by decide +kernel⟩
end L2
namespace L2
open PySem PySem.Spec PyProof.Rows PySem.NumText PySem.W
section
variable {X:Cx}
noncomputable def zzu (d:Addr) (kvs:List (Str×Value)):R2:=λ x y H Q=>y = .ref d∧∃ k,x = .str k∧Q (.bl (valueAt kvs k).isSome) H
theorem zmp {d:Addr} {kvs:List (Str×Value)} (D:DcK X.w X.K d kvs) (hd:(d == sysModules)=false):OpR X (compareOp .In) (zzu d kvs):=by
 intro pins s σ H x y v u Q I rx ry h
 obtain ⟨rfl,k,rfl,q⟩:=h
 obtain ⟨t,rfl⟩:=rx
 cases ry
 have dd:s.heap.DictOf (strKind X.prog X.w) d kvs:=D.dict I.kIn
 exact wpAny_in_of (knd:=strKind X.prog X.w) (beq_self_eq_true k) hd dd.mapOf ⟨.bl _,H,I.tok _,rfl,q⟩
noncomputable def zzk (P:Program) (w:World) (td ty tv:TE):TS:=λ D σ H=>tv σ H λ v H1=>td σ H1 λ x H2=>ty σ H2 λ y H3=>∃ a kvs k,x = .ref a∧H3 a=some (tdO P w a kvs)∧y = .str k∧(kvs.all λ e => !(e.1 == k))=true∧kvs.length≤100∧D.nx σ (upd H3 a (tdO P w a (kvs++[(k,v)])))
theorem zsi {us:List (Str×Value)} {k:Str} {v:Value} (h:(us.all λ e => !(e.1 == k))=true):stored us k v=us++[(k,v)]:=by
 unfold stored
 refine if_neg λ x=>?_
 obtain ⟨e,he,x⟩:=List.any_eq_true.mp x
 have h2:=List.all_eq_true.mp h e he
 rw [of_decide_eq_true x,beq_self_eq_true] at h2
 cases h2
theorem zio {k:Str}:∀ {kvs:List (Str×V)} {us:List (Str×Value)},Paired KvR kvs us→(kvs.all λ e => !(e.1 == k))=true→(us.all λ e => !(e.1 == k))=true
 | _,_,.nil,_=>rfl
 | _,_,.cons r rr,h=>by
  rw [List.all_cons,Bool.and_eq_true] at h ⊢
  exact ⟨by rw [← r.1];exact h.1,zio rr h.2⟩
theorem zbl {k:Str} {v:V} {u:Value} (r:RelV v u):∀ {kvs:List (Str×V)} {us:List (Str×Value)},Paired KvR kvs us→Paired KvR (kvs++[(k,v)]) (us++[(k,u)])
 | _,_,.nil=>.cons ⟨rfl,r⟩ .nil
 | _,_,.cons a b=>.cons a (zbl r b)
theorem zud {o i value:Expr} {pos pos':Pos} {td ty tv:TE} (ho:PE X o td) (hi:PE X i ty) (hv:PE X value tv) (hs:swapsWith value (some (.Subscript o i pos')) pos.line X.env=pure false) :
  PS X (.Assign [.Subscript o i pos'] value pos) (zzk X.prog X.w td ty tv) := .mk <| by
 intro pins s σ H D I h
 refine wpAny_Assign_Subscript (thn (hv pins s σ H _ I h) λ r s1 ⟨v,H1,I1,rv,q1⟩=>thn (ho pins s1 σ H1 _ I1 q1) λ u s2 ⟨x,H2,I2,rx,q2⟩=>thn (hi pins s2 σ H2 _ I2 q2) λ iv s3 ⟨y,H3,I3,ry,a,kvs,k,ex,ha,ey,hk,hl,kq⟩=>?_) hs
 subst ex ey
 cases rx
 obtain ⟨t,rfl⟩:=ry
 obtain ⟨⟨y0,us,r,d⟩,_,_⟩:=(show ObjOk X.prog X.w H3 s3.heap a (tdO X.prog X.w a kvs) from I3.hok a _ ha)
 refine wpAny_setItem_pairs (hsz:=by rw [← Paired.length r];exact Nat.le_of_lt (Nat.lt_of_le_of_lt hl (by decide))) (knd:=strKind X.prog X.w) (beq_self_eq_true k) d λ h' dd' sb=>?_
 rw [zsi (zio r hk)] at dd'
 have he:∃ ob,h'.get? a=some ob:=let ⟨ob,_,_,hq,_⟩:=dd'; ⟨ob,hq⟩
 exact ⟨σ,_,I3.write (t':=_) (x:=a) (e:=a) (by rw [ha];exact True.intro) (.inl rfl) (λ b ob hb z=>(sb.2 b hb).trans z) he (zvr y0 (zbl rv r) dd'),kq⟩
end
theorem zno {K:W.Frag} {b:Bool} {a c:Addr} {xs ys:List V} {g:TG} {tb:TS} {D:Ends} {σ:St} {H:Hp} (Pv:Nat→St→Hp→Prop) (h0:Pv 0 σ H) (hll:xs.length=ys.length) (hl:∀ i σ H,i≤xs.length→Pv i σ H→SqA b K H a xs∧SqL K H c ys)
  (hs:∀ i x y T σ H,xs[i]? = some x→ys[i]? = some y→Pv i σ H→H T=none→g (.ref T) σ (upd H T (.tup [x,y])) λ σ2 H2=>tb { D with nx:=Pv (i+1),ct:=Pv (i+1),bk:=D.nx } σ2 H2) (hd:∀ σ H,Pv xs.length σ H→D.nx σ H) :
  ∃ W:Nat→Nat→St→Hp→Prop,(∃ m,W 0 m σ H)∧∀ i m σ H,W i m σ H →
   ((Itz K b a c).stop i H∧D.nx σ H) ∨ ((Itz K b a c).go i H∧∃ N:St→Hp→Prop,(∀ σ' H',N σ' H'→∃ m',m'<m∧W (i+1) m' σ' H')∧∀ x H',(Itz K b a c).yld i H x H'→g x σ H' λ σ2 H2=>tb { D with nx:=N,ct:=N,bk:=D.nx } σ2 H2):=by
 refine ⟨λ i m σ H=>m=xs.length - i∧i≤xs.length∧Pv i σ H,⟨xs.length,by simp,Nat.zero_le _,h0⟩,?_⟩
 rintro i m σ H ⟨rfl,hi,p⟩
 obtain ⟨q1,q2⟩:=hl i σ H hi p
 by_cases hlt:i<xs.length
 ·have hlt':i<ys.length:=by omega
  refine .inr ⟨⟨xs,xs[i],ys,ys[i],q1,by simp [hlt],q2,by simp [hlt']⟩,Pv (i+1),λ σ' H' p'=>⟨xs.length - (i+1),by omega,rfl,hlt,p'⟩,λ x H' y=>?_⟩
  obtain ⟨T,x',y',rfl,hT,rfl,hx',hy'⟩:=y
  exact hs i x' y' T σ H (hx' xs q1) (hy' ys q2) p hT
 ·have e:i=xs.length:=by omega
  subst e
  exact .inl ⟨⟨xs,q1,Nat.le_refl _⟩,hd σ H p⟩
end L2
local macro_rules | `(tactic| walk_at "rd") => `(tactic| repeat (first
 | refine ⟨_,rfl,?_⟩
 | refine ⟨_,_,rfl,rfl,?_⟩
 | refine ⟨(by show (0:Int)<_;decide),?_⟩
 | refine ⟨⟨by decide,by decide⟩,?_⟩
 | refine ⟨Or.inr ⟨by decide,by decide⟩,?_⟩
 | refine ⟨⟨by decide,by decide,by decide⟩,?_⟩
 | refine ⟨_,_,_,_,rfl,rfl,L2.SqL.of L2.upd_same,rfl,?_⟩
 | refine ⟨_,_,_,_,rfl,rfl,L2.SqL.of (by assumption),rfl,?_⟩))
namespace My
open PySem L2 PySem.Spec PyProof.Rows PySem.NumText
local macro_rules | `(tactic| walk_at "sc") => `(tactic| exact ⟨rfl,rfl,rfl,by decide +kernel,rfl,by decide +kernel,by decide +kernel⟩)
theorem sm1 {n:Nat} (h:n≤1000):n≤sizeLine:=Nat.le_of_lt (zrj h)
theorem ip_2:(0:Int)<2:=by decide
theorem ip_4:(0:Int)<4:=by decide
theorem ip_8:(0:Int)<8:=by decide
theorem ip_9:(0:Int)<9:=by decide
theorem ziw:(0:Int)<11:=by decide
theorem zav:(0:Int)<20:=by decide
theorem zpv:(0:Int)<30:=by decide
theorem zmv:(0:Int)<50:=by decide
theorem zvv:(0:Int)<96:=by decide
theorem zut:(0:Int)<300:=by decide
theorem sz_0:0≤sizeLine:=by decide
theorem sz_1:1≤sizeLine:=by decide
theorem sz_2:2≤sizeLine:=by decide
theorem sz_3:3≤sizeLine:=by decide
theorem sz_4:4≤sizeLine:=by decide
theorem sz_5:5≤sizeLine:=by decide
theorem sz_7:7≤sizeLine:=by decide
noncomputable def top (i:Nat):Stmt:=PySem.Challenge.pw_twotabs_k48_slip_rows_spoiled.main.body.getD i (.Pass ⟨0,0,0,0⟩)
noncomputable abbrev zcs:Stmt:=top 14
noncomputable abbrev zqs:Stmt:=top 15
noncomputable abbrev s_q9:Stmt:=top 16
noncomputable abbrev zir:Stmt:=top 17
noncomputable abbrev s_q4:Stmt:=top 20
noncomputable abbrev s_q3:Stmt:=top 19
noncomputable abbrev zwr:Stmt:=top 18
noncomputable abbrev zcr:Stmt:=top 25
noncomputable abbrev zys:Stmt:=top 24
noncomputable abbrev s_q8:Stmt:=top 28
noncomputable abbrev s_q2:Stmt:=top 29
noncomputable abbrev zyt:Stmt:=top 55
noncomputable abbrev s_q6:Stmt:=top 56
noncomputable abbrev zyq:Stmt:=top 54
noncomputable abbrev zdr:Stmt:=top 53
noncomputable abbrev s_q0:Stmt:=top 52
noncomputable abbrev zzr:Stmt:=top 58
noncomputable abbrev zfs:Stmt:=top 59
noncomputable abbrev zis:Stmt:=top 60
noncomputable abbrev zrs:Stmt:=top 61
noncomputable abbrev s_q1:Stmt:=top 62
noncomputable abbrev s_q7:Stmt:=top 63
noncomputable abbrev zpr:Stmt:=top 64
noncomputable abbrev zts:Stmt:=top 65
noncomputable abbrev zmt:Stmt:=top 66
noncomputable abbrev s_q5:Stmt:=top 67
noncomputable abbrev zbt:Stmt:=top 68
noncomputable abbrev zjs:Stmt:=top 69
noncomputable abbrev znn:Stmt:=top 70
structure Adr where
 f_q26:Addr
 d_q26:FuncData
 f_q27:Addr
 d_q27:FuncData
 f_q9:Addr
 d_q9:FuncData
 f_q23:Addr
 d_q23:FuncData
 f_q4:Addr
 d_q4:FuncData
 f_q3:Addr
 d_q3:FuncData
 f_q20:Addr
 d_q20:FuncData
 f_q21:Addr
 d_q21:FuncData
 f_q12:Addr
 d_q12:FuncData
 f_q8:Addr
 d_q8:FuncData
 f_q2:Addr
 d_q2:FuncData
 f_q16:Addr
 d_q16:FuncData
 f_q6:Addr
 d_q6:FuncData
 f_q15:Addr
 d_q15:FuncData
 f_q25:Addr
 d_q25:FuncData
 f_q0:Addr
 d_q0:FuncData
 f_q11:Addr
 d_q11:FuncData
 f_q18:Addr
 d_q18:FuncData
 f_q24:Addr
 d_q24:FuncData
 f_q10:Addr
 d_q10:FuncData
 f_q1:Addr
 d_q1:FuncData
 f_q7:Addr
 d_q7:FuncData
 f_q22:Addr
 d_q22:FuncData
 f_q19:Addr
 d_q19:FuncData
 f_q13:Addr
 d_q13:FuncData
 f_q5:Addr
 d_q5:FuncData
 f_q17:Addr
 d_q17:FuncData
 f_q14:Addr
 d_q14:FuncData
 f_law:Addr
 d_law:FuncData
 DraftError:Addr
 NoBuilt:Addr
 NoPaper:Addr
 NoRow:Addr
 NoText:Addr
 NOTES:Addr
 CHOICES:Addr
 DEEDS:Addr
 v_DEEDS_put:Value
 v_DEEDS_take:Value
 v_DEEDS_move:Value
 v_DEEDS_write:Value
 v_DEEDS_part:Value
 v_DEEDS_join:Value
 v_DEEDS_carry:Value
 SHAPES:Addr
 v_SHAPES_begin:Addr
 v_SHAPES_put:Addr
 v_SHAPES_take:Addr
 v_SHAPES_move:Addr
 v_SHAPES_write:Addr
 v_SHAPES_part:Addr
 v_SHAPES_join:Addr
 v_SHAPES_carry:Addr
 v_SHAPES_undo:Addr
 v_SHAPES_again:Addr
 v_SHAPES_reload:Addr
 v_SHAPES_save:Addr
 v_SHAPES_back:Addr
 v_SHAPES_settle:Addr
 v_SHAPES_piece:Addr
 v_SHAPES_clash:Addr
 LEAST:Addr
 v_LEAST_beat:Tok
 v_LEAST_window:Tok
 v_LEAST_clash:Tok
 v_LEAST_save:Tok
 v_LEAST_count:Tok
structure Txt (w:World) (K:W.Frag) (mg:Str→Option Value) (A:Adr):Prop where
 F_q26:Fun K "is_words" "is_words" zcs A.f_q26 A.d_q26
 g_q26:mg "is_words" = some (.ref A.f_q26)
 k_q26:W.keepIn K (.ref A.f_q26)=true
 b_q26:Binds K A.d_q26 ["text"] []
 F_q27:Fun K "made_of" "made_of" zqs A.f_q27 A.d_q27
 g_q27:mg "made_of" = some (.ref A.f_q27)
 k_q27:W.keepIn K (.ref A.f_q27)=true
 b_q27:Binds K A.d_q27 ["text", "signs"] []
 F_q9:Fun K "read_number" "read_number" s_q9 A.f_q9 A.d_q9
 g_q9:mg "read_number" = some (.ref A.f_q9)
 k_q9:W.keepIn K (.ref A.f_q9)=true
 b_q9:Binds K A.d_q9 ["text"] []
 F_q23:Fun K "read_from" "read_from" zir A.f_q23 A.d_q23
 g_q23:mg "read_from" = some (.ref A.f_q23)
 k_q23:W.keepIn K (.ref A.f_q23)=true
 b_q23:Binds K A.d_q23 ["least", "text"] []
 F_q4:Fun K "check_maker" "check_maker" s_q4 A.f_q4 A.d_q4
 g_q4:mg "check_maker" = some (.ref A.f_q4)
 k_q4:W.keepIn K (.ref A.f_q4)=true
 b_q4:Binds K A.d_q4 ["window", "count"] []
 F_q3:Fun K "read_dotted" "read_dotted" s_q3 A.f_q3 A.d_q3
 g_q3:mg "read_dotted" = some (.ref A.f_q3)
 k_q3:W.keepIn K (.ref A.f_q3)=true
 b_q3:Binds K A.d_q3 ["text", "many"] []
 F_q20:Fun K "read_mark" "read_mark" zwr A.f_q20 A.d_q20
 g_q20:mg "read_mark" = some (.ref A.f_q20)
 k_q20:W.keepIn K (.ref A.f_q20)=true
 b_q20:Binds K A.d_q20 ["text"] []
 F_q21:Fun K "read_step" "read_step" zcr A.f_q21 A.d_q21
 g_q21:mg "read_step" = some (.ref A.f_q21)
 k_q21:W.keepIn K (.ref A.f_q21)=true
 b_q21:Binds K A.d_q21 ["text"] []
 F_q12:Fun K "read_place" "read_place" zys A.f_q12 A.d_q12
 g_q12:mg "read_place" = some (.ref A.f_q12)
 k_q12:W.keepIn K (.ref A.f_q12)=true
 b_q12:Binds K A.d_q12 ["text"] []
 F_q8:Fun K "out_version" "out_version" s_q8 A.f_q8 A.d_q8
 g_q8:mg "out_version" = some (.ref A.f_q8)
 k_q8:W.keepIn K (.ref A.f_q8)=true
 b_q8:Binds K A.d_q8 ["beat"] []
 F_q2:Fun K "read_version" "read_version" s_q2 A.f_q2 A.d_q2
 g_q2:mg "read_version" = some (.ref A.f_q2)
 k_q2:W.keepIn K (.ref A.f_q2)=true
 b_q2:Binds K A.d_q2 ["text"] []
 F_q16:Fun K "read_words" "read_words" zyt A.f_q16 A.d_q16
 g_q16:mg "read_words" = some (.ref A.f_q16)
 k_q16:W.keepIn K (.ref A.f_q16)=true
 b_q16:Binds K A.d_q16 ["text"] []
 F_q6:Fun K "read_choice" "read_choice" s_q6 A.f_q6 A.d_q6
 g_q6:mg "read_choice" = some (.ref A.f_q6)
 k_q6:W.keepIn K (.ref A.f_q6)=true
 b_q6:Binds K A.d_q6 ["text"] []
 F_q15:Fun K "read_field" "read_field" zyq A.f_q15 A.d_q15
 g_q15:mg "read_field" = some (.ref A.f_q15)
 k_q15:W.keepIn K (.ref A.f_q15)=true
 b_q15:Binds K A.d_q15 ["kind", "text"] []
 F_q25:Fun K "read_row" "read_row" zdr A.f_q25 A.d_q25
 g_q25:mg "read_row" = some (.ref A.f_q25)
 k_q25:W.keepIn K (.ref A.f_q25)=true
 b_q25:Binds K A.d_q25 ["row"] []
 F_q0:Fun K "read_slip_row" "read_slip_row" s_q0 A.f_q0 A.d_q0
 g_q0:mg "read_slip_row" = some (.ref A.f_q0)
 k_q0:W.keepIn K (.ref A.f_q0)=true
 b_q0:Binds K A.d_q0 ["row"] []
 F_q11:Fun K "_law_signs" "_law_signs" zzr A.f_q11 A.d_q11
 g_q11:mg "_law_signs" = some (.ref A.f_q11)
 k_q11:W.keepIn K (.ref A.f_q11)=true
 b_q11:Binds K A.d_q11 [] []
 F_q18:Fun K "_law_good" "_law_good" zfs A.f_q18 A.d_q18
 g_q18:mg "_law_good" = some (.ref A.f_q18)
 k_q18:W.keepIn K (.ref A.f_q18)=true
 b_q18:Binds K A.d_q18 ["_law_number_here"] []
 F_q24:Fun K "_law_odd" "_law_odd" zis A.f_q24 A.d_q24
 g_q24:mg "_law_odd" = some (.ref A.f_q24)
 k_q24:W.keepIn K (.ref A.f_q24)=true
 b_q24:Binds K A.d_q24 ["_law_number_here"] []
 F_q10:Fun K "_law_worded" "_law_worded" zrs A.f_q10 A.d_q10
 g_q10:mg "_law_worded" = some (.ref A.f_q10)
 k_q10:W.keepIn K (.ref A.f_q10)=true
 b_q10:Binds K A.d_q10 ["_law_row", "_law_number_here"] []
 F_q1:Fun K "_law_spoiled" "_law_spoiled" s_q1 A.f_q1 A.d_q1
 g_q1:mg "_law_spoiled" = some (.ref A.f_q1)
 k_q1:W.keepIn K (.ref A.f_q1)=true
 b_q1:Binds K A.d_q1 ["_law_row", "_law_number_here"] []
 F_q7:Fun K "_law_number" "_law_number" s_q7 A.f_q7 A.d_q7
 g_q7:mg "_law_number" = some (.ref A.f_q7)
 k_q7:W.keepIn K (.ref A.f_q7)=true
 b_q7:Binds K A.d_q7 ["_law_text", "_law_least"] []
 F_q22:Fun K "_law_mark" "_law_mark" zpr A.f_q22 A.d_q22
 g_q22:mg "_law_mark" = some (.ref A.f_q22)
 k_q22:W.keepIn K (.ref A.f_q22)=true
 b_q22:Binds K A.d_q22 ["_law_text"] []
 F_q19:Fun K "_law_part" "_law_part" zts A.f_q19 A.d_q19
 g_q19:mg "_law_part" = some (.ref A.f_q19)
 k_q19:W.keepIn K (.ref A.f_q19)=true
 b_q19:Binds K A.d_q19 ["_law_kind", "_law_text"] []
 F_q13:Fun K "_law_kinds" "_law_kinds" zmt A.f_q13 A.d_q13
 g_q13:mg "_law_kinds" = some (.ref A.f_q13)
 k_q13:W.keepIn K (.ref A.f_q13)=true
 b_q13:Binds K A.d_q13 ["_law_word"] []
 F_q5:Fun K "_law_judged" "_law_judged" s_q5 A.f_q5 A.d_q5
 g_q5:mg "_law_judged" = some (.ref A.f_q5)
 k_q5:W.keepIn K (.ref A.f_q5)=true
 b_q5:Binds K A.d_q5 ["_law_row"] []
 F_q17:Fun K "_law_right" "_law_right" zbt A.f_q17 A.d_q17
 g_q17:mg "_law_right" = some (.ref A.f_q17)
 k_q17:W.keepIn K (.ref A.f_q17)=true
 b_q17:Binds K A.d_q17 ["_law_row"] []
 F_q14:Fun K "_law_mixed" "_law_mixed" zjs A.f_q14 A.d_q14
 g_q14:mg "_law_mixed" = some (.ref A.f_q14)
 k_q14:W.keepIn K (.ref A.f_q14)=true
 b_q14:Binds K A.d_q14 ["_law_cell", "_law_k"] []
 F_law:Fun K "law" "law" znn A.f_law A.d_law
 g_law:mg "law" = some (.ref A.f_law)
 k_law:W.keepIn K (.ref A.f_law)=true
 b_law:Binds K A.d_law ["_law_script"] []
 u_FIGURES:∃ t,mg "FIGURES" = some (.str "0123456789" t)
 u_HEAD_OF_ALL:∃ t,mg "HEAD_OF_ALL" = some (.str "-" t)
 u_MOST_FIGURES:∃ t,mg "MOST_FIGURES" = some (.int (30) t)
 u_OUT:∃ t,mg "OUT" = some (.str "-" t)
 g_DraftError:mg "DraftError" = some (.ref A.DraftError)
 x_DraftError:XCls K A.DraftError
 g_NoBuilt:mg "NoBuilt" = some (.ref A.NoBuilt)
 x_NoBuilt:XCls K A.NoBuilt
 g_NoPaper:mg "NoPaper" = some (.ref A.NoPaper)
 x_NoPaper:XCls K A.NoPaper
 g_NoRow:mg "NoRow" = some (.ref A.NoRow)
 x_NoRow:XCls K A.NoRow
 g_NoText:mg "NoText" = some (.ref A.NoText)
 x_NoText:XCls K A.NoText
 g_NOTES:mg "NOTES" = some (.ref A.NOTES)
 t_NOTES:∀ H,SqT K H A.NOTES [.str "begin",.str "undo",.str "again",.str "reload"]
 g_CHOICES:mg "CHOICES" = some (.ref A.CHOICES)
 t_CHOICES:∀ H,SqT K H A.CHOICES [.str "stay",.str "turn",.str "both"]
 g_DEEDS:mg "DEEDS" = some (.ref A.DEEDS)
 t_DEEDS:DcK w K A.DEEDS [("put",A.v_DEEDS_put),("take",A.v_DEEDS_take),("move",A.v_DEEDS_move),("write",A.v_DEEDS_write),("part",A.v_DEEDS_part),("join",A.v_DEEDS_join),("carry",A.v_DEEDS_carry)]
 g_SHAPES:mg "SHAPES" = some (.ref A.SHAPES)
 y_SHAPES:(A.SHAPES == sysModules)=false
 t_SHAPES:DcK w K A.SHAPES [("begin",.ref A.v_SHAPES_begin),("put",.ref A.v_SHAPES_put),("take",.ref A.v_SHAPES_take),("move",.ref A.v_SHAPES_move),("write",.ref A.v_SHAPES_write),("part",.ref A.v_SHAPES_part),("join",.ref A.v_SHAPES_join),("carry",.ref A.v_SHAPES_carry),("undo",.ref A.v_SHAPES_undo),("again",.ref A.v_SHAPES_again),("reload",.ref A.v_SHAPES_reload),("save",.ref A.v_SHAPES_save),("back",.ref A.v_SHAPES_back),("settle",.ref A.v_SHAPES_settle),("piece",.ref A.v_SHAPES_piece),("clash",.ref A.v_SHAPES_clash)]
 q_SHAPES_begin:∀ H,SqT K H A.v_SHAPES_begin [.str "beat",.str "window",.str "save"]
 q_SHAPES_put:∀ H,SqT K H A.v_SHAPES_put [.str "beat",.str "behind",.str "words"]
 q_SHAPES_take:∀ H,SqT K H A.v_SHAPES_take [.str "beat",.str "mark"]
 q_SHAPES_move:∀ H,SqT K H A.v_SHAPES_move [.str "beat",.str "mark",.str "behind"]
 q_SHAPES_write:∀ H,SqT K H A.v_SHAPES_write [.str "beat",.str "mark",.str "words"]
 q_SHAPES_part:∀ H,SqT K H A.v_SHAPES_part [.str "beat",.str "mark",.str "many"]
 q_SHAPES_join:∀ H,SqT K H A.v_SHAPES_join [.str "beat",.str "mark"]
 q_SHAPES_carry:∀ H,SqT K H A.v_SHAPES_carry [.str "beat",.str "mark",.str "mark",.str "behind"]
 q_SHAPES_undo:∀ H,SqT K H A.v_SHAPES_undo [.str "beat"]
 q_SHAPES_again:∀ H,SqT K H A.v_SHAPES_again [.str "beat"]
 q_SHAPES_reload:∀ H,SqT K H A.v_SHAPES_reload [.str "beat",.str "save"]
 q_SHAPES_save:∀ H,SqT K H A.v_SHAPES_save [.str "beat",.str "window",.str "count"]
 q_SHAPES_back:∀ H,SqT K H A.v_SHAPES_back [.str "beat",.str "save"]
 q_SHAPES_settle:∀ H,SqT K H A.v_SHAPES_settle [.str "beat",.str "clash",.str "choice"]
 q_SHAPES_piece:∀ H,SqT K H A.v_SHAPES_piece [.str "mark",.str "version"]
 q_SHAPES_clash:∀ H,SqT K H A.v_SHAPES_clash [.str "mark",.str "version"]
 g_LEAST:mg "LEAST" = some (.ref A.LEAST)
 y_LEAST:(A.LEAST == sysModules)=false
 t_LEAST:DcK w K A.LEAST [("beat",.int 1 A.v_LEAST_beat),("window",.int 1 A.v_LEAST_window),("clash",.int 1 A.v_LEAST_clash),("save",.int 0 A.v_LEAST_save),("count",.int 0 A.v_LEAST_count)]
 m_nd:W.mroIn K A.NoText (.ref A.DraftError)=some true
 kv:W.kitOne K (.ref A.NoText) (.type "ValueError")=some true
 kt:W.kitAny K (.ref A.NoText) [.ref A.NoBuilt,.ref A.NoPaper,.ref A.NoRow]=some false
 y_DEEDS:(A.DEEDS == sysModules)=false
 n_ValueError:mg "ValueError" = none
 n_all:mg "all" = none
 n_enumerate:mg "enumerate" = none
 n_int:mg "int" = none
 n_isinstance:mg "isinstance" = none
 n_len:mg "len" = none
 n_str:mg "str" = none
 n_tuple:mg "tuple" = none
 n_zip:mg "zip" = none
noncomputable def hasS (z t:Str):Bool := !(Builtin.Str.occurrences t z 0 t.length 1).isEmpty
noncomputable def zgs (z t:Str):Bool:=((List.range z.cps.size).map λ i=>hasS ⟨#[z.cps.toList.getD i 0]⟩ t).all id
theorem zmh (z:Str):zgs z DIG=z.cps.toList.all zhf:=by
 unfold zgs hasS
 rw [Bool.eq_iff_iff,List.all_eq_true,List.all_eq_true]
 constructor
 ·intro h c hc
  obtain ⟨i,hi,e⟩:=List.getElem_of_mem hc
  have hs:i<z.cps.size:=by simpa using hi
  have:=h _ (List.mem_map.mpr ⟨i,List.mem_range.mpr hs,rfl⟩)
  simp only [id] at this
  rw [zso] at this
  have e2:z.cps.toList.getD i 0=c:=by rw [List.getD_eq_getElem?_getD,List.getElem?_eq_getElem hi,e];rfl
  rw [e2] at this
  exact this
 ·intro h b hb
  obtain ⟨i,hi,e⟩:=List.mem_map.mp hb
  have hs:i<z.cps.toList.length:=by simpa using List.mem_range.mp hi
  rw [← e]
  simp only [id]
  rw [zso]
  refine h _ ?_
  rw [List.getD_eq_getElem?_getD,List.getElem?_eq_getElem hs]
  exact List.getElem_mem hs
noncomputable def zxp:Sp:=zch (λ (a:Str×Str) vs=>vs=[.str a.1,.str a.2]∧a.1.length≤1000) (λ a v=>v = .bl (zgs a.1 a.2))
noncomputable def zev (A:Adr):Sp:=λ vs H Q E=>Plain H∧∃ z:Str,vs=[.str z]∧z.length≤640∧(∀ n,zbc z.cps.toList=some n→Q (.int n) H)∧(zbc z.cps.toList=none→E (.ref A.NoText) none H)
noncomputable def vOpt:Option Int→V
 | none=>.non
 | some n=>.int n
theorem zsp {p:Prop} [Decidable p] {A B:Prop} (h:¬ p) (b:B):if decide p=true then A else B:=by rw [decide_eq_false h];exact iteF b
theorem zpn {p:Prop} [Decidable p] {A B:Prop} (h:p) (a:A):if decide p=true then A else B:=by rw [decide_eq_true h];exact iteT a
noncomputable def dotL (z:Str) (m:Int):Option (List Int):=if ((Txt.split z ".").length:Int)=m then zbb (λ p:Str=>zbc p.cps.toList) (Txt.split z ".") else none
noncomputable def znb (z:Str) (k:Int):Option Int:=match zbc z.cps.toList with
 | some n=>if n<k then none else some n
 | none=>none
noncomputable def zzv (A:Adr):Sp:=zfe (λ (a:Str×Int) vs _=>vs=[.str a.1,.int a.2]∧a.1.length≤640)
 (λ a v H=>∃ l ns,v = .ref l∧H l=some (.lst (ns.map V.int))∧dotL a.1 a.2=some ns) (λ a C=>C=A.NoText∧dotL a.1 a.2=none)
noncomputable def zjv (A:Adr):Sp:=zfe (λ (a:Int×Int) vs _=>vs=[.int a.1,.int a.2]) (λ a v _=>¬ (a.1<0 ∨ a.2<1)∧v = .non) (λ a C=>C=A.NoText∧(a.1<0 ∨ a.2<1))
theorem zec {α β:Type} {f:α→Option β}:∀ {xs:List α} {ys:List β},zbb f xs=some ys→ys.length=xs.length:=by
 intro xs
 induction xs with
 | nil=>intro ys e;cases e;rfl
 | cons a xs ih =>
  intro ys e
  unfold zbb at e
  cases h1:f a with
  | none=>rw [h1] at e;cases e
  | some y =>
   rw [h1] at e
   cases h2:zbb f xs with
   | none=>rw [h2] at e;cases e
   | some zs=>rw [h2] at e;cases e;simp [ih h2]
noncomputable def ztl (z:Str):Option Stp:=match dotL z 3 with
 | some [r,w,c]=>if w<0 ∨ c<1 then none else some (r,w,c)
 | _=>none
noncomputable def zjk (z:Str):Option (List Stp):=zbb ztl (Txt.split z "/")
noncomputable def zwc (z:Str):Option Int→Option Int
 | none=>zbc z.cps.toList
 | some k=>znb z k
noncomputable def zpu (A:Adr):Sp:=zfe (λ (z:Str) vs _=>vs=[.str z]∧z.length≤640) (λ z v H=>∃ t s,v = .ref t∧H t=some (.tup (sV s))∧ztl z=some s) (λ z C=>C=A.NoText∧ztl z=none)
noncomputable def zmw (K:W.Frag) (A:Adr):Sp:=zfe (λ (z:Str) vs _=>vs=[.str z]∧z.length≤640) (λ z v H=>∃ ss,DV K H (plc ss) v∧zjk z=some ss) (λ z C=>C=A.NoText∧zjk z=none)
theorem len3 {α:Type} {l:List α} (h:l.length=3):∃ a b c,l=[a,b,c]:=by
 match l,h with
 | [a,b,c],_=>exact ⟨a,b,c,rfl⟩
theorem zjm {z:Str} {ns:List Int} (h:dotL z 3=some ns):∃ a b c,ns=[a,b,c]:=by
 unfold dotL at h
 split at h
 ·rename_i e
  have:=zec h
  exact len3 (by omega)
 ·cases h
theorem zzm (g:Array Nat):∀ (ps:List Str) (a:Array Nat),(ps.foldl (λ acc p=>acc++g++p.cps) a).size=a.size+(ps.map (·.length)).sum+ps.length * g.size:=by
 intro ps
 induction ps with
 | nil=>intro a;simp
 | cons p ps ih =>
  intro a
  rw [List.foldl_cons,ih]
  simp only [Array.size_append,List.map_cons,List.sum_cons,List.length_cons,Nat.succ_mul]
  have:p.length=p.cps.size:=rfl
  omega
theorem zrm (g:Str) (ps:List Str):(Txt.join g ps).length≤(ps.map (·.length)).sum+ps.length * g.length:=by
 show ((ps.drop 1).foldl (λ acc p=>acc++g.cps++p.cps) (ps.headD Str.empty).cps).size≤_
 rw [zzm]
 cases ps with
 | nil=>simp [Str.empty]
 | cons p ps =>
  have e1:((p::ps).drop 1)=ps:=rfl
  have e2:((p::ps).headD Str.empty)=p:=rfl
  rw [e1,e2]
  simp only [List.map_cons,List.sum_cons,List.length_cons,Nat.succ_mul]
  have h1:p.length=p.cps.size:=rfl
  have h2:ps.length * g.length=ps.length * g.cps.size:=rfl
  have h3:g.length=g.cps.size:=rfl
  omega
noncomputable def zxe (z:Str):Option (Int×Int):=match dotL z 2 with
 | some [a,b]=>if a<0 ∨ b<1 then none else some (a,b)
 | _=>none
noncomputable def zuv (A:Adr):Sp:=zfe (λ (z:Str) vs _=>vs=[.str z]∧z.length≤640) (λ z v H=>∃ t a b,v = .ref t∧H t=some (.tup [.int a,.int b])∧zxe z=some (a,b)) (λ z C=>C=A.NoText∧zxe z=none)
theorem zxq {z:Str} {ns:List Int} (h:dotL z 2=some ns):∃ a b,ns=[a,b]:=by
 unfold dotL at h
 split at h
 ·rename_i e
  have:=zec h
  match ns,(show ns.length=2 by omega) with
  | [a,b],_=>exact ⟨a,b,rfl⟩
 ·cases h
noncomputable def sp_law (K:W.Frag):Sp:=λ vs H Q _=>∃ (a:Addr) (ns:List Int),vs=[.ref a]∧SqL K H a (ns.map V.int)∧ns.length≤63∧(∀ H',Q (.bl true) H')∧Plain H
theorem zov {p:Prop} [Decidable p] {A B:Prop} (h:¬ p) (a:A):if (!decide p)=true then A else B:=by rw [decide_eq_false h];exact iteT a
theorem zfm {K:W.Frag} {H:Hp} {t:Addr} (h:H t=some (.tup [])):DV K H (plc []) (.ref t):=⟨t,[],rfl,SqT.of h,rfl⟩
noncomputable def zxc (z:Str):Bool:=(!hasS "\n" z) && (!hasS "\t" z)
noncomputable def zgr:Sp:=zch (λ (z:Str) vs=>vs=[.str z]) (λ z v=>v = .bl (zxc z))
theorem zel (c:Nat) (z:Str):hasS ⟨#[c]⟩ z=decide (c∈z.cps.toList):=zgi c z
theorem zkk (z:Str):zxc z=(!decide (10∈z.cps.toList) && !decide (9∈z.cps.toList)):=by
 unfold zxc
 rw [show (Str.ofString "\n")=⟨#[10]⟩ from rfl,show (Str.ofString "\t")=⟨#[9]⟩ from rfl,zel,zel]
noncomputable def zqq (b:Int) (r:Str):Option Ver:=match zjk (Txt.partition r " ").1 with
 | none=>none
 | some ss=>if (Txt.partition r " ").2.1 = "" ∨ zxc (Txt.partition r " ").2.2=false then none else some (b,ss,(Txt.partition r " ").2.2)
noncomputable def verL (z:Str):Option Ver:=match znb (Txt.partition z " ").1 1 with
 | none=>none
 | some b=>if (Txt.partition z " ").2.2 = "-" then some (b,[], "") else zqq b (Txt.partition z " ").2.2
noncomputable def zbs (K:W.Frag):Sp:=zfe (λ (b:Int) vs _=>vs=[.int b]) (λ b r H=>DV K H (ver (b,[], "")) r) (λ _ _=>False)
noncomputable def zsw (K:W.Frag) (A:Adr):Sp:=zfe (λ (z:Str) vs _=>vs=[.str z]∧z.length≤640) (λ z r H=>∃ v,DV K H (ver v) r∧verL z=some v) (λ z C=>C=A.NoText∧verL z=none)
theorem zdg {z:Str} {k n:Int} (h:znb z k=some n) {c:Nat} (hc:c∈z.cps.toList):c=45 ∨ zhf c=true:=by
 unfold znb at h
 split at h
 ·rename_i e
  exact zji e c hc
 ·cases h
theorem zlk {z:Str} (h:znb (Txt.partition z " ").1 1=none):verL z=none:=by
 unfold verL
 rw [h]
theorem zlm {z:Str} {b:Int} (h:znb (Txt.partition z " ").1 1=some b) (e:(Txt.partition z " ").2.2 = "-"):verL z=some ((b,[], ""):Ver):=by
 unfold verL
 rw [h]
 exact if_pos e
theorem ztn {z:Str} {b:Int} (h:znb (Txt.partition z " ").1 1=some b) (e:¬ (Txt.partition z " ").2.2 = "-"):verL z=zqq b (Txt.partition z " ").2.2:=by
 unfold verL
 rw [h]
 exact if_neg e
theorem at0 {x:V} {xs:List V}:atI (x::xs) 0=some x:=zpg (j:=0) rfl
theorem at1 {x y:V} {xs:List V}:atI (x::y::xs) 1=some y:=zpg (j:=1) rfl
noncomputable def zbw (A:Adr):Sp:=zfe (λ (a:Int×Str) vs _=>vs=[.int a.1,.str a.2]∧a.2.length≤640) (λ a r _=>∃ n,r = .int n∧znb a.2 a.1=some n) (λ a C=>C=A.NoText∧znb a.2 a.1=none)
noncomputable def zyo:List Str:=["beat", "window", "save", "behind", "words", "mark", "many", "count", "clash", "choice", "version"]
noncomputable def zve (k:Str):Int:=if k = "save" ∨ k = "count" then 0 else 1
noncomputable def zgb (k z:Str):Option PyData :=
 if k = "mark" then (zxe z).map markD
 else if k = "behind" then (if z = "-" then some .none else (zxe z).map markD)
 else if k = "version" then (verL z).map ver
 else if k = "words" then (if zxc z=true then some (.str z) else none)
 else if k = "choice" then (if z∈(["stay", "turn", "both"]:List Str) then some (.str z) else none)
 else if k = "many" then (zbc z.cps.toList).map PyData.int
 else (znb z (zve k)).map PyData.int
noncomputable def SHAPES:List (Str×List Str):=[("begin",["beat", "window", "save"]),("put",["beat", "behind", "words"]),("take",["beat", "mark"]),("move",["beat", "mark", "behind"]),("write",["beat", "mark", "words"]),("part",["beat", "mark", "many"]),("join",["beat", "mark"]),("carry",["beat", "mark", "mark", "behind"]),("undo",["beat"]),("again",["beat"]),("reload",["beat", "save"]),("save",["beat", "window", "count"]),("back",["beat", "save"]),("settle",["beat", "clash", "choice"]),("piece",["mark", "version"]),("clash",["mark", "version"])]
noncomputable def zac (w:Str):Option (List Str):=(SHAPES.find? λ p=>p.1=w).map (·.2)
noncomputable def rowL (z:Str):Option (Str×List PyData):=match zac (Txt.partition z " ").1 with
 | none=>none
 | some ks=>match cutK 32 (Txt.split z " ") ks.length with
  | []=>none
  | w::fs=>if fs.length=ks.length then (zbb (λ p:Str×Str=>zgb p.1 p.2) (ks.zip fs)).map λ ds=>(w,ds) else none
noncomputable def zqv (A:Adr):Sp:=zfe (λ (z:Str) vs _=>vs=[.str z]) (λ z r _=>r = .str z∧zxc z=true) (λ z C=>C=A.NoText∧zxc z=false)
noncomputable def zfr (A:Adr):Sp:=zfe (λ (z:Str) vs _=>vs=[.str z]) (λ z r _=>r = .str z∧z∈(["stay", "turn", "both"]:List Str)) (λ z C=>C=A.NoText∧z∉(["stay", "turn", "both"]:List Str))
noncomputable def zyr (K:W.Frag) (A:Adr):Sp:=zfe (λ (a:Str×Str) vs _=>vs=[.str a.1,.str a.2]∧a.2.length≤640∧a.1∈zyo) (λ a r H=>∃ d,DV K H d r∧zgb a.1 a.2=some d) (λ a C=>C=A.NoText∧zgb a.1 a.2=none)
noncomputable def zhr (K:W.Frag) (A:Adr):Sp:=zfe (λ (z:Str) vs _=>vs=[.str z]∧z.length≤640) (λ z r H=>∃ w ds,DV K H (.tuple [.str w,.tuple ds]) r∧rowL z=some (w,ds)) (λ z C=>C=A.NoText∧rowL z=none)
theorem zff (z:Str):∀ l:List Str,inV (.str z) (l.map V.str)=decide (z∈l)
 | []=>rfl
 | a::l=>by
  have ih:=zff z l
  unfold inV at ih ⊢
  rw [List.map_cons,List.any_cons,ih]
  show ((a == z) || decide (z∈l))=decide (z∈a::l)
  by_cases h:z=a
  ·subst h
   rw [beq_self_eq_true,Bool.true_or,decide_eq_true List.mem_cons_self]
  ·rw [beq_eq_false_iff_ne.mpr (Ne.symm h),Bool.false_or]
   exact decide_eq_decide.mpr ⟨List.mem_cons_of_mem _,λ x=>(List.mem_cons.mp x).resolve_left h⟩
theorem zci (z:Str):zgb "mark" z=(zxe z).map markD:=by unfold zgb;rw [if_pos rfl]
theorem zte (z:Str):zgb "behind" z=(if z = "-" then some .none else (zxe z).map markD):=by
 unfold zgb
 rw [if_neg (show ¬ ("behind" : Str) = "mark" by decide),if_pos rfl]
theorem zhi (z:Str):zgb "version" z=(verL z).map ver:=by
 unfold zgb
 rw [if_neg (show ¬ ("version" : Str) = "mark" by decide),if_neg (show ¬ ("version" : Str) = "behind" by decide),if_pos rfl]
theorem zii (z:Str):zgb "words" z=(if zxc z=true then some (.str z) else none):=by
 unfold zgb
 rw [if_neg (show ¬ ("words" : Str) = "mark" by decide),if_neg (show ¬ ("words" : Str) = "behind" by decide),if_neg (show ¬ ("words" : Str) = "version" by decide),if_pos rfl]
theorem zpk (z:Str):zgb "choice" z=(if z∈(["stay", "turn", "both"]:List Str) then some (.str z) else none):=by
 unfold zgb
 rw [if_neg (show ¬ ("choice" : Str) = "mark" by decide),if_neg (show ¬ ("choice" : Str) = "behind" by decide),if_neg (show ¬ ("choice" : Str) = "version" by decide),if_neg (show ¬ ("choice" : Str) = "words" by decide),if_pos rfl]
theorem zoh (z:Str):zgb "many" z=(zbc z.cps.toList).map PyData.int:=by
 unfold zgb
 rw [if_neg (show ¬ ("many" : Str) = "mark" by decide),if_neg (show ¬ ("many" : Str) = "behind" by decide),if_neg (show ¬ ("many" : Str) = "version" by decide),if_neg (show ¬ ("many" : Str) = "words" by decide),if_neg (show ¬ ("many" : Str) = "choice" by decide),if_pos rfl]
theorem zoc {k:Str} (h:k∈(["beat", "window", "clash", "save", "count"]:List Str)) (z:Str):zgb k z=(znb z (zve k)).map PyData.int:=by
 have hn:∀ x∈(["beat", "window", "clash", "save", "count"]:List Str),¬ x = "mark" ∧ ¬ x = "behind" ∧ ¬ x = "version" ∧ ¬ x = "words" ∧ ¬ x = "choice" ∧ ¬ x = "many" := by decide
 obtain ⟨h1,h2,h3,h4,h5,h6⟩:=hn k h
 unfold zgb
 rw [if_neg h1,if_neg h2,if_neg h3,if_neg h4,if_neg h5,if_neg h6]
theorem zep {α:Type} {K:W.Frag} {H:Hp} {f:α→Option PyData}:∀ {xs:List α} {ys:List V},ys.length=xs.length→(∀ (i:Nat) y,ys[i]? = some y→∃ x d,xs[i]? = some x∧f x=some d∧DV K H d y)→∃ ds,zbb f xs=some ds∧DVs K H ds ys:=by
 intro xs
 induction xs with
 | nil =>
  intro ys hl _
  cases ys with
  | nil=>exact ⟨[],rfl,rfl⟩
  | cons _ _=>simp at hl
 | cons x xs ih =>
  intro ys hl h
  cases ys with
  | nil=>simp at hl
  | cons y ys =>
   obtain ⟨x',d,e1,e2,e3⟩:=h 0 y rfl
   cases (show some x=some x' from e1)
   obtain ⟨ds,h1,h2⟩:=ih (ys:=ys) (by simpa using hl) λ i z hz=>h (i+1) z hz
   refine ⟨d::ds,?_,y,ys,rfl,e3,h2⟩
   unfold zbb
   rw [e2,h1]
theorem zsr {k z:Str} {d:PyData} (h:zgb k z=some d):noL d=true:=by
 unfold zgb at h
 split at h
 ·obtain ⟨m,_,rfl⟩:=Option.map_eq_some_iff.mp h;rfl
 split at h
 ·split at h
  ·cases h;rfl
  ·obtain ⟨m,_,rfl⟩:=Option.map_eq_some_iff.mp h;rfl
 split at h
 ·obtain ⟨m,_,rfl⟩:=Option.map_eq_some_iff.mp h;exact zsn m
 split at h
 ·split at h
  ·cases h;rfl
  ·cases h
 split at h
 ·split at h
  ·cases h;rfl
  ·cases h
 split at h
 ·obtain ⟨m,_,rfl⟩:=Option.map_eq_some_iff.mp h;rfl
 ·obtain ⟨m,_,rfl⟩:=Option.map_eq_some_iff.mp h;rfl
theorem zjg {K:W.Frag} {H:Hp}:∀ {kvs:List (Str×Value)} {shs:List (Str×List Str)},Paired (λ (kv:Str×Value) (sh:Str×List Str)=>kv.1=sh.1∧∃ a,kv.2 = .ref a∧SqT K H a (sh.2.map V.str)) kvs shs→∀ k:Str,(valueAt kvs k=none∧(shs.find? λ p=>p.1=k)=none) ∨ ∃ a p,valueAt kvs k=some (.ref a)∧(shs.find? λ p=>p.1=k)=some p∧SqT K H a (p.2.map V.str)
 | _,_,.nil,k=>.inl ⟨rfl,rfl⟩
 | kv::kvs,sh::shs,.cons r rr,k=>by
  unfold valueAt
  rw [List.find?_cons,List.find?_cons,r.1]
  by_cases h:sh.1=k
  ·rw [decide_eq_true h]
   obtain ⟨a,e,hq⟩:=r.2
   exact .inr ⟨a,sh,by rw [← e];rfl,rfl,hq⟩
  ·rw [decide_eq_false h]
   exact zjg rr k
theorem zdf:∀ p∈SHAPES,(1≤p.2.length∧p.2.length≤4)∧∀ x∈p.2,x∈zyo:=by decide +kernel
noncomputable abbrev KVS (A:Adr):List (Str×Value):=[("begin",Value.ref A.v_SHAPES_begin),("put",Value.ref A.v_SHAPES_put),("take",Value.ref A.v_SHAPES_take),("move",Value.ref A.v_SHAPES_move),("write",Value.ref A.v_SHAPES_write),("part",Value.ref A.v_SHAPES_part),("join",Value.ref A.v_SHAPES_join),("carry",Value.ref A.v_SHAPES_carry),("undo",Value.ref A.v_SHAPES_undo),("again",Value.ref A.v_SHAPES_again),("reload",Value.ref A.v_SHAPES_reload),("save",Value.ref A.v_SHAPES_save),("back",Value.ref A.v_SHAPES_back),("settle",Value.ref A.v_SHAPES_settle),("piece",Value.ref A.v_SHAPES_piece),("clash",Value.ref A.v_SHAPES_clash)]
theorem zkn {w:World} {K:W.Frag} {mg:Str→Option Value} {A:Adr} (T:Txt w K mg A) (H:Hp) (k:Str):(valueAt (KVS A) k=none∧zac k=none) ∨
  ∃ a ks,valueAt (KVS A) k=some (.ref a)∧zac k=some ks∧SqT K H a (ks.map V.str)∧(1≤ks.length∧ks.length≤4)∧∀ x∈ks,x∈zyo:=by
 have pr:Paired (λ (kv:Str×Value) (sh:Str×List Str)=>kv.1=sh.1∧∃ a,kv.2 = .ref a∧SqT K H a (sh.2.map V.str)) (KVS A) SHAPES:=(.cons ⟨rfl,_,rfl,T.q_SHAPES_begin H⟩ (.cons ⟨rfl,_,rfl,T.q_SHAPES_put H⟩ (.cons ⟨rfl,_,rfl,T.q_SHAPES_take H⟩ (.cons ⟨rfl,_,rfl,T.q_SHAPES_move H⟩ (.cons ⟨rfl,_,rfl,T.q_SHAPES_write H⟩ (.cons ⟨rfl,_,rfl,T.q_SHAPES_part H⟩ (.cons ⟨rfl,_,rfl,T.q_SHAPES_join H⟩ (.cons ⟨rfl,_,rfl,T.q_SHAPES_carry H⟩ (.cons ⟨rfl,_,rfl,T.q_SHAPES_undo H⟩ (.cons ⟨rfl,_,rfl,T.q_SHAPES_again H⟩ (.cons ⟨rfl,_,rfl,T.q_SHAPES_reload H⟩ (.cons ⟨rfl,_,rfl,T.q_SHAPES_save H⟩ (.cons ⟨rfl,_,rfl,T.q_SHAPES_back H⟩ (.cons ⟨rfl,_,rfl,T.q_SHAPES_settle H⟩ (.cons ⟨rfl,_,rfl,T.q_SHAPES_piece H⟩ (.cons ⟨rfl,_,rfl,T.q_SHAPES_clash H⟩ .nil))))))))))))))))
 unfold zac
 rcases zjg pr k with ⟨h1,h2⟩ | ⟨a,p,h1,h2,h3⟩
 ·exact .inl ⟨h1,by rw [h2];rfl⟩
 ·have hm:=zdf p (List.mem_of_find?_eq_some h2)
  exact .inr ⟨a,p.2,h1,by rw [h2];rfl,h3,hm.1,hm.2⟩
theorem zzo (z:Str) (n:Nat):∃ w fs,cutK 32 (Txt.split z " ") n=w::fs:=by
 have hne:Txt.split z " " ≠ []:=zqc z 32
 unfold cutK
 split
 ·cases e:Txt.split z " " with
  | nil=>exact absurd e hne
  | cons a l=>exact ⟨a,l,rfl⟩
 ·cases e:(Txt.split z " ").take n with
  | nil=>exact ⟨_,[],rfl⟩
  | cons a l=>exact ⟨a,_,rfl⟩
theorem zgd {z p:Str} (h:p∈Txt.split z " "):p.length≤z.length:=part_short h
theorem zkd (g:Str):∀ (ps:List Str) (n:Nat),(Str.join g (ps.drop n)).length≤(Str.join g ps).length
 | ps,0=>by rw [List.drop_zero];exact Nat.le_refl _
 | [],n+1=>by rw [List.drop_nil];exact Nat.le_refl _
 | [q],n+1=>by rw [List.drop_succ_cons,List.drop_nil];exact Nat.zero_le _
 | q::q2::r,n+1=>by
  have h:=zkd g (q2::r) n
  rw [List.drop_succ_cons]
  show _≤((q++g)++Str.join g (q2::r)).length
  rw [zna]
  omega
theorem zgf (z:Str) (n:Nat):(Str.join ⟨#[32]⟩ ((Txt.split z " ").drop n)).length≤z.length:=by
 have h:=zkd ⟨#[32]⟩ (Txt.split z " ") n
 have e:Str.join ⟨#[32]⟩ (Txt.split z " ")=z:=StrLaws.join_split z ⟨#[32]⟩
 rw [e] at h
 exact h
theorem zlh {z p:Str} {n:Nat} (h:p∈cutK 32 (Txt.split z " ") n):p.length≤z.length:=by
 unfold cutK at h
 split at h
 ·exact zgd h
 ·rcases List.mem_append.mp h with h | h
  ·exact zgd (List.mem_of_mem_take h)
  ·rw [List.mem_singleton.mp h]
   exact zgf z n
noncomputable abbrev Row:=Str×List PyData
noncomputable def rowD (r:Row):PyData := .tuple [.str r.1,.tuple r.2]
noncomputable def okZ (z:Str):Prop:=z.length≤640∧PyData.strOk z=true
theorem zke {α β:Type} {f:α→Option β}:∀ {xs:List α} {ys:List β},zbb f xs=some ys→∀ y∈ys,∃ x∈xs,f x=some y
 | [],ys,h,y,hy=>by cases h;cases hy
 | x::xs,ys,h,y,hy=>by
  unfold zbb at h
  cases e1:f x with
  | none=>rw [e1] at h;cases h
  | some b =>
   cases e2:zbb f xs with
   | none=>rw [e1,e2] at h;cases h
   | some bs =>
    rw [e1,e2] at h
    cases h
    rcases List.mem_cons.mp hy with rfl | hy
    ·exact ⟨x,List.mem_cons_self,e1⟩
    ·obtain ⟨x',hx,e⟩:=zke e2 y hy
     exact ⟨x',List.mem_cons_of_mem _ hx,e⟩
theorem zre {z w:Str} {ds:List PyData} (h:rowL z=some (w,ds)):∃ ks fs,zac (Txt.partition z " ").1=some ks∧cutK 32 (Txt.split z " ") ks.length=w::fs∧fs.length=ks.length∧zbb (λ p:Str×Str=>zgb p.1 p.2) (ks.zip fs)=some ds:=by
 unfold rowL at h
 split at h
 ·cases h
 ·rename_i ks hks
  split at h
  ·cases h
  ·rename_i w' fs hc
   split at h
   ·rename_i hl
    obtain ⟨ds',h1,h2⟩:=Option.map_eq_some_iff.mp h
    cases h2
    exact ⟨ks,fs,hks,hc,hl,h1⟩
   ·cases h
theorem zxk {z w:Str} {n:Nat} {fs:List Str} (h:cutK 32 (Txt.split z " ") (n+1)=w::fs):∃ l,Txt.split z " " = w::l:=by
 have hne:Txt.split z " " ≠ []:=zqc z 32
 cases e:Txt.split z " " with
 | nil=>exact absurd e hne
 | cons a l =>
  rw [e] at h
  unfold cutK at h
  split at h
  ·cases h;exact ⟨_,rfl⟩
  ·rw [List.take_succ_cons,List.cons_append] at h
   cases h
   exact ⟨_,rfl⟩
theorem zuc {w:Str} {ks:List Str} (h:zac w=some ks):(1≤ks.length∧ks.length≤4)∧∀ x∈ks,x∈zyo:=by
 unfold zac at h
 obtain ⟨p,h1,rfl⟩:=Option.map_eq_some_iff.mp h
 exact zdf p (List.mem_of_find?_eq_some h1)
theorem zam {z:Str} {r:Row} (h:rowL z=some r):∃ l,Txt.split z " " = r.1::l:=by
 obtain ⟨w,ds⟩:=r
 obtain ⟨ks,fs,h1,h2,_,_⟩:=zre h
 obtain ⟨n,e⟩:∃ n,ks.length=n+1:=⟨ks.length - 1,by have:=(zuc h1).1.1;omega⟩
 rw [e] at h2
 exact zxk h2
theorem zao {z:Str} {r:Row} (h:rowL z=some r):r.2.length≤4:=by
 obtain ⟨w,ds⟩:=r
 obtain ⟨ks,fs,h1,_,hl,ho⟩:=zre h
 have h4:=(zuc h1).1.2
 have:=zec ho
 rw [List.length_zip] at this
 show ds.length≤4
 omega
noncomputable instance:Inhabited Row:=⟨("",[])⟩
theorem zun {K:W.Frag} {H:Hp} {r:Row} {y:V} (h:DV K H (rowD r) y):∃ t x,y = .ref t∧SqT K H t [.str r.1,x]∧DV K H (.tuple r.2) x:=by
 obtain ⟨t,vs,rfl,hq,v,vr,rfl,hv,x,xr,rfl,hx,e⟩:=h
 cases e
 have hv:v = .str r.1:=hv
 subst hv
 exact ⟨t,x,rfl,hq,hx⟩
noncomputable def SG:Str := " !\"#$&'()*+,-./0123456789:;<=>?@ABCDEFGHIJKLMNOPQRSTUVWXYZ[\\]^_`abcdefghijklmnopqrstuvwxyz{|}~\n\t"
noncomputable def okN (n:Nat) (z:Str):Prop:=z.length≤n∧PyData.strOk z=true
noncomputable def zfv:Sp:=zch (λ (_:Unit) vs=>vs=[]) (λ _ v=>v = .str SG)
noncomputable def zfo:Sp:=zfe (λ (n:Int) vs _=>vs=[.int n]) (λ _ r _=>∃ z,r = .str z∧okN 60 z) (λ _ _=>False)
noncomputable def zxs:Sp:=zfe (λ (n:Int) vs _=>vs=[.int n]) (λ _ r _=>∃ z,r = .str z∧okN 40 z) (λ _ _=>False)
noncomputable def zeu:Sp:=zfe (λ (a:Str×Int) vs _=>vs=[.str a.1,.int a.2]∧okN 60 a.1) (λ _ r _=>∃ z,r = .str z∧okN 600 z) (λ _ _=>False)
noncomputable def zvq:Sp:=zch (λ (a:Str×Option Int) vs=>vs=[.str a.1,vOpt a.2]∧a.1.length≤640) (λ a v=>v=vOpt (zwc a.1 a.2))
noncomputable def zft (z:Str) (ms:List (Option Int)):Option (List Int):=if (Txt.split z ".").length=ms.length then zbb (λ p:Str×Option Int=>zwc p.1 p.2) ((Txt.split z ".").zip ms) else none
noncomputable def ztw:Sp:=zch (λ (a:Int×Int) vs=>vs=[.int a.1,.int a.2]∧0≤a.2∧a.2≤100) (λ _ v=>∃ n:Int,v = .int n)
theorem zlc (zs:List Str) (a b:Option Int):∃ ys:List Str,cutV (zs.map V.str) a b=ys.map V.str∧ys.Sublist zs:=by
 refine ⟨(zs.drop (HT.sIx zs.length 0 a)).take (HT.sIx zs.length zs.length b - HT.sIx zs.length 0 a),?_,(List.take_sublist _ _).trans (List.drop_sublist _ _)⟩
 unfold cutV
 rw [List.map_take,List.map_drop,List.length_map]
theorem zhm {zs:List Str} {m n:Nat} {k:Int} (hz:∀ z∈zs,okN n z) (h0:0≤k) (h1:k<m) (hm:m≤zs.length):∃ z,atI (zs.map V.str) k=some (.str z)∧okN n z∧z∈zs:=by
 obtain ⟨v,hv,hmem⟩:=zml (xs:=zs.map V.str) (i:=k) h0 (by rw [List.length_map];omega)
 obtain ⟨z,hzm,rfl⟩:=List.mem_map.mp hmem
 exact ⟨z,hv,hz z hzm,hzm⟩
noncomputable def sumL (ys:List Str):Nat:=(ys.map (·.length)).sum
theorem zdc {ys zs:List Str} (h:ys.Sublist zs):sumL ys≤sumL zs:=by
 unfold sumL
 induction h with
 | slnil=>exact Nat.le_refl _
 | cons a h ih=>rw [List.map_cons,List.sum_cons];omega
 | cons_cons a h ih=>rw [List.map_cons,List.map_cons,List.sum_cons,List.sum_cons];omega
theorem zfi (g:Str):∀ ps:List Str,sumL ps≤(Str.join g ps).length
 | []=>Nat.zero_le _
 | [q]=>by show q.length+0≤q.length;omega
 | q::q2::r=>by
  have h:=zfi g (q2::r)
  show q.length+sumL (q2::r)≤((q++g)++Str.join g (q2::r)).length
  rw [zna,zna]
  omega
theorem zuj (z:Str):sumL (Txt.split z " ")≤z.length:=by
 have h:=zfi ⟨#[32]⟩ (Txt.split z " ")
 have e:Str.join ⟨#[32]⟩ (Txt.split z " ")=z:=StrLaws.join_split z ⟨#[32]⟩
 rwa [e] at h
theorem zin {i:Int} (h0:0≤i) (h1:i<1000):okN 4 (Str.ofString (toString i)):=⟨zil (k:=3) (by decide) (by omega),zbg _⟩
theorem zwl {n:Nat} {zs:List Str} (h:(zs.all λ z=>decide (z.length≤n) && PyData.strOk z)=true):∀ z∈zs,okN n z:=λ z hz=>by
 have:=List.all_eq_true.mp h z hz
 rw [Bool.and_eq_true] at this
 exact ⟨of_decide_eq_true this.1,this.2⟩
theorem zkb {m n:Nat} {z:Str} (h:okN m z) (hn:m≤n):okN n z:=⟨Nat.le_trans h.1 hn,h.2⟩
theorem zoa {m n k:Nat} {a b:Str} (ha:okN m a) (hb:okN n b) (h:m+n≤k):okN k (a++b):=⟨by rw [zna];have:=ha.1;have:=hb.1;omega,znq ha.2 hb.2⟩
theorem zya (s:String) {n:Nat} (h:(Str.ofString s).length≤n):okN n (Str.ofString s):=⟨h,zbg s⟩
theorem zyn {c:Nat} (h:c∈SG.cps.toList):okN 1 ⟨#[c]⟩:=by
 have all:(SG.cps.toList.all λ c=>PyData.strOk ⟨#[c]⟩)=true:=by decide +kernel
 exact ⟨Nat.le_refl _,List.all_eq_true.mp all c h⟩
theorem slice_le (x:Str) (lo hi:Option Int):(Txt.slice x lo hi).length≤x.length:=by
 rw [zdk]
 omega
theorem zng {n:Nat} {z:Str} (h:okN n z) (lo hi:Option Int):okN n (Txt.slice z lo hi):=⟨Nat.le_trans (slice_le z lo hi) h.1,zym h.2 lo hi⟩
theorem zbr:SG.cps.toList.length=96:=by decide +kernel
theorem zyd:(Str.ofString "0").cps.toList=[48]:=rfl
theorem zsg {z y:Str} (hy:y.cps.toList=(if z.cps.toList.head? = some 45 then z.cps.toList.tail else z.cps.toList)) (hb:y.cps.toList.length<1 ∨ 30<y.cps.toList.length ∨ y.cps.toList.all zhf=false ∨ (y.cps.toList.head? = some 48∧z ≠ "0")):zbc z.cps.toList=none:=by
 unfold zbc
 split
 ·rename_i hh
  rw [if_pos hh] at hy
  rw [← hy]
  refine if_pos ?_
  rcases hb with h | h | h | h
  ·exact .inl h
  ·exact .inr (.inl h)
  ·exact .inr (.inr (.inl h))
  ·exact .inr (.inr (.inr h.1))
 ·rename_i hh
  rw [if_neg hh] at hy
  rw [← hy]
  refine if_pos ?_
  rcases hb with h | h | h | h
  ·exact .inl h
  ·exact .inr (.inl h)
  ·exact .inr (.inr (.inl h))
  ·refine .inr (.inr (.inr ⟨h.1,?_⟩))
   cases e:y.cps.toList with
   | nil=>rw [e] at h;cases h.1
   | cons c cs =>
    cases cs with
    | cons _ _=>simp
    | nil =>
     exfalso
     rw [e] at h
     have hc:c=48:=by simpa using h.1
     subst hc
     exact h.2 (V.str.inj ((zjb _ _).mpr (by rw [← hy,e];rfl)))
theorem zhn {z y:Str} (hy:y.cps.toList=(if z.cps.toList.head? = some 45 then z.cps.toList.tail else z.cps.toList)) (h1:1≤y.cps.toList.length) (h2:y.cps.toList.length≤30) (h3:y.cps.toList.all zhf=true) (h4:y.cps.toList.head? = some 48→z = "0") :
  zbc z.cps.toList=some (if z.cps.toList.head? = some 45 then -((digitsVal y.cps.toList:Nat):Int) else ((digitsVal y.cps.toList:Nat):Int)):=by
 unfold zbc
 split
 ·rename_i hh
  rw [if_pos hh] at hy
  rw [← hy]
  refine if_neg ?_
  rintro (h | h | h | h)
  ·omega
  ·omega
  ·rw [h3] at h;cases h
  ·rw [h4 h,zyd] at hh
   cases hh
 ·rename_i hh
  rw [if_neg hh] at hy
  rw [← hy]
  refine if_neg ?_
  rintro (h | h | h | h)
  ·omega
  ·omega
  ·rw [h3] at h;cases h
  ·have:=h4 h.1
   have e:=h.2
   rw [hy,this,zyd] at e
   simp at e
theorem zfp {z:Str} (h:zbc z.cps.toList=none) (m:Option Int):zwc z m=none:=by
 cases m with
 | none=>exact h
 | some k=>show znb z k=none;unfold znb;rw [h]
theorem zwj {z w:Str} {l:List Str} (h:Txt.split z " " = w::l):(Txt.partition z " ").1=w:=by
 rcases zli z 32 with ⟨hp,hs⟩ | ⟨a,r,hp,hs,_,_⟩
 ·have hp:Txt.partition z " " = (z,Str.empty,Str.empty):=hp
  have hs:Txt.split z " " = [z]:=hs
  rw [hs] at h
  cases h
  rw [hp]
 ·have hp:Txt.partition z " " = (a,⟨#[32]⟩,r):=hp
  have hs:Txt.split z " " = a::Txt.split r " " := hs
  rw [hs] at h
  cases h
  rw [hp]
theorem zfk (z:Str):zft z [some 0,some 1]=(zxe z).map λ m=>[m.1,m.2]:=by
 unfold zft
 show (if (Txt.split z ".").length=2 then _ else _)=_
 by_cases h:(Txt.split z ".").length=2
 ·obtain ⟨a,b,e⟩:∃ a b,Txt.split z "." = [a,b]:=by
   match hs:Txt.split z ".",h with
   | [a,b],_=>exact ⟨a,b,rfl⟩
  rw [if_pos h,e]
  show zbb _ [(a,some 0),(b,some 1)]=_
  unfold zxe dotL
  rw [if_pos (by rw [e];rfl),e]
  unfold zbb zbb zbb zwc znb
  dsimp only
  cases zbc a.cps.toList with
  | none=>rfl
  | some x =>
   cases zbc b.cps.toList with
   | none=>by_cases h1:x<0 <;> simp [h1]
   | some y=>by_cases h1:x<0 <;> by_cases h2:y<1 <;> simp [h1,h2]
 ·rw [if_neg h]
  unfold zxe dotL
  rw [if_neg (λ e=>h (by omega))]
  rfl
theorem zqi (ps:List Str):Txt.join " " ps=Str.join ⟨#[32]⟩ ps:=StrLaws.glued_eq_join _ _
theorem zhc {z:Str} (h:32∈z.cps.toList) (k:Int):znb z k=none:=by
 cases e:znb z k with
 | none=>rfl
 | some n =>
  rcases zdg e h with x | x
  ·omega
  ·exact absurd x (by decide)
theorem zdj (a b:Str) (l:List Str):32∈(Str.join ⟨#[32]⟩ (a::b::l)).cps.toList:=by
 rw [zcc]
 exact List.mem_append_right _ List.mem_cons_self
theorem zmn {w:Str} {l:List Str} {m:Nat} (h:m+1<l.length):∃ a b r,l.drop m=a::b::r∧cutK 32 (w::l) (m+1)=w::(l.take m++[Str.join ⟨#[32]⟩ (a::b::r)]):=by
 have hl:(l.drop m).length ≥ 2:=by rw [List.length_drop];omega
 match e:l.drop m,hl with
 | a::b::r,_ =>
  refine ⟨a,b,r,rfl,?_⟩
  unfold cutK
  rw [if_neg (by rw [List.length_cons];omega),List.take_succ_cons,List.drop_succ_cons,e,List.cons_append]
theorem zcm {w:Str} {l:List Str} {n:Nat} (h:l.length≤n):cutK 32 (w::l) n=w::l:=if_pos (by rw [List.length_cons];omega)
noncomputable abbrev DDS:List Str:=["put", "take", "move", "write", "part", "join", "carry"]
noncomputable abbrev NTS:List Str:=["begin", "undo", "again", "reload"]
noncomputable def zgl (r:Row):Option PyData:=if r.1∈DDS then some (.tuple [.str "deed",r.2.headD .none,.tuple (.str r.1::r.2.tail)]) else if r.1∈NTS then some (.tuple (.str r.1::r.2)) else none
noncomputable def zsf (z:Str):Option PyData:=(rowL z).bind zgl
noncomputable def zns (K:W.Frag) (A:Adr):Sp:=zfe (λ (z:Str) vs _=>vs=[.str z]∧z.length≤640) (λ z r H=>∃ d,DV K H d r∧zsf z=some d) (λ z C=>C=A.NoText∧zsf z=none)
noncomputable def LKS:List (Str×List Str):=[("begin",["one", "nought"]),("put",["behind", "words"]),("take",["mark"]),("move",["mark", "behind"]),("write",["mark", "words"]),("part",["mark", "any"]),("join",["mark"]),("carry",["mark", "mark", "behind"]),("undo",[]),("again",[]),("reload",["nought"])]
noncomputable def zbe (w:Str):Option (List Str):=(LKS.find? λ p=>p.1=w).map λ p => "one" :: p.2
noncomputable def zsc (k z:Str):Option PyData :=
 if k = "words" then (if zxc z=true then some (.str z) else none)
 else if k = "behind" ∧ z = "-" then some .none
 else if k = "mark" ∨ k = "behind" then (zxe z).map markD
 else if k = "any" then (zwc z none).map PyData.int
 else (zwc z (some (if k = "one" then 1 else 0))).map PyData.int
noncomputable def zdt (K:W.Frag):Sp:=zfe (λ (z:Str) vs _=>vs=[.str z]∧z.length≤640) (λ z r H=>(r = .non∧zxe z=none) ∨ ∃ m,DV K H (markD m) r∧zxe z=some m) (λ _ _=>False)
noncomputable def zpt (K:W.Frag):Sp:=zfe (λ (a:Str×Str) vs _=>vs=[.str a.1,.str a.2]∧okZ a.2) (λ a r H=>∃ l vs,r = .ref l∧H l=some (.lst vs)∧DVs K H (zsc a.1 a.2).toList vs) (λ _ _=>False)
noncomputable def zau (K:W.Frag):Sp:=zfe (λ (z:Str) vs _=>vs=[.str z]) (λ z r H=>(r = .non∧zbe z=none) ∨ ∃ l ks,r = .ref l∧H l=some (.lst (ks.map V.str))∧zbe z=some ks) (λ _ _=>False)
noncomputable def zwq (K:W.Frag):Sp:=zfe (λ (z:Str) vs _=>vs=[.str z]∧okZ z) (λ z r H=>(r = .non∧zsf z=none) ∨ ∃ d,DV K H d r∧zsf z=some d∧SeqAt.shaped d=true) (λ _ _=>False)
noncomputable def zms:Sp:=zfe (λ (z:Str) vs _=>vs=[.str z]∧okZ z) (λ _ r _=>r = .bl true) (λ _ _=>False)
theorem zdu {α β:Type} {ok G:α→β→Prop} {C:Prop} (h1:(∀ y z,ok y z→G y z)→C) (h2:∀ y z,ok y z→G y z):C:=h1 h2
theorem zsd (k:Str):∀ kvs:List (Str×Value),(valueAt kvs k).isSome=decide (k∈kvs.map (·.1))
 | []=>rfl
 | kv::kvs=>by
  have ih:=zsd k kvs
  unfold valueAt at ih ⊢
  rw [List.find?_cons,List.map_cons]
  by_cases h:kv.1=k
  ·rw [decide_eq_true h,decide_eq_true (by rw [h];exact List.mem_cons_self)]
   rfl
  ·rw [decide_eq_false h]
   dsimp only
   rw [ih]
   exact decide_eq_decide.mpr ⟨List.mem_cons_of_mem _,λ x=>(List.mem_cons.mp x).resolve_left (Ne.symm h)⟩
theorem zmm {z w:Str} {ds:List PyData} (h:rowL z=some (w,ds)):1≤ds.length:=by
 obtain ⟨ks,fs,h1,_,hl,ho⟩:=zre h
 have h4:=(zuc h1).1.1
 have:=zec ho
 rw [List.length_zip] at this
 omega
noncomputable def TabL (H:Hp) (kvs:List (Str×V)) (tbl:List (Str×List Str)):Prop:=Paired (λ kv p=>kv.1=p.1∧∃ l,kv.2=V.ref l∧H l=some (.lst (p.2.map V.str))) kvs tbl
theorem TabL.mono {H H':Hp} (h:∀ l xs,H l=some (.lst xs)→H' l=some (.lst xs)):∀ {kvs:List (Str×V)} {tbl:List (Str×List Str)},TabL H kvs tbl→TabL H' kvs tbl
 | _,_,.nil=>.nil
 | _,_,.cons r rr=>.cons ⟨r.1,let ⟨l,a,b⟩:=r.2; ⟨l,a,h _ _ b⟩⟩ (TabL.mono h rr)
theorem TabL.snoc {H:Hp} {k:Str} {ks:List Str} {l:Addr} (hl:H l=some (.lst (ks.map V.str))):∀ {kvs:List (Str×V)} {tbl:List (Str×List Str)},TabL H kvs tbl→TabL H (kvs++[(k,.ref l)]) (tbl++[(k,ks)])
 | _,_,.nil=>.cons ⟨rfl,l,rfl,hl⟩ .nil
 | _,_,.cons r rr=>.cons r (TabL.snoc hl rr)
theorem TabL.all {H:Hp} {k:Str}:∀ {kvs:List (Str×V)} {tbl:List (Str×List Str)},TabL H kvs tbl→(tbl.all λ e => !(e.1 == k))=true→(kvs.all λ e => !(e.1 == k))=true
 | _,_,.nil,_=>rfl
 | _,_,.cons r rr,h=>by
  rw [List.all_cons,Bool.and_eq_true] at h ⊢
  exact ⟨by rw [r.1];exact h.1,TabL.all rr h.2⟩
theorem TabL.at {H:Hp} {z:Str}:∀ {kvs:List (Str×V)} {tbl:List (Str×List Str)},TabL H kvs tbl→(vAt kvs z=none∧(tbl.find? λ p=>p.1=z)=none) ∨ ∃ l p,vAt kvs z=some (.ref l)∧(tbl.find? λ p=>p.1=z)=some p∧H l=some (.lst (p.2.map V.str))
 | _,_,.nil=>.inl ⟨rfl,rfl⟩
 | kv::kvs,p::tbl,.cons r rr=>by
  unfold vAt
  rw [List.find?_cons,List.find?_cons,r.1]
  by_cases h:p.1=z
  ·rw [decide_eq_true h]
   obtain ⟨l,e,hl⟩:=r.2
   exact .inr ⟨l,p,by rw [← e];rfl,rfl,hl⟩
  ·rw [decide_eq_false h]
   exact TabL.at rr
theorem zwd {P:Program} {w:World} {H0 H:Hp} {d l:Addr} {kvs:List (Str×V)} {tbl:List (Str×List Str)} {k:Str} {ks:List Str} (hd0:H0 d=none) (S:Same H0 H) (hp:Plain H) (hd:H d=some (tdO P w d kvs)) (T:TabL H kvs tbl) (hl:H l=none) (ha:(tbl.all λ e => !(e.1 == k))=true) (hn:tbl.length≤100) :
  (upd H l (.lst (ks.map V.str))) d=some (tdO P w d kvs)∧(kvs.all λ e => !(e.1 == k))=true∧kvs.length≤100∧∃ H' kvs',upd (upd H l (.lst (ks.map V.str))) d (tdO P w d (kvs++[(k,.ref l)]))=H'∧kvs++[(k,.ref l)]=kvs'∧Same H0 H'∧Plain H'∧H' d=some (tdO P w d kvs')∧TabL H' kvs' (tbl++[(k,ks)]):=by
 have ne:d≠l:=λ e=>by subst e;rw [hd] at hl;cases hl
 have keep:∀ l' xs,H l'=some (.lst xs)→(upd (upd H l (.lst (ks.map V.str))) d (tdO P w d (kvs++[(k,.ref l)]))) l'=some (.lst xs):=λ l' xs h=>by
  rw [zwa (λ e=>by subst e;rw [hd] at h;cases h),zwa (λ e=>by subst e;rw [hl] at h;cases h)]
  exact h
 refine ⟨by rw [zwa ne];exact hd,T.all ha,by rw [Paired.length T];exact hn,_,_,rfl,rfl,(S.trans (zca hl)).upd hd0,(hp.lst).upd trivial,upd_same,(T.mono keep).snoc ?_⟩
 rw [zwa (Ne.symm ne)]
 exact upd_same
noncomputable def lawK (k:Str):Str:=if k = "beat" ∨ k = "window" then "one" else if k = "save" then "nought" else if k = "many" then "any" else k
noncomputable abbrev SKN:List Str:=["beat", "window", "save", "behind", "words", "mark", "many"]
theorem zqf {k:Str} (h:k∈SKN) (z:Str):zsc (lawK k) z=zgb k z:=by
 simp only [List.mem_cons,List.not_mem_nil,or_false] at h
 rcases h with rfl | rfl | rfl | rfl | rfl | rfl | rfl
 ·rw [zoc (by decide),show lawK "beat" = "one" by decide +kernel]
  unfold zsc
  rw [if_neg (by decide),if_neg (λ x=>absurd x.1 (by decide)),if_neg (by decide),if_neg (by decide),if_pos rfl]
  rfl
 ·rw [zoc (by decide),show lawK "window" = "one" by decide +kernel]
  unfold zsc
  rw [if_neg (by decide),if_neg (λ x=>absurd x.1 (by decide)),if_neg (by decide),if_neg (by decide),if_pos rfl]
  rfl
 ·rw [zoc (by decide),show lawK "save" = "nought" by decide +kernel]
  unfold zsc
  rw [if_neg (by decide),if_neg (λ x=>absurd x.1 (by decide)),if_neg (by decide),if_neg (by decide),if_neg (by decide)]
  rfl
 ·rw [zte,show lawK "behind" = "behind" by decide +kernel]
  unfold zsc
  rw [if_neg (by decide)]
  by_cases hz:z = "-"
  ·rw [if_pos ⟨rfl,hz⟩,if_pos hz]
  ·rw [if_neg (λ x=>hz x.2),if_neg hz,if_pos (.inr rfl)]
 ·rw [zii,show lawK "words" = "words" by decide +kernel]
  unfold zsc
  rw [if_pos rfl]
 ·rw [zci,show lawK "mark" = "mark" by decide +kernel]
  unfold zsc
  rw [if_neg (by decide),if_neg (λ x=>absurd x.1 (by decide)),if_pos (.inl rfl)]
 ·rw [zoh,show lawK "many" = "any" by decide +kernel]
  unfold zsc
  rw [if_neg (by decide),if_neg (λ x=>absurd x.1 (by decide)),if_neg (by decide),if_pos rfl]
  rfl
theorem znf {z:Str} (h:32∈z.cps.toList):zbc z.cps.toList=none:=by
 cases e:zbc z.cps.toList with
 | none=>rfl
 | some n =>
  have:=zhc h n
  unfold znb at this
  rw [e] at this
  dsimp only at this
  rw [if_neg (by omega)] at this
  cases this
theorem zbf {z:Str} (h:32∈z.cps.toList):zxe z=none:=by
 unfold zxe dotL
 split
 ·rename_i a b e
  split at e
  ·exfalso
   rcases zme z 46 h with x | ⟨p,hp,x⟩
   ·exact absurd x (by decide)
   ·have hn:zbb (λ p:Str=>zbc p.cps.toList) (Txt.split z ".")=none:=zwb (f:=λ p:Str=>zbc p.cps.toList) (x:=p) hp (znf x)
    rw [hn] at e
    cases e
  ·cases e
 ·rfl
theorem zgh {k z:Str} (hk:k∈SKN) (hw:¬ k = "words") (h:32∈z.cps.toList):zgb k z=none:=by
 simp only [List.mem_cons,List.not_mem_nil,or_false] at hk
 rcases hk with rfl | rfl | rfl | rfl | rfl | rfl | rfl
 ·rw [zoc (by decide),zhc h];rfl
 ·rw [zoc (by decide),zhc h];rfl
 ·rw [zoc (by decide),zhc h];rfl
 ·rw [zte,zbf h,if_neg]
  ·rfl
  ·intro e
   rw [e] at h
   exact absurd h (by decide)
 ·exact absurd rfl hw
 ·rw [zci,zbf h];rfl
 ·rw [zoh,znf h];rfl
noncomputable def zkc (ks l:List Str):List Str:=if ks.getLast? = some ("words" : Str)∧ks.length≤l.length then l.take (ks.length - 1)++[Str.join ⟨#[32]⟩ (l.drop (ks.length - 1))] else l
theorem zok {z w:Str} {l ks:List Str} (hs:Txt.split z " " = w::l) (hk:zac w=some ks) (hks:∀ k∈ks,k∈SKN):rowL z=if (zkc ks l).length=ks.length then (zbb (λ p:Str×Str=>zgb p.1 p.2) (ks.zip (zkc ks l))).map (λ ds=>(w,ds)) else none:=by
 have hp:=(zuc hk).1.1
 obtain ⟨m,hm⟩:∃ m,ks.length=m+1:=⟨ks.length - 1,by omega⟩
 unfold rowL
 rw [zwj hs,hk]
 dsimp only
 rw [hs]
 by_cases hl:l.length≤ks.length
 ·rw [zcm hl]
  dsimp only
  have e:zkc ks l=l:=by
   unfold zkc
   split
   ·rename_i h
    have e2:l.length=m+1:=by omega
    rw [hm,Nat.add_sub_cancel]
    obtain ⟨x,hx⟩:∃ x,l.drop m=[x]:=by
     have:(l.drop m).length=1:=by rw [List.length_drop];omega
     match h':l.drop m,this with
     | [x],_=>exact ⟨x,rfl⟩
    rw [hx]
    conv=>rhs;rw [← List.take_append_drop m l,hx]
    rfl
   ·rfl
  rw [e]
 ·obtain ⟨a,b,r,e1,e2⟩:=zmn (w:=w) (l:=l) (m:=m) (by omega)
  rw [hm,e2]
  dsimp only
  have hml:(l.take m).length=m:=by rw [List.length_take];omega
  have hfl:(l.take m++[Str.join ⟨#[32]⟩ (a::b::r)]).length=m+1:=by rw [List.length_append,hml];rfl
  rw [if_pos hfl]
  by_cases hw:ks.getLast? = some ("words" : Str)
  ·have e:zkc ks l=l.take m++[Str.join ⟨#[32]⟩ (a::b::r)]:=by
    unfold zkc
    rw [if_pos ⟨hw,by omega⟩,hm,Nat.add_sub_cancel,e1]
   rw [e,if_pos hfl]
  ·have e:zkc ks l=l:=if_neg λ x=>hw x.1
   rw [e,if_neg (by omega)]
   have hmk:m<ks.length:=by omega
   have hlast:ks.getLast? = some ks[m]:=by
    rw [List.getLast?_eq_getElem?,hm,Nat.add_sub_cancel,List.getElem?_eq_getElem hmk]
   have hmem:(ks[m],Str.join ⟨#[32]⟩ (a::b::r))∈ks.zip (l.take m++[Str.join ⟨#[32]⟩ (a::b::r)]):=List.mem_of_getElem? (i:=m) (List.getElem?_zip_eq_some.mpr ⟨List.getElem?_eq_getElem hmk,by rw [List.getElem?_append_right (by omega),hml,Nat.sub_self];rfl⟩)
   rw [zwb hmem (zgh (hks _ (List.getElem_mem hmk)) (λ x=>hw (by rw [hlast,x])) (zdj a b r))]
   rfl
theorem zwo:∀ p∈LKS,(zac p.1).map (λ ks=>ks.map lawK)=some ((Str.ofString "one")::p.2)∧(p.1∈DDS ∨ p.1∈NTS)∧(∀ k∈(zac p.1).getD [],k∈SKN)∧(((Str.ofString "one" :: p.2).getLast? = some (Str.ofString "words"))↔((zac p.1).getD []).getLast? = some (Str.ofString "words")):=by decide +kernel
theorem zdh {w:Str} {ls:List Str} (h:zbe w=some ls):∃ ks,zac w=some ks∧ks.map lawK=ls∧(w∈DDS ∨ w∈NTS)∧(∀ k∈ks,k∈SKN)∧(ls.getLast? = some ("words" : Str)↔ks.getLast? = some ("words" : Str)):=by
 unfold zbe at h
 obtain ⟨p,h1,h2⟩:=Option.map_eq_some_iff.mp h
 have hw:=List.find?_some h1
 have hw:p.1=w:=of_decide_eq_true hw
 obtain ⟨a1,a2,a3,a4⟩:=zwo p (List.mem_of_find?_eq_some h1)
 rw [hw] at a1 a2 a3 a4
 obtain ⟨ks,b1,b2⟩:=Option.map_eq_some_iff.mp a1
 rw [b1] at a3 a4
 exact ⟨ks,b1,by rw [b2];exact h2,a2,a3,by rw [← h2];exact a4⟩
theorem zai {w:Str} (h:zbe w=none):w∉DDS∧w∉NTS:=by
 have al:∀ w∈DDS++NTS,(zbe w).isSome=true:=by decide +kernel
 refine ⟨λ x=>?_,λ x=>?_⟩
 ·have:=al w (List.mem_append_left _ x)
  rw [h] at this
  cases this
 ·have:=al w (List.mem_append_right _ x)
  rw [h] at this
  cases this
theorem zup {z w:Str} {l:List Str} (hs:Txt.split z " " = w::l) (h:zbe w=none):zsf z=none:=by
 unfold zsf
 cases e:rowL z with
 | none=>rfl
 | some r =>
  obtain ⟨l',e'⟩:=zam e
  rw [hs] at e'
  have e':w=r.1:=(List.cons.inj e').1
  obtain ⟨h1,h2⟩:=zai h
  rw [e'] at h1 h2
  show zgl r=none
  unfold zgl
  rw [if_neg h1,if_neg h2]
noncomputable def zpc (ps:List (Str×Str)):List PyData:=ps.flatMap λ p=>(zsc p.1 p.2).toList
theorem zoe:∀ ps:List (Str×Str),(zpc ps).length≤ps.length∧(zbb (λ p:Str×Str=>zsc p.1 p.2) ps=none→(zpc ps).length<ps.length)∧∀ ds,zbb (λ p:Str×Str=>zsc p.1 p.2) ps=some ds→zpc ps=ds
 | []=>⟨Nat.le_refl _,λ h=>(by cases h),λ ds h=>(by cases h;rfl)⟩
 | p::ps=>by
  obtain ⟨h1,h2,h3⟩:=zoe ps
  have e:zpc (p::ps)=(zsc p.1 p.2).toList++zpc ps:=rfl
  rw [e]
  unfold zbb
  cases ep:zsc p.1 p.2 with
  | none =>
   refine ⟨?_,λ _=>?_,λ ds h=>(by cases h)⟩
   ·show (zpc ps).length≤ps.length+1
    omega
   ·show (zpc ps).length<ps.length+1
    omega
  | some d =>
   cases eo:zbb (λ p:Str×Str=>zsc p.1 p.2) ps with
   | none =>
    have:=h2 eo
    refine ⟨?_,λ _=>?_,λ ds h=>(by cases h)⟩
    ·show (zpc ps).length+1≤ps.length+1
     omega
    ·show (zpc ps).length+1<ps.length+1
     omega
   | some ds =>
    refine ⟨?_,λ h=>(by cases h),λ ds' h=>?_⟩
    ·show (zpc ps).length+1≤ps.length+1
     omega
    ·cases h
     rw [← h3 ds eo]
     rfl
theorem zbd (ps:List (Str×Str)) {i:Nat} {p:Str×Str} (h:ps[i]? = some p):zpc (ps.take (i+1))=zpc (ps.take i)++(zsc p.1 p.2).toList:=by
 unfold zpc
 rw [List.take_add_one,h,List.flatMap_append]
 simp
theorem zkg:∀ (ks l:List Str),(∀ k∈ks,k∈SKN)→zbb (λ p:Str×Str=>zsc p.1 p.2) ((ks.map lawK).zip l)=zbb (λ p:Str×Str=>zgb p.1 p.2) (ks.zip l)
 | [],l,_=>by rw [List.map_nil,List.zip_nil_left];rfl
 | k::ks,[],_=>by rw [List.zip_nil_right,List.zip_nil_right];rfl
 | k::ks,x::l,h=>by
  have ih:=zkg ks l λ y hy=>h y (List.mem_cons_of_mem _ hy)
  rw [List.map_cons,List.zip_cons_cons,List.zip_cons_cons]
  unfold zbb
  dsimp only
  rw [zqf (h k List.mem_cons_self),ih]
noncomputable def zto (d:PyData):Prop:=d = .none ∨ (∃ n,d = .int n) ∨ (∃ m,d=L2.markD m) ∨ ∃ s,d = .str s∧PyData.strOk s=true
theorem zqe:∀ {ds:List PyData},(∀ d∈ds,zto d)→PyData.canLayAll0 ds=true∧PyData.depthAll ds≤1
 | [],_=>⟨rfl,Nat.zero_le _⟩
 | d::ds,h=>by
  obtain ⟨h1,h2⟩:=zqe λ x hx=>h x (List.mem_cons_of_mem _ hx)
  rw [PyData.canLayAll0,PyData.depthAll,h1]
  rcases h d List.mem_cons_self with rfl | ⟨n,rfl⟩ | ⟨m,rfl⟩ | ⟨s,rfl,hs⟩
  ·exact ⟨rfl,by show max 0 _≤1;omega⟩
  ·exact ⟨rfl,by show max 0 _≤1;omega⟩
  ·exact ⟨rfl,by show max 1 _≤1;omega⟩
  ·exact ⟨by rw [Bool.and_true];exact hs,by show max 0 _≤1;omega⟩
theorem zlj {k z:Str} {d:PyData} (h:zsc k z=some d) (ok:PyData.strOk z=true):zto d:=by
 unfold zsc at h
 split at h
 ·split at h
  ·cases h;exact .inr (.inr (.inr ⟨z,rfl,ok⟩))
  ·cases h
 split at h
 ·cases h;exact .inl rfl
 split at h
 ·obtain ⟨m,_,rfl⟩:=Option.map_eq_some_iff.mp h;exact .inr (.inr (.inl ⟨m,rfl⟩))
 split at h
 ·obtain ⟨m,_,rfl⟩:=Option.map_eq_some_iff.mp h;exact .inr (.inl ⟨m,rfl⟩)
 ·obtain ⟨m,_,rfl⟩:=Option.map_eq_some_iff.mp h;exact .inr (.inl ⟨m,rfl⟩)
theorem zbh {w:Str} {ds:List PyData} (hw:PyData.strOk w=true) (h:∀ d∈ds,zto d):SeqAt.shaped (.tuple (.str w::ds))=true:=by
 obtain ⟨a1,a2⟩:=zqe h
 unfold SeqAt.shaped
 rw [show PyData.canLay0 (.tuple (.str w::ds))=true by show (PyData.strOk w && PyData.canLayAll0 ds)=true;rw [hw,a1];rfl,Bool.true_and]
 refine decide_eq_true ?_
 show max 0 (PyData.depthAll ds)+1≤64
 omega
theorem zah {w:Str} {d0:PyData} {ds:List PyData} (hw:PyData.strOk w=true) (h:∀ d∈d0::ds,zto d):SeqAt.shaped (.tuple [.str "deed",d0,.tuple (.str w::ds)])=true:=by
 obtain ⟨a1,a2⟩:=zqe h
 rw [PyData.canLayAll0,Bool.and_eq_true] at a1
 rw [PyData.depthAll] at a2
 unfold SeqAt.shaped
 rw [show PyData.canLay0 (.tuple [.str "deed",d0,.tuple (.str w::ds)])=true by
  show (PyData.strOk "deed" && (PyData.canLay0 d0 && ((PyData.strOk w && PyData.canLayAll0 ds) && true)))=true
  rw [hw,a1.1,a1.2,zbg]
  rfl,Bool.true_and]
 refine decide_eq_true ?_
 show max 0 (max (PyData.depth d0) (max (max 0 (PyData.depthAll ds)+1) 0))+1≤64
 omega
theorem zrh {z:Str} {d:PyData} (h:zsf z=some d):∃ ds,d = .tuple ds:=by
 unfold zsf at h
 obtain ⟨r,_,h⟩:=Option.bind_eq_some_iff.mp h
 unfold zgl at h
 split at h
 ·cases h;exact ⟨_,rfl⟩
 ·split at h
  ·cases h;exact ⟨_,rfl⟩
  ·cases h
noncomputable def ODS:List Str:=["", "-", "-1", "-0", "0", "00", "01", "+1", "1.", ".1", "1.1", "0.0", "-1.1", "1.-1", "1.1.1", "1 1", "end", "put", "undo", "write", "begin", "reload", "x",Txt.mul "9" 30,Txt.mul "9" 31, "-" ++ Txt.mul "9" 30, "-" ++ Txt.mul "9" 31,Txt.mul "1" 31 ++ ".1", "1." ++ Txt.mul "1" 30, "1_0"]
theorem zas:∀ z∈ODS,okN 40 z:=zwl (by decide +kernel)
theorem zxl {i:Int} (h0 : -1000<i) (h1:i<1000):okN 4 (Str.ofString (toString i)):=⟨zil (k:=3) (by decide) (by omega),zbg _⟩
theorem zwm {ys:List Str} (h:∀ y∈ys,PyData.strOk y=true) (h1:sumL ys≤290) (h2:ys.length≤270):okN 600 (Txt.join " " ys):=by
 refine ⟨?_,zvl (zbg _) h⟩
 have:=zrm " " ys
 have e:(Str.ofString " ").length=1:=rfl
 rw [e] at this
 unfold sumL at h1
 omega
section
variable (P:Program) (w:World) (K:W.Frag) (mg:Str→Option Value) (B:Heap) (A:Adr)
noncomputable abbrev zqm:Prop:=FnOk P w K mg B (CX1 P w B) 1 A.f_q26 A.d_q26 ["text"] zgr
noncomputable abbrev zqn:Prop:=FnOk P w K mg B (CX1 P w B) 1 A.f_q27 A.d_q27 ["text", "signs"] zxp
noncomputable abbrev zjq:Prop:=FnOk P w K mg B (CX1 P w B) 2 A.f_q9 A.d_q9 ["text"] (zev A)
noncomputable abbrev zxm:Prop:=FnOk P w K mg B (CX1 P w B) 3 A.f_q23 A.d_q23 ["least", "text"] (zbw A)
noncomputable abbrev zzs:Prop:=FnOk P w K mg B (CX1 P w B) 1 A.f_q4 A.d_q4 ["window", "count"] (zjv A)
noncomputable abbrev zet:Prop:=FnOk P w K mg B (CX1 P w B) 6 A.f_q3 A.d_q3 ["text", "many"] (zzv A)
noncomputable abbrev zzn:Prop:=FnOk P w K mg B (CX1 P w B) 7 A.f_q20 A.d_q20 ["text"] (zuv A)
noncomputable abbrev zgq:Prop:=FnOk P w K mg B (CX1 P w B) 7 A.f_q21 A.d_q21 ["text"] (zpu A)
noncomputable abbrev zjo:Prop:=FnOk P w K mg B (CX1 P w B) 8 A.f_q12 A.d_q12 ["text"] (zmw K A)
noncomputable abbrev zmu:Prop:=FnOk P w K mg B (CX1 P w B) 1 A.f_q8 A.d_q8 ["beat"] (zbs K)
noncomputable abbrev zhu:Prop:=FnOk P w K mg B (CX1 P w B) 9 A.f_q2 A.d_q2 ["text"] (zsw K A)
noncomputable abbrev zvp:Prop:=FnOk P w K mg B (CX1 P w B) 2 A.f_q16 A.d_q16 ["text"] (zqv A)
noncomputable abbrev zcu:Prop:=FnOk P w K mg B (CX1 P w B) 1 A.f_q6 A.d_q6 ["text"] (zfr A)
noncomputable abbrev zro:Prop:=FnOk P w K mg B (CX1 P w B) 10 A.f_q15 A.d_q15 ["kind", "text"] (zyr K A)
noncomputable abbrev zeo:Prop:=FnOk P w K mg B (CX1 P w B) 11 A.f_q25 A.d_q25 ["row"] (zhr K A)
noncomputable abbrev zgu:Prop:=FnOk P w K mg B (CX1 P w B) 12 A.f_q0 A.d_q0 ["row"] (zns K A)
noncomputable abbrev zpo:Prop:=FnOk P w K mg B (CX1 P w B) 1 A.f_q11 A.d_q11 [] zfv
noncomputable abbrev zqo:Prop:=FnOk P w K mg B (CX1 P w B) 1 A.f_q18 A.d_q18 ["_law_number_here"] zfo
noncomputable abbrev zpp:Prop:=FnOk P w K mg B (CX1 P w B) 1 A.f_q24 A.d_q24 ["_law_number_here"] zxs
noncomputable abbrev zln:Prop:=FnOk P w K mg B (CX1 P w B) 2 A.f_q10 A.d_q10 ["_law_row", "_law_number_here"] zeu
noncomputable abbrev zbu:Prop:=FnOk P w K mg B (CX1 P w B) 3 A.f_q1 A.d_q1 ["_law_row", "_law_number_here"] zeu
noncomputable abbrev zar:Prop:=FnOk P w K mg B (CX1 P w B) 1 A.f_q7 A.d_q7 ["_law_text", "_law_least"] zvq
noncomputable abbrev zlp:Prop:=FnOk P w K mg B (CX1 P w B) 2 A.f_q22 A.d_q22 ["_law_text"] (zdt K)
noncomputable abbrev zho:Prop:=FnOk P w K mg B (CX1 P w B) 3 A.f_q19 A.d_q19 ["_law_kind", "_law_text"] (zpt K)
noncomputable abbrev zfq:Prop:=FnOk P w K mg B (CX1 P w B) 1 A.f_q13 A.d_q13 ["_law_word"] (zau K)
noncomputable abbrev znu:Prop:=FnOk P w K mg B (CX1 P w B) 4 A.f_q5 A.d_q5 ["_law_row"] (zwq K)
noncomputable abbrev zuo:Prop:=FnOk P w K mg B (CX1 P w B) 13 A.f_q17 A.d_q17 ["_law_row"] zms
noncomputable abbrev zcq:Prop:=FnOk P w K mg B (CX1 P w B) 1 A.f_q14 A.d_q14 ["_law_cell", "_law_k"] ztw
noncomputable abbrev zos:Prop:=FnOk P w K mg B (CX1 P w B) 14 A.f_law A.d_law ["_law_script"] (sp_law K)
end
set_option maxHeartbeats 4000000
section
variable {P:Program} {w:World} {K:W.Frag} {mg:Str→Option Value} {B:Heap} {A:Adr}
theorem zot:FnScope ["text"] ["text"] (zja zcs):=by walk_at "sc"
theorem zvs (T:Txt w K mg A)  : zqm P w K mg B A:=by
 refine FnOk.pure (T.F_q26.okN zot (λ vs H Q E h=>?_) (λ _ _ _ _ H vs Q E hr h=>?_))
 ·obtain ⟨_,a,rfl,_⟩:=h
  rfl
 ·obtain ⟨hp,z,rfl,q⟩:=h
  refine ⟨_,(zga (zpa (zri (zpd zrd zda (pv 0) (by rfl)) (zfn (zpd zrd zda (pv 0) (by rfl)))))),?_⟩
  refine ⟨_,rfl,_,_,rfl,rfl,_,rfl,?_⟩
  refine znw (λ h1=>?_) (λ h1=>?_)
  ·refine ⟨_,rfl,_,_,rfl,rfl,?_⟩
   exact q _ _ (congrArg V.bl (by unfold zxc hasS;rw [h1,Bool.true_and])) (Same.refl _)
  ·exact q _ _ (congrArg V.bl (by unfold zxc hasS;rw [h1,Bool.false_and])) (Same.refl _)
theorem zht:FnScope ["text", "signs"] ["text", "signs"] (zja zqs):=by walk_at "sc"
theorem znr (T:Txt w K mg A)  : zqn P w K mg B A:=by
 refine FnOk.pure (T.F_q27.okN zht (λ vs H Q E h=>?_) (λ _ _ _ _ H vs Q E hr h=>?_))
 ·obtain ⟨_,a,⟨rfl,_⟩,_⟩:=h
  rfl
 ·obtain ⟨hp,⟨z,t⟩,⟨rfl,hz⟩,q⟩:=h
  refine ⟨_,(zga (zpa (zva (zej rfl) rfl T.n_all (by decide +kernel) (zaa (zhl ["sign", "signs"] 1 [1] rfl (zvn (pv 0)) gk1 (λ _ _ _ _ _=>zab (i:=0) (show List.Nodup (["sign", "signs"]:List Str) by decide +kernel) rfl (Or.inl rfl)) (λ _ _ _ _ _=>zcf) (λ _ _ _ _ _=>(zpd zmd (pv 0) (pv 1) (by rfl)))) zea)))),?_⟩
  refine ⟨_,rfl,_,rfl,λ D hD=>zhj (λ i=>.bl (hasS ⟨#[z.cps.toList.getD i 0]⟩ t)) (sm1 (hz)) ?_ ?_⟩
  ·intro i c H2 R hc hR
   refine ⟨_,rfl,_,rfl,_,_,rfl,rfl,hR _ ?_⟩
   have:z.cps.toList.getD i 0=c:=by rw [List.getD_eq_getElem?_getD];simp [hc]
   rw [this]
   rfl
  ·exact ⟨D,(List.range z.cps.size).map λ i=>hasS ⟨#[z.cps.toList.getD i 0]⟩ t,rfl,SqL.of (by rw [upd_same,List.map_map];rfl),q _ _ rfl (zca hD)⟩
theorem sc_q9:FnScope ["text", "figures"] ["text"] (zja s_q9):=by walk_at "sc"
theorem zuu (T:Txt w K mg A) (G_q27:zqn P w K mg B A):zjq P w K mg B A:=by
 have B_q27:=T.b_q27
 obtain ⟨t_FIGURES,g_FIGURES⟩:=T.u_FIGURES
 obtain ⟨t_MOST_FIGURES,g_MOST_FIGURES⟩:=T.u_MOST_FIGURES
 refine T.F_q9.okX sc_q9 (λ vs H Q E h=>?_) (λ _ _ _ _ H vs Q E hr h=>?_)
 ·obtain ⟨_,z,rfl,_⟩:=h
  rfl
 ·obtain ⟨hp,z,rfl,hz,q1,q2⟩:=h
  refine ⟨_,(zba (zsa (i:=1) sc_q9.nd rfl (Or.inl rfl) (zjj (zld (zue PySem.F.plainAttrs_str PySem.F.slot_str_startswith PySem.F.type_str_startswith zfc (pv 0) (zaa zda zea))) (zua zjf (pv 0) (zza zha) zeb) (pv 0)))
   (zba (zmb (PW.pt (zyi (zia zdd (pv 1) zda (zta _)) (zyi (zia zku (zva zzb rfl T.n_len (by decide +kernel) (zaa (pv 1) zea)) (zxb (v := .int (30)) rfl g_MOST_FIGURES ⟨t_MOST_FIGURES,rfl⟩) (zta _)) (zkf (zne (zld (zma G_q27 (hr.mono (by decide)) rfl T.g_q27 T.k_q27 B_q27 .nil zcd (zaa (pv 1) (zaa (zxb (v := .str "0123456789") rfl g_FIGURES ⟨t_FIGURES,rfl⟩) zea))))))))) (zga (zpb T.x_NoText zqa rfl rfl T.g_NoText (zaa zda zea))) zla)
   (zba (zmb (PW.pt (zqh (zia zdd (zle zkm (pv 1) zha (λ _ _=>rfl)) zda (zta _)) (zaf (zia zvm (pv 0) zda (zta _))))) (zga (zpb T.x_NoText zqa rfl rfl T.g_NoText (zaa zda zea))) zla)
   (zga (zpa (zfb zvd rfl T.n_int (by decide +kernel) (zaa (pv 0) zea))))))),?_⟩
  have sz:z.length≤sizeLine:=sm1 ((by omega))
  have hlz:z.cps.toList.length=z.length:=Array.length_toList
  apply join (α:=Str) (ok:=λ y=>y.cps.toList=(if z.cps.toList.head? = some 45 then z.cps.toList.tail else z.cps.toList))
  ·intro R
   refine ⟨_,rfl,rfl,⟨_,_,rfl,rfl,_,rfl,?_⟩⟩
   rw [zid]
   refine zvb (λ h=>?_) (λ h=>?_)
   ·refine ⟨_,rfl,_,rfl,_,rfl,sz,?_⟩
    have e:=zpf z
    generalize Txt.slice z (some 1) none=y at e ⊢
    exact R y (by rw [if_pos h,e])
   ·refine ⟨_,rfl,?_⟩
    exact R z (by rw [if_neg h])
  intro y hy
  have hly:y.cps.toList.length=y.length:=Array.length_toList
  have hle:y.length≤z.length:=by
   rw [← hly,← hlz,hy]
   split
   ·simp
   ·exact Nat.le_refl _
  refine ⟨_,rfl,rfl,_,rfl,zvb (λ h1=>iteT ?_) (λ h1=>⟨_,rfl,_,rfl,Nat.le_trans hle sz,_,_,rfl,rfl,_,rfl,zvb (λ h2=>iteT ?_) (λ h2=>?_)⟩)⟩
  ·refine ⟨by decide,q2 ?_⟩
   have e:y.cps.toList=[]:=(zjb _ _).mp h1
   rw [e] at hy
   unfold zbc
   split
   ·rename_i hh
    rw [if_pos hh] at hy
    rw [← hy,if_pos (.inl (by decide))]
   ·rename_i hh
    rw [if_neg hh] at hy
    rw [← hy,if_pos (.inl (by decide))]
  ·refine ⟨by decide,q2 ?_⟩
   have h2':30<y.cps.toList.length:=by rw [hly];omega
   unfold zbc
   split
   ·rename_i hh
    rw [if_pos hh] at hy
    rw [← hy,if_pos (.inr (.inl h2'))]
   ·rename_i hh
    rw [if_neg hh] at hy
    rw [← hy,if_pos (.inr (.inl h2'))]
  refine ⟨_,rfl,hp,(y,DIG),⟨rfl,by show y.length≤1000;omega⟩,λ v hv=>⟨_,hv,?_⟩⟩
  rw [zmh]
  cases hd:y.cps.toList.all zhf with
  | false =>
   refine iteT ⟨by decide,q2 ?_⟩
   unfold zbc
   split
   ·rename_i hh
    rw [if_pos hh] at hy
    rw [← hy,if_pos (.inr (.inr (.inl hd)))]
   ·rename_i hh
    rw [if_neg hh] at hy
    rw [← hy,if_pos (.inr (.inr (.inl hd)))]
  | true =>
   refine iteF ?_
   obtain ⟨c,cs,hc⟩:∃ c cs,y.cps.toList=c::cs:=by
    cases e:y.cps.toList with
    | nil=>exact absurd ((zjb _ _).mpr e) h1
    | cons c cs=>exact ⟨c,cs,rfl⟩
   have AD:AllDigits y.cps.toList:=(zif _).mp hd
   have len30:¬ 30<y.cps.toList.length:=by rw [hly];omega
   have c48:(V.str ⟨#[c]⟩=V.str "0")↔c=48:=by
    rw [zjb]
    have:("0" : Str).cps.toList=[48]:=rfl
    rw [this]
    simp
   refine ⟨_,rfl,_,_,_,rfl,rfl,Nat.le_trans hle sz,zgg hc,rfl,_,rfl,zvb (λ h3=>⟨_,rfl,rfl,_,rfl,zfj (λ h4=>?_) (λ h4=>?_)⟩) (λ h3=>?_)⟩
   ·refine ⟨by decide,q2 ?_⟩
    have hc48:=c48.mp h3
    subst hc48
    unfold zbc
    split
    ·rename_i hh
     rw [if_pos hh] at hy
     rw [← hy,if_pos (.inr (.inr (.inr (by rw [hc];rfl))))]
    ·rename_i hh
     rw [if_neg hh] at hy
     have l1:1<y.cps.toList.length:=by
      rw [hc]
      cases cs with
      | nil =>
       exfalso
       apply h4
       rw [zjb,← hy,hc]
       rfl
      | cons _ _=>simp
     rw [← hy,if_pos (.inr (.inr (.inr ⟨by rw [hc];rfl,l1⟩)))]
   ·-- text is "0"
    have e0:z.cps.toList=[48]:=(zjb _ _).mp h4
    have AZ:AllDigits z.cps.toList:=by rw [e0];intro d hd';simp at hd';omega
    refine ⟨_,rfl,_,_,rfl,by omega,PySem.intText_digits AZ (by rw [e0];simp) (by omega),q1 _ ?_⟩
    rw [e0]
    rfl
   ·have c48':c≠48:=λ e=>h3 (c48.mpr e)
    by_cases hh:z.cps.toList.head? = some 45
    ·rw [if_pos hh] at hy
     obtain ⟨ds,hz45⟩:∃ ds,z.cps.toList=45::ds:=by
      cases e:z.cps.toList with
      | nil=>rw [e] at hh;cases hh
      | cons a b=>rw [e] at hh;simp at hh;exact ⟨b,by rw [hh]⟩
     have hyd:y.cps.toList=ds:=by rw [hy,hz45];rfl
     refine ⟨_,rfl,_,_,rfl,by omega,PySem.intText_neg hz45 (by rw [← hyd];exact AD) (by rw [← hyd,hc];simp) (by omega),q1 _ ?_⟩
     unfold zbc
     rw [if_pos hh,← hy,if_neg,hyd]
     rintro (z1 | z1 | z1 | z1)
     ·rw [hc] at z1;simp at z1
     ·exact len30 z1
     ·rw [hd] at z1;cases z1
     ·rw [hc] at z1;simp at z1;exact c48' z1
    ·rw [if_neg hh] at hy
     refine ⟨_,rfl,_,_,rfl,by omega,PySem.intText_digits (by rw [← hy];exact AD) (by rw [← hy,hc];simp) (by omega),q1 _ ?_⟩
     unfold zbc
     rw [if_neg hh,← hy,if_neg]
     rintro (z1 | z1 | z1 | z1)
     ·rw [hc] at z1;simp at z1
     ·exact len30 z1
     ·rw [hd] at z1;cases z1
     ·rw [hc] at z1;simp at z1;exact c48' z1.1
theorem sc_q23:FnScope ["least", "text", "number"] ["least", "text"] (zja zir):=by walk_at "sc"
theorem zer (T:Txt w K mg A) (G_q9:zjq P w K mg B A):zxm P w K mg B A:=by
 have B_q9:=T.b_q9
 refine T.F_q23.okX sc_q23 (λ vs H Q E h=>?_) (λ _ _ _ _ H vs Q E hr h=>?_)
 ·obtain ⟨_,a,⟨rfl,_⟩,_⟩:=h
  rfl
 ·obtain ⟨hp,⟨k,z⟩,⟨hv,hz⟩,q,qe⟩:=h
  obtain rfl:vs=[.int k,.str z]:=hv
  dsimp only at hz
  refine ⟨_,(zba (zsa (i:=2) sc_q23.nd rfl (Or.inl rfl) (zma G_q9 (hr.mono (by decide)) rfl T.g_q9 T.k_q9 B_q9 .nil (Wants.passes zqa) (zaa (pv 1) zea)))
   (zba (zmb (zia zkq (pv 2) (pv 0) (zta _)) (zga (zpb T.x_NoText zqa rfl rfl T.g_NoText (zaa zda zea))) zla)
   (zga (zpa (pv 2))))),?_⟩
  refine ⟨_,rfl,hp,z,rfl,hz,λ n hn=>?_,λ hn=>qe _ _ ⟨rfl,?_⟩ (Same.refl _) hp⟩
  ·refine ⟨_,rfl,_,rfl,_,_,rfl,rfl,_,rfl,zvb (λ h1=>?_) (λ h1=>?_)⟩
   ·refine ⟨sz_1,qe _ _ ⟨rfl,?_⟩ (Same.refl _) hp⟩
    unfold znb
    rw [hn]
    exact if_pos h1
   ·refine ⟨_,rfl,q _ _ ⟨n,rfl,?_⟩ (Same.refl _) hp⟩
    unfold znb
    rw [hn]
    exact if_neg h1
  ·unfold znb
   rw [hn]
theorem zwu:FnScope ["window", "count"] ["window", "count"] (zja s_q4):=by walk_at "sc"
theorem zkw (T:Txt w K mg A)  : zzs P w K mg B A:=by
 refine T.F_q4.okX zwu (λ vs H Q E h=>?_) (λ _ _ _ _ H vs Q E hr h=>?_)
 ·obtain ⟨_,a,rfl,_⟩:=h
  rfl
 ·obtain ⟨hp,⟨m,n⟩,hv,q,qe⟩:=h
  obtain rfl:vs=[.int m,.int n]:=hv
  dsimp only at q qe
  refine ⟨_,(zga (zmb (PW.pt (zyi (zia zkq (pv 0) zha (zta _)) (zkf (zia zkq (pv 1) zha (zta _))))) (zga (zpb T.x_NoText zqa rfl rfl T.g_NoText (zaa zda zea))) zla)),?_⟩
  refine ⟨_,rfl,_,_,rfl,rfl,_,rfl,zvb (λ h1=>iteT ?_) (λ h1=>⟨_,rfl,_,_,rfl,rfl,_,rfl,zvb (λ h2=>?_) (λ h2=>?_)⟩)⟩
  ·exact ⟨by decide,qe _ _ ⟨rfl,.inl h1⟩ (Same.refl _) hp⟩
  ·exact ⟨by decide,qe _ _ ⟨rfl,.inr h2⟩ (Same.refl _) hp⟩
  ·exact q _ _ ⟨by rintro (z | z) <;> contradiction,rfl⟩ (Same.refl _) hp
theorem sc_q3:FnScope ["text", "many", "parts"] ["text", "many"] (zja s_q3):=by walk_at "sc"
theorem zow (T:Txt w K mg A) (G_q9:zjq P w K mg B A):zet P w K mg B A:=by
 have B_q9:=T.b_q9
 refine T.F_q3.okX sc_q3 (λ vs H Q E h=>?_) (λ _ _ _ _ H vs Q E hr h=>?_)
 ·obtain ⟨_,a,⟨rfl,_⟩,_⟩:=h
  rfl
 ·obtain ⟨hp,⟨z,m⟩,⟨hv,hz⟩,q,qe⟩:=h
  obtain rfl:vs=[.str z,.int m]:=hv
  dsimp only at hz
  refine ⟨_,(zba (zsa (i:=2) sc_q3.nd rfl (Or.inl rfl) (zue PySem.F.plainAttrs_str PySem.F.slot_str_split PySem.F.type_str_split zod (pv 0) (zaa zda zea)))
   (zba (zmb (zia zvm (zva zra rfl T.n_len (by decide +kernel) (zaa (pv 2) zea)) (pv 1) (zta _)) (zga (zpb T.x_NoText zqa rfl rfl T.g_NoText (zaa zda zea))) zla)
   (zga (zpa (zvf _ ["part"] 1 [] zqa ⟨⟨_,_,_,rfl,rfl,rfl⟩⟩ rfl (zkl (pv 2)) gk1 (λ _ _ _ _ _=>zab (i:=0) (show List.Nodup (["part"]:List Str) by decide +kernel) rfl (Or.inl rfl)) (λ _ _ _ _ _=>zcf) (λ _ _ _ _ _ hW=>(zma G_q9 (hr.mono (by decide)) rfl T.g_q9 T.k_q9 B_q9 .nil (Wants.passes hW) (zaa (pv 0) zea)))))))),?_⟩
  refine ⟨_,rfl,rfl,z,_,rfl,rfl,by decide,by omega,λ l hl=>?_⟩
  have hlen:=split_le z "."
  refine ⟨_,rfl,l,_,rfl,.inl (SqL.of upd_same),_,rfl,rfl,_,rfl,zfj (λ hne=>?_) (λ heq=>?_)⟩
  ·rw [List.length_map] at hne
   refine ⟨by decide,qe _ _ ⟨rfl,?_⟩ (zca hl) hp.lst⟩
   show dotL z m=none
   unfold dotL
   rw [if_neg (λ e=>hne (by rw [e]))]
  ·rw [List.length_map] at heq
   have heq:=V.int.inj heq
   refine ⟨_,rfl,l,rfl,⟨_,SqL.of upd_same⟩,λ D hD=>zbi (n:=((Txt.split z ".").map V.str).length) (λ i=>((Txt.split z ".").map V.str).getD i .non) (λ i y _=>∃ n,y = .int n∧∃ p,(Txt.split z ".")[i]? = some p∧zbc p.cps.toList=some n) hD hp.lst ?_ (zkp (SqL.of upd_same)) (λ _ _ _ _ h _ _=>h) ?_ ?_⟩
   ·rw [List.length_map];exact sm1 ((by omega))
   ·intro i H2 R hi hP2 hs2 hR
    rw [List.length_map] at hi
    have hn:(Txt.split z ".")[i]? = some (Txt.split z ".")[i]:=List.getElem?_eq_getElem hi
    have hm:(Txt.split z ".")[i]∈Txt.split z "." := List.getElem_mem hi
    generalize (Txt.split z ".")[i]=p at hn hm
    have hpz:=part_short hm
    have ev:((Txt.split z ".").map V.str).getD i .non = .str p:=by rw [List.getD_eq_getElem?_getD,List.getElem?_map,hn];rfl
    rw [ev]
    refine ⟨_,rfl,hP2,p,rfl,by omega,λ n hn'=>hR _ _ ⟨n,rfl,p,hn,hn'⟩ (Same.refl _) hP2,λ hnb=>qe _ _ ⟨rfl,?_⟩ ((zca hl).trans hs2) hP2⟩
    show dotL z m=none
    unfold dotL
    rw [if_pos heq]
    exact zwb hm hnb
   ·intro ys H2 hl2 hr2 hd2 hs2 hP2
    rw [List.length_map] at hl2
    obtain ⟨ns,rfl,hns⟩:=znk (f:=V.int) (R:=λ i n=>∃ p,(Txt.split z ".")[i]? = some p∧zbc p.cps.toList=some n) hr2
    rw [List.length_map] at hl2
    refine q _ _ ⟨D,ns,rfl,hd2,?_⟩ ((zca hl).trans hs2) hP2
    show dotL z m=some ns
    unfold dotL
    rw [if_pos heq]
    refine zhe hl2.symm λ i p hp=>?_
    have hi:i<ns.length:=by rw [hl2];exact (List.getElem?_eq_some_iff.mp hp).1
    obtain ⟨p',e1,e2⟩:=hns i ns[i] (List.getElem?_eq_getElem hi)
    rw [hp] at e1
    cases e1
    exact ⟨ns[i],List.getElem?_eq_getElem hi,e2⟩
theorem sc_q20:FnScope ["text", "window", "count"] ["text"] (zja zwr):=by walk_at "sc"
theorem zpq (T:Txt w K mg A) (G_q4:zzs P w K mg B A) (G_q3:zet P w K mg B A):zzn P w K mg B A:=by
 have B_q4:=T.b_q4
 have B_q3:=T.b_q3
 refine T.F_q20.okX sc_q20 (λ vs H Q E h=>?_) (λ _ _ _ _ H vs Q E hr h=>?_)
 ·obtain ⟨_,a,⟨rfl,_⟩,_⟩:=h
  rfl
 ·obtain ⟨hp,z,⟨rfl,hz⟩,q,qe⟩:=h
  refine ⟨_,(zba (zfh (zma G_q3 (hr.mono (by decide)) rfl T.g_q3 T.k_q3 B_q3 .nil (Wants.passes zqa) (zaa (pv 0) (zaa zha zea))) (zzp rfl (zxa (zab (i:=1) sc_q20.nd rfl (Or.inl rfl)) (zxa (zab (i:=2) sc_q20.nd rfl (Or.inl rfl)) zjd))))
   (zba (zrl (zma G_q4 (hr.mono (by decide)) rfl T.g_q4 T.k_q4 B_q4 .nil (Wants.passes zqa) (zaa (pv 1) (zaa (pv 2) zea))))
   (zga (zpa (zjc (zaa (pv 1) (zaa (pv 2) zea))))))),?_⟩
  refine ⟨_,rfl,hp,(z,2),⟨rfl,hz⟩,λ v H1 hv hs1 hp1=>?_,λ C H1 hC hs1 hp1=>qe _ _ ⟨hC.1,?_⟩ hs1 hp1⟩
  ·obtain ⟨l,ns,rfl,hl,hd⟩:=hv
   dsimp only at hd
   obtain ⟨a,b,rfl⟩:∃ a b,ns=[a,b]:=zxq hd
   refine ⟨l,_,rfl,SqL.of hl,rfl,_,_,rfl,_,_,rfl,rfl,?_⟩
   refine ⟨_,rfl,_,rfl,hp1,(a,b),rfl,λ v H2 hv hs2 hp2=>?_,λ C H2 hC hs2 hp2=>qe _ _ ⟨hC.1,?_⟩ (hs1.trans hs2) hp2⟩
   ·obtain ⟨hno,rfl⟩:=hv
    dsimp only at hno
    refine ⟨_,rfl,_,rfl,sz_2,λ t ht=>q _ _ ⟨t,a,b,rfl,upd_same,?_⟩ ((hs1.trans hs2).upd ((hs1.trans hs2).free ht)) hp2.tup⟩
    unfold zxe
    rw [hd]
    exact if_neg hno
   ·have h2:=hC.2
    dsimp only at h2
    unfold zxe
    rw [hd]
    exact if_pos h2
  ·have hd:dotL z 2=none:=hC.2
   unfold zxe
   rw [hd]
theorem sc_q21:FnScope ["text", "rank", "window", "count"] ["text"] (zja zcr):=by walk_at "sc"
theorem zgt (T:Txt w K mg A) (G_q4:zzs P w K mg B A) (G_q3:zet P w K mg B A):zgq P w K mg B A:=by
 have B_q4:=T.b_q4
 have B_q3:=T.b_q3
 refine T.F_q21.okX sc_q21 (λ vs H Q E h=>?_) (λ _ _ _ _ H vs Q E hr h=>?_)
 ·obtain ⟨_,a,⟨rfl,_⟩,_⟩:=h
  rfl
 ·obtain ⟨hp,z,⟨rfl,hz⟩,q,qe⟩:=h
  refine ⟨_,(zba (zfh (zma G_q3 (hr.mono (by decide)) rfl T.g_q3 T.k_q3 B_q3 .nil (Wants.passes zqa) (zaa (pv 0) (zaa zha zea))) (zzp rfl (zxa (zab (i:=1) sc_q21.nd rfl (Or.inl rfl)) (zxa (zab (i:=2) sc_q21.nd rfl (Or.inl rfl)) (zxa (zab (i:=3) sc_q21.nd rfl (Or.inl rfl)) zjd)))))
   (zba (zrl (zma G_q4 (hr.mono (by decide)) rfl T.g_q4 T.k_q4 B_q4 .nil (Wants.passes zqa) (zaa (pv 2) (zaa (pv 3) zea))))
   (zga (zpa (zjc (zaa (pv 1) (zaa (pv 2) (zaa (pv 3) zea)))))))),?_⟩
  refine ⟨_,rfl,hp,(z,3),⟨rfl,hz⟩,λ v H1 hv hs1 hp1=>?_,λ C H1 hC hs1 hp1=>qe _ _ ⟨hC.1,?_⟩ hs1 hp1⟩
  ·obtain ⟨l,ns,rfl,hl,hd⟩:=hv
   dsimp only at hd
   obtain ⟨r,a,b,rfl⟩:=zjm hd
   refine ⟨l,_,rfl,SqL.of hl,rfl,_,_,rfl,_,_,rfl,_,_,rfl,rfl,?_⟩
   refine ⟨_,rfl,_,rfl,hp1,(a,b),rfl,λ v H2 hv hs2 hp2=>?_,λ C H2 hC hs2 hp2=>qe _ _ ⟨hC.1,?_⟩ (hs1.trans hs2) hp2⟩
   ·obtain ⟨hno,rfl⟩:=hv
    dsimp only at hno
    refine ⟨_,rfl,_,rfl,_,rfl,sz_3,λ t ht=>q _ _ ⟨t,(r,a,b),rfl,upd_same,?_⟩ ((hs1.trans hs2).upd ((hs1.trans hs2).free ht)) hp2.tup⟩
    unfold ztl
    rw [hd]
    exact if_neg hno
   ·have h2:=hC.2
    dsimp only at h2
    unfold ztl
    rw [hd]
    exact if_pos h2
  ·have hd:dotL z 3=none:=hC.2
   unfold ztl
   rw [hd]
theorem zsq:FnScope ["text"] ["text"] (zja zys):=by walk_at "sc"
theorem zqt (T:Txt w K mg A) (G_q21:zgq P w K mg B A):zjo P w K mg B A:=by
 have B_q21:=T.b_q21
 refine T.F_q12.okX zsq (λ vs H Q E h=>?_) (λ _ _ _ _ H vs Q E hr h=>?_)
 ·obtain ⟨_,a,⟨rfl,_⟩,_⟩:=h
  rfl
 ·obtain ⟨hp,z,⟨rfl,hz⟩,q,qe⟩:=h
  refine ⟨_,(zga (zpa (zfb zub rfl T.n_tuple (by decide +kernel) (zaa (zvf _ ["part"] 1 [] zqa ⟨⟨_,_,_,rfl,rfl,rfl⟩⟩ rfl (zkl (zue PySem.F.plainAttrs_str PySem.F.slot_str_split PySem.F.type_str_split zod (pv 0) (zaa zda zea))) gk1 (λ _ _ _ _ _=>zab (i:=0) (show List.Nodup (["part"]:List Str) by decide +kernel) rfl (Or.inl rfl)) (λ _ _ _ _ _=>zcf) (λ _ _ _ _ _ hW=>(zma G_q21 (hr.mono (by decide)) rfl T.g_q21 T.k_q21 B_q21 .nil (Wants.passes hW) (zaa (pv 0) zea)))) zea)))),?_⟩
  refine ⟨_,rfl,rfl,z,_,rfl,rfl,by decide,by omega,λ l hl=>?_⟩
  have hlen:=split_le z "/"
  refine ⟨l,rfl,⟨_,SqL.of upd_same⟩,λ D hD=>zbi (n:=((Txt.split z "/").map V.str).length) (λ i=>((Txt.split z "/").map V.str).getD i .non) (λ i y H=>∃ s,DV K H (stp s) y∧∃ p,(Txt.split z "/")[i]? = some p∧ztl p=some s) hD hp.lst ?_ (zkp (SqL.of upd_same)) ?_ ?_ ?_⟩
  ·rw [List.length_map];exact sm1 ((by omega))
  ·rintro i y H1 H2 ⟨s,hd,r⟩ k hz
   exact ⟨s,DV.mono k hz _ _ (zcl s) hd,r⟩
  ·intro i H2 R hi hP2 hs2 hR
   rw [List.length_map] at hi
   have hn:(Txt.split z "/")[i]? = some (Txt.split z "/")[i]:=List.getElem?_eq_getElem hi
   have hm:(Txt.split z "/")[i]∈Txt.split z "/" := List.getElem_mem hi
   generalize (Txt.split z "/")[i]=p at hn hm
   have hpz:=part_short hm
   have ev:((Txt.split z "/").map V.str).getD i .non = .str p:=by rw [List.getD_eq_getElem?_getD,List.getElem?_map,hn];rfl
   rw [ev]
   refine ⟨_,rfl,hP2,p,⟨rfl,by omega⟩,λ v H6 hv hs6 hp6=>?_,λ C H6 hC hs6 hp6=>qe _ _ ⟨hC.1,zwb hm hC.2⟩ (((zca hl).trans hs2).trans hs6) hp6⟩
   obtain ⟨t,s,rfl,ht,hs⟩:=hv
   exact hR _ _ ⟨s,ztr (SqT.of ht),p,hn,hs⟩ hs6 hp6
  ·intro ys H2 hl2 hr2 hd2 hs2 hP2
   rw [List.length_map] at hl2
   obtain ⟨ss,hss,hdv,hr⟩:=ztk (R:=λ i s=>∃ p,(Txt.split z "/")[i]? = some p∧ztl p=some s) hr2
   refine ⟨D,ys,rfl,.inl ⟨SqL.of hd2,λ t ht=>q _ _ ⟨ss,⟨t,ys,rfl,SqT.of upd_same,DVs.same (zca ht) _ _ hdv⟩,?_⟩ (((zca hl).trans hs2).upd (((zca hl).trans hs2).free ht)) hP2.tup⟩⟩
   unfold zjk
   refine zhe (by omega) λ i p hp=>?_
   have hi:i<ss.length:=by
    have:=(List.getElem?_eq_some_iff.mp hp).1
    omega
   obtain ⟨p',e1,e2⟩:=hr i ss[i] (List.getElem?_eq_getElem hi)
   rw [hp] at e1
   cases e1
   exact ⟨ss[i],List.getElem?_eq_getElem hi,e2⟩
theorem zyu:FnScope ["beat"] ["beat"] (zja s_q8):=by walk_at "sc"
theorem zjw (T:Txt w K mg A)  : zmu P w K mg B A:=by
 refine T.F_q8.okN zyu (λ vs H Q E h=>?_) (λ _ _ _ _ H vs Q E hr h=>?_)
 ·obtain ⟨_,a,rfl,_⟩:=h
  rfl
 ·obtain ⟨hp,b,rfl,q,_⟩:=h
  refine ⟨_,(zga (zpa (zjc (zaa (pv 0) (zaa (zjc zea) (zaa zda zea)))))),?_⟩
  refine ⟨_,rfl,sz_0,λ te hp1=>?_⟩
  generalize hH1:upd H te (HO.tup _)=H1
  have s1:Same H H1:=hH1 ▸ zca hp1
  have P1:Plain H1:=hH1 ▸ hp.tup
  have h1:=(congrFun hH1 te).symm.trans upd_same
  refine ⟨sz_3,λ t hp2=>?_⟩
  generalize hH2:upd H1 t (HO.tup _)=H2
  have s2:Same H1 H2:=hH2 ▸ zca hp2
  have P2:Plain H2:=hH2 ▸ P1.tup
  have h2:=(congrFun hH2 t).symm.trans upd_same
  exact q _ _ (zhp (v:=(b,[], "")) (SqT.of h2) (DV.same s2 _ _ (zfm h1))) (s1.trans s2) P2
theorem sc_q2:FnScope ["text", "beat_text", "blank", "rest", "beat", "where", "words", "place"] ["text"] (zja s_q2):=by walk_at "sc"
theorem ztv (T:Txt w K mg A) (G_q26:zqm P w K mg B A) (G_q23:zxm P w K mg B A) (G_q12:zjo P w K mg B A) (G_q8:zmu P w K mg B A):zhu P w K mg B A:=by
 have B_q26:=T.b_q26
 have B_q23:=T.b_q23
 have B_q12:=T.b_q12
 have B_q8:=T.b_q8
 obtain ⟨t_OUT,g_OUT⟩:=T.u_OUT
 refine T.F_q2.okX sc_q2 (λ vs H Q E h=>?_) (λ _ _ _ _ H vs Q E hr h=>?_)
 ·obtain ⟨_,a,⟨rfl,_⟩,_⟩:=h
  rfl
 ·obtain ⟨hp,z,⟨rfl,hz⟩,q,qe⟩:=h
  refine ⟨_,(zba (zfh (zue PySem.F.plainAttrs_str PySem.F.slot_str_partition PySem.F.type_str_partition zrc (pv 0) (zaa zda zea)) (zhh rfl (zxa (zab (i:=1) sc_q2.nd rfl (Or.inl rfl)) (zxa (zab (i:=2) sc_q2.nd rfl (Or.inl rfl)) (zxa (zab (i:=3) sc_q2.nd rfl (Or.inl rfl)) zjd)))))
   (zba (zsa (i:=4) sc_q2.nd rfl (Or.inl rfl) (zma G_q23 (hr.mono (by decide)) rfl T.g_q23 T.k_q23 B_q23 .nil (Wants.passes zqa) (zaa zha (zaa (pv 1) zea))))
   (zba (zmb (zia zdd (pv 3) (zxb (v := .str "-") rfl g_OUT ⟨t_OUT,rfl⟩) (zta _)) (zga (zpa (zma G_q8 (hr.mono (by decide)) rfl T.g_q8 T.k_q8 B_q8 .nil zcd (zaa (pv 4) zea)))) zla)
   (zba (zfh (zue PySem.F.plainAttrs_str PySem.F.slot_str_partition PySem.F.type_str_partition zrc (pv 3) (zaa zda zea)) (zhh rfl (zxa (zab (i:=5) sc_q2.nd rfl (Or.inl rfl)) (zxa (zab (i:=2) sc_q2.nd rfl (Or.inl rfl)) (zxa (zab (i:=6) sc_q2.nd rfl (Or.inl rfl)) zjd)))))
   (zba (zsa (i:=7) sc_q2.nd rfl (Or.inl rfl) (zma G_q12 (hr.mono (by decide)) rfl T.g_q12 T.k_q12 B_q12 .nil (Wants.passes zqa) (zaa (pv 5) zea)))
   (zba (zmb (PW.pt (zyi (zia zdd (pv 2) zda (zta _)) (zkf (zne (zld (zma G_q26 (hr.mono (by decide)) rfl T.g_q26 T.k_q26 B_q26 .nil zcd (zaa (pv 6) zea))))))) (zga (zpb T.x_NoText zqa rfl rfl T.g_NoText (zaa zda zea))) zla)
   (zga (zpa (zjc (zaa (pv 4) (zaa (pv 7) (zaa (pv 6) zea)))))))))))),?_⟩
  have f1:=fact_partition z " "
  have vn:=zlk (z:=z)
  have vo:=λ b=>zlm (z:=z) (b:=b)
  have vi:=λ b=>ztn (z:=z) (b:=b)
  refine ⟨_,rfl,rfl,z,_,rfl,rfl,by decide,by omega,λ t1 hp1=>?_⟩
  generalize Txt.partition z " " = pt at f1 vn vo vi ⊢
  obtain ⟨a,bl,r⟩:=pt
  dsimp only at f1 vn vo vi ⊢
  generalize hH1:upd H t1 (HO.tup _)=H1
  have s1:Same H H1:=hH1 ▸ zca hp1
  have P1:Plain H1:=hH1 ▸ hp.tup
  have h1:=(congrFun hH1 t1).symm.trans upd_same
  refine ⟨t1,_,rfl,SqT.of h1,rfl,_,_,rfl,_,_,rfl,_,_,rfl,rfl,?_⟩
  refine ⟨_,rfl,P1,(1,a),⟨rfl,by show a.length≤640;omega⟩,λ v H2 hv s2 P2=>?_,λ C H2 hC s2 P2=>qe _ _ ⟨hC.1,vn hC.2⟩ (s1.trans s2) P2⟩
  obtain ⟨b,rfl,hb⟩:=hv
  have S2:=s1.trans s2
  refine ⟨_,rfl,rfl,_,rfl,zvb (λ he=>?_) (λ he=>?_)⟩
  ·refine ⟨_,rfl,P2,b,rfl,λ v H3 hv s3 P3=>q _ _ ⟨_,hv,vo b hb (V.str.inj he)⟩ (S2.trans s3) P3,λ _ _ h=>h.elim⟩
  have vi:=vi b hb (λ e=>he (by rw [e]))
  have f2:=fact_partition r " "
  unfold zqq at vi
  refine ⟨_,rfl,rfl,r,_,rfl,rfl,by decide,by omega,λ t3 hp3=>?_⟩
  generalize Txt.partition r " " = pt at f2 vi ⊢
  obtain ⟨p,bl2,w⟩:=pt
  dsimp only at f2 vi ⊢
  generalize hH3:upd H2 t3 (HO.tup _)=H3
  have s3:Same H2 H3:=hH3 ▸ zca hp3
  have P3:Plain H3:=hH3 ▸ P2.tup
  have h3:=(congrFun hH3 t3).symm.trans upd_same
  have S3:=S2.trans s3
  refine ⟨t3,_,rfl,SqT.of h3,rfl,_,_,rfl,_,_,rfl,_,_,rfl,rfl,?_⟩
  refine ⟨_,rfl,P3,p,⟨rfl,by omega⟩,λ v H4 hv s4 P4=>?_,λ C H4 hC s4 P4=>qe _ _ ⟨hC.1,by rw [vi,hC.2]⟩ (S3.trans s4) P4⟩
  obtain ⟨ss,hd,hpl⟩:=hv
  rw [hpl] at vi
  dsimp only at vi
  have S4:=S3.trans s4
  have no:(bl2 = "" ∨ zxc w=false)→∀ H5,Same H4 H5→Plain H5→E (.ref A.NoText) none H5:=λ h H5 s5 P5=>qe _ _ ⟨rfl,by rw [vi];exact if_pos h⟩ (S4.trans s5) P5
  refine ⟨_,rfl,rfl,_,rfl,zvb (λ h1=>iteT ?_) (λ h1=>?_)⟩
  ·exact ⟨sz_1,no (.inl (V.str.inj h1)) _ (Same.refl _) P4⟩
  refine ⟨_,rfl,P4,w,rfl,λ v hv=>⟨_,hv,?_⟩⟩
  cases hw:zxc w with
  | false=>exact iteT ⟨sz_1,no (.inr hw) _ (Same.refl _) P4⟩
  | true =>
   refine iteF ⟨_,rfl,_,rfl,_,rfl,sz_3,λ t5 hp5=>?_⟩
   generalize hH5:upd H4 t5 (HO.tup _)=H5
   have s5:Same H4 H5:=hH5 ▸ zca hp5
   have P5:Plain H5:=hH5 ▸ P4.tup
   have h5:=(congrFun hH5 t5).symm.trans upd_same
   refine q _ _ ⟨(b,ss,w),zhp (v:=(b,ss,w)) (SqT.of h5) (DV.same s5 _ _ hd),?_⟩ (S4.trans s5) P5
   rw [vi]
   exact if_neg λ h=>h.elim (λ e=>h1 (by rw [e])) λ e=>by rw [hw] at e;cases e
theorem ztq:FnScope ["text"] ["text"] (zja zyt):=by walk_at "sc"
theorem zuq (T:Txt w K mg A) (G_q26:zqm P w K mg B A):zvp P w K mg B A:=by
 have B_q26:=T.b_q26
 refine T.F_q16.okX ztq (λ vs H Q E h=>?_) (λ _ _ _ _ H vs Q E hr h=>?_)
 ·obtain ⟨_,a,⟨rfl,_⟩,_⟩:=h
  rfl
 ·obtain ⟨hp,z,rfl,q,qe⟩:=h
  refine ⟨_,(zba (zmb (zne (zld (zma G_q26 (hr.mono (by decide)) rfl T.g_q26 T.k_q26 B_q26 .nil zcd (zaa (pv 0) zea)))) (zga (zpb T.x_NoText zqa rfl rfl T.g_NoText (zaa zda zea))) zla)
   (zga (zpa (pv 0)))),?_⟩
  refine ⟨_,rfl,hp,z,rfl,λ v hv=>⟨_,hv,?_⟩⟩
  cases hw:zxc z with
  | false=>exact iteT ⟨sz_1,qe _ _ ⟨rfl,hw⟩ (Same.refl _) hp⟩
  | true=>exact iteF ⟨_,rfl,q _ _ ⟨rfl,hw⟩ (Same.refl _) hp⟩
theorem zcw:FnScope ["text"] ["text"] (zja s_q6):=by walk_at "sc"
theorem zyv (T:Txt w K mg A)  : zcu P w K mg B A:=by
 refine T.F_q6.okX zcw (λ vs H Q E h=>?_) (λ _ _ _ _ H vs Q E hr h=>?_)
 ·obtain ⟨_,a,⟨rfl,_⟩,_⟩:=h
  rfl
 ·obtain ⟨hp,z,rfl,q,qe⟩:=h
  refine ⟨_,(zba (zmb (zia ztd (pv 0) (zxb (v := .ref A.CHOICES) rfl T.g_CHOICES rfl) (by rfl)) (zga (zpb T.x_NoText zqa rfl rfl T.g_NoText (zaa zda zea))) zla)
   (zga (zpa (pv 0)))),?_⟩
  refine ⟨_,rfl,A.CHOICES,_,rfl,.inr (T.t_CHOICES _),rfl,rfl,_,rfl,?_⟩
  show if (!inV (.str z) ((["stay", "turn", "both"]:List Str).map V.str))=true then _ else _
  rw [zff]
  by_cases hm:z∈(["stay", "turn", "both"]:List Str)
  ·rw [decide_eq_true hm]
   exact iteF ⟨_,rfl,q _ _ ⟨rfl,hm⟩ (Same.refl _) hp⟩
  ·rw [decide_eq_false hm]
   exact iteT ⟨sz_1,qe _ _ ⟨rfl,hm⟩ (Same.refl _) hp⟩
theorem znt:FnScope ["kind", "text"] ["kind", "text"] (zja zyq):=by walk_at "sc"
theorem zmr (T:Txt w K mg A) (G_q9:zjq P w K mg B A) (G_q23:zxm P w K mg B A) (G_q20:zzn P w K mg B A) (G_q2:zhu P w K mg B A) (G_q16:zvp P w K mg B A) (G_q6:zcu P w K mg B A):zro P w K mg B A:=by
 have B_q9:=T.b_q9
 have B_q23:=T.b_q23
 have B_q20:=T.b_q20
 have B_q2:=T.b_q2
 have B_q16:=T.b_q16
 have B_q6:=T.b_q6
 obtain ⟨t_HEAD_OF_ALL,g_HEAD_OF_ALL⟩:=T.u_HEAD_OF_ALL
 refine T.F_q15.okX znt (λ vs H Q E h=>?_) (λ _ _ _ _ H vs Q E hr h=>?_)
 ·obtain ⟨_,a,⟨rfl,_⟩,_⟩:=h
  rfl
 ·obtain ⟨hp,⟨k,z⟩,⟨hv,hz,hk⟩,q,qe⟩:=h
  obtain rfl:vs=[.str k,.str z]:=hv
  dsimp only at hz hk
  refine ⟨_,(zba (zmb (zia zdd (pv 0) zda (zta _)) (zga (zpa (zma G_q20 (hr.mono (by decide)) rfl T.g_q20 T.k_q20 B_q20 .nil (Wants.passes zqa) (zaa (pv 1) zea)))) zla)
   (zba (zmb (zia zdd (pv 0) zda (zta _)) (zga (zpa (zjj (zia zdd (pv 1) (zxb (v := .str "-") rfl g_HEAD_OF_ALL ⟨t_HEAD_OF_ALL,rfl⟩) (zta _)) zrb (zma G_q20 (hr.mono (by decide)) rfl T.g_q20 T.k_q20 B_q20 .nil (Wants.passes zqa) (zaa (pv 1) zea))))) zla)
   (zba (zmb (zia zdd (pv 0) zda (zta _)) (zga (zpa (zma G_q2 (hr.mono (by decide)) rfl T.g_q2 T.k_q2 B_q2 .nil (Wants.passes zqa) (zaa (pv 1) zea)))) zla)
   (zba (zmb (zia zdd (pv 0) zda (zta _)) (zga (zpa (zma G_q16 (hr.mono (by decide)) rfl T.g_q16 T.k_q16 B_q16 .nil (Wants.passes zqa) (zaa (pv 1) zea)))) zla)
   (zba (zmb (zia zdd (pv 0) zda (zta _)) (zga (zpa (zma G_q6 (hr.mono (by decide)) rfl T.g_q6 T.k_q6 B_q6 .nil (Wants.passes zqa) (zaa (pv 1) zea)))) zla)
   (zba (zmb (zia zdd (pv 0) zda (zta _)) (zga (zpa (zma G_q9 (hr.mono (by decide)) rfl T.g_q9 T.k_q9 B_q9 .nil (Wants.passes zqa) (zaa (pv 1) zea)))) zla)
   (zga (zpa (zma G_q23 (hr.mono (by decide)) rfl T.g_q23 T.k_q23 B_q23 .nil (Wants.passes zqa) (zaa (zle (ix_C T.t_LEAST) (zxb (v := .ref A.LEAST) rfl T.g_LEAST rfl) (pv 0) (λ _ _=>rfl)) (zaa (pv 1) zea))))))))))),?_⟩
  refine ⟨_,rfl,rfl,_,rfl,zvb (λ e=>?_) (λ n_mark=>?_)⟩
  ·obtain rfl:=V.str.inj e
   have fl:=zci z
   refine ⟨_,rfl,hp,z,⟨rfl,hz⟩,λ v H1 hv s1 P1=>?_,λ C H1 hC s1 P1=>qe _ _ ⟨hC.1,by dsimp only;rw [fl,hC.2];rfl⟩ s1 P1⟩
   obtain ⟨t,a,b,rfl,ht,hm⟩:=hv
   exact q _ _ ⟨markD (a,b),zeq (m:=(a,b)) (SqT.of ht),by dsimp only;rw [fl,hm];rfl⟩ s1 P1
  refine ⟨_,rfl,rfl,_,rfl,zvb (λ e=>?_) (λ n_behind=>?_)⟩
  ·obtain rfl:=V.str.inj e
   have fl:=zte z
   refine ⟨_,rfl,rfl,_,rfl,zvb (λ h1=>?_) (λ h1=>?_)⟩
   ·exact q _ _ ⟨.none,rfl,by dsimp only;rw [fl,if_pos (V.str.inj h1)]⟩ (Same.refl _) hp
   rw [if_neg (λ x=>h1 (congrArg V.str x))] at fl
   refine ⟨_,rfl,hp,z,⟨rfl,hz⟩,λ v H1 hv s1 P1=>?_,λ C H1 hC s1 P1=>qe _ _ ⟨hC.1,by dsimp only;rw [fl,hC.2];rfl⟩ s1 P1⟩
   obtain ⟨t,a,b,rfl,ht,hm⟩:=hv
   exact q _ _ ⟨markD (a,b),zeq (m:=(a,b)) (SqT.of ht),by dsimp only;rw [fl,hm];rfl⟩ s1 P1
  refine ⟨_,rfl,rfl,_,rfl,zvb (λ e=>?_) (λ n_version=>?_)⟩
  ·obtain rfl:=V.str.inj e
   have fl:=zhi z
   refine ⟨_,rfl,hp,z,⟨rfl,hz⟩,λ v H1 hv s1 P1=>?_,λ C H1 hC s1 P1=>qe _ _ ⟨hC.1,by dsimp only;rw [fl,hC.2];rfl⟩ s1 P1⟩
   obtain ⟨x,hx,hm⟩:=hv
   exact q _ _ ⟨ver x,hx,by dsimp only;rw [fl,hm];rfl⟩ s1 P1
  refine ⟨_,rfl,rfl,_,rfl,zvb (λ e=>?_) (λ n_words=>?_)⟩
  ·obtain rfl:=V.str.inj e
   have fl:=zii z
   refine ⟨_,rfl,hp,z,rfl,λ v H1 hv s1 P1=>?_,λ C H1 hC s1 P1=>qe _ _ ⟨hC.1,by dsimp only;rw [fl,hC.2];rfl⟩ s1 P1⟩
   obtain ⟨rfl,hm⟩:=hv
   exact q _ _ ⟨.str z,rfl,by dsimp only;rw [fl,hm];rfl⟩ s1 P1
  refine ⟨_,rfl,rfl,_,rfl,zvb (λ e=>?_) (λ n_choice=>?_)⟩
  ·obtain rfl:=V.str.inj e
   have fl:=zpk z
   refine ⟨_,rfl,hp,z,rfl,λ v H1 hv s1 P1=>?_,λ C H1 hC s1 P1=>qe _ _ ⟨hC.1,by dsimp only;rw [fl,if_neg hC.2]⟩ s1 P1⟩
   obtain ⟨rfl,hm⟩:=hv
   exact q _ _ ⟨.str z,rfl,by dsimp only;rw [fl,if_pos hm]⟩ s1 P1
  refine ⟨_,rfl,rfl,_,rfl,zvb (λ e=>?_) (λ n_many=>?_)⟩
  ·obtain rfl:=V.str.inj e
   have fl:=zoh z
   refine ⟨_,rfl,hp,z,rfl,hz,λ n hn=>?_,λ hn=>qe _ _ ⟨rfl,by dsimp only;rw [fl,hn];rfl⟩ (Same.refl _) hp⟩
   exact q _ _ ⟨.int n,rfl,by dsimp only;rw [fl,hn];rfl⟩ (Same.refl _) hp
  have hk5:k∈(["beat", "window", "clash", "save", "count"]:List Str):=by
   have al:∀ x∈zyo,x = "mark" ∨ x = "behind" ∨ x = "version" ∨ x = "words" ∨ x = "choice" ∨ x = "many" ∨ x∈(["beat", "window", "clash", "save", "count"]:List Str):=by decide +kernel
   rcases al k hk with e | e | e | e | e | e | e
   ·exact absurd (congrArg V.str e) n_mark
   ·exact absurd (congrArg V.str e) n_behind
   ·exact absurd (congrArg V.str e) n_version
   ·exact absurd (congrArg V.str e) n_words
   ·exact absurd (congrArg V.str e) n_choice
   ·exact absurd (congrArg V.str e) n_many
   ·exact e
  have fl:=zoc hk5 z
  have at_k:∃ t,valueAt ([("beat",Value.int 1 A.v_LEAST_beat),("window",Value.int 1 A.v_LEAST_window),("clash",Value.int 1 A.v_LEAST_clash),("save",Value.int 0 A.v_LEAST_save),("count",Value.int 0 A.v_LEAST_count)]:List (Str×Value)) k=some (.int (zve k) t):=by
   simp only [List.mem_cons,List.not_mem_nil,or_false] at hk5
   rcases hk5 with rfl | rfl | rfl | rfl | rfl <;> exact ⟨_,rfl⟩
  obtain ⟨tk,hat⟩:=at_k
  refine ⟨_,rfl,rfl,k,_,.int (zve k),rfl,hat,rfl,_,rfl,hp,(zve k,z),⟨rfl,hz⟩,λ v H1 hv s1 P1=>?_,λ C H1 hC s1 P1=>qe _ _ ⟨hC.1,by dsimp only at hC ⊢;rw [fl,hC.2];rfl⟩ s1 P1⟩
  obtain ⟨n,rfl,hn⟩:=hv
  dsimp only at hn
  exact q _ _ ⟨.int n,rfl,by dsimp only;rw [fl,hn];rfl⟩ s1 P1
theorem sc_q25:FnScope ["row", "shape", "word", "fields"] ["row"] (zja zdr):=by walk_at "sc"
theorem zes (T:Txt w K mg A) (G_q15:zro P w K mg B A):zeo P w K mg B A:=by
 have B_q15:=T.b_q15
 refine T.F_q25.okX sc_q25 (λ vs H Q E h=>?_) (λ _ _ _ _ H vs Q E hr h=>?_)
 ·obtain ⟨_,a,⟨rfl,_⟩,_⟩:=h
  rfl
 ·obtain ⟨hp,z,⟨rfl,hz⟩,q,qe⟩:=h
  refine ⟨_,(zba (zsa (i:=1) sc_q25.nd rfl (Or.inl rfl) (zaq T.t_SHAPES T.y_SHAPES (zxb (v := .ref A.SHAPES) rfl T.g_SHAPES rfl) (λ _ _ _ h=>h) (zle zap (zue PySem.F.plainAttrs_str PySem.F.slot_str_partition PySem.F.type_str_partition zrc (pv 0) (zaa zda zea)) zha (λ _ _=>rfl))))
   (zba (zmb (zia zkh (pv 1) zrb (zta _)) (zga (zpb T.x_NoText zqa rfl rfl T.g_NoText (zaa zda zea))) zla)
   (zba (zfh (zue PySem.F.plainAttrs_str PySem.F.slot_str_split PySem.F.type_str_split zkj (pv 0) (zaa zda (zaa (zva zra rfl T.n_len (by decide +kernel) (zaa (pv 1) zea)) zea))) (znp rfl (zxa (zab (i:=2) sc_q25.nd rfl (Or.inl rfl)) (zpm (zab (i:=3) sc_q25.nd rfl (Or.inl rfl))))))
   (zba (zmb (zia zvm (zva zra rfl T.n_len (by decide +kernel) (zaa (pv 3) zea)) (zva zra rfl T.n_len (by decide +kernel) (zaa (pv 1) zea)) (zta _)) (zga (zpb T.x_NoText zqa rfl rfl T.g_NoText (zaa zda zea))) zla)
   (zga (zpa (zjc (zaa (pv 2) (zaa (zfb zub rfl T.n_tuple (by decide +kernel) (zaa (zvf _ ["kind", "field"] 2 [] zqa ⟨⟨_,_,_,rfl,rfl,rfl⟩⟩ rfl (zbp true rfl T.n_zip (by decide +kernel) (zaa (pv 1) (zaa (pv 3) zea))) gk2 (λ _ _ _ _ _=>zhh rfl (zxa (zab (i:=0) (show List.Nodup (["kind", "field"]:List Str) by decide +kernel) rfl (Or.inl rfl)) (zxa (zab (i:=1) (show List.Nodup (["kind", "field"]:List Str) by decide +kernel) rfl (Or.inl rfl)) zjd))) (λ _ _ _ _ _=>zcf) (λ _ _ _ _ _ hW=>(zma G_q15 (hr.mono (by decide)) rfl T.g_q15 T.k_q15 B_q15 .nil (Wants.passes hW) (zaa (pv 0) (zaa (pv 1) zea))))) zea)) zea))))))))),?_⟩
  refine ⟨_,rfl,rfl,z,_,rfl,rfl,by decide,by omega,λ t1 hp1=>?_⟩
  generalize hH1:upd H t1 (HO.tup _)=H1
  have s1:Same H H1:=hH1 ▸ zca hp1
  have P1:Plain H1:=hH1 ▸ hp.tup
  have h1:=(congrFun hH1 t1).symm.trans upd_same
  refine ⟨_,_,_,_,rfl,rfl,SqT.of h1,rfl,_,rfl,?_⟩
  have rl:rowL z=rowL z:=rfl
  conv at rl=>rhs;unfold rowL
  rcases zkn T H1 (Txt.partition z " ").1 with ⟨e1,e2⟩ | ⟨a,ks,e1,e2,hks,⟨k1,k4⟩,hkk⟩
  ·rw [e2] at rl
   refine .inl ⟨e1,?_⟩
   exact ⟨_,rfl,rfl,_,rfl,zpn rfl ⟨sz_1,qe _ _ ⟨rfl,rl⟩ s1 P1⟩⟩
  rw [e2] at rl
  dsimp only at rl
  refine .inr ⟨_,_,e1,rfl,?_⟩
  refine ⟨_,rfl,rfl,_,rfl,zsp (by intro x;cases x) ?_⟩
  obtain ⟨wd,fs,hc⟩:=zzo z ks.length
  rw [hc] at rl
  dsimp only at rl
  have hsh:∀ p∈wd::fs,p.length≤z.length:=λ p hp=>zlh (z:=z) (n:=ks.length) (by rw [hc];exact hp)
  refine ⟨_,rfl,rfl,_,rfl,a,_,rfl,.inr hks,z,32,(ks.map V.str).length,rfl,rfl,by omega,by rw [List.length_map];omega,λ l hp2=>?_⟩
  rw [show cutK 32 (Txt.split z ⟨#[32]⟩) (ks.map V.str).length=wd::fs by rw [List.length_map];exact hc]
  generalize hH2:upd H1 l (HO.lst _)=H2
  have s2:Same H1 H2:=hH2 ▸ zca hp2
  have P2:Plain H2:=hH2 ▸ P1.lst
  have h2:=(congrFun hH2 l).symm.trans upd_same
  refine ⟨l,.str wd,fs.map V.str,rfl,SqL.of h2,λ D hp3=>?_⟩
  generalize hH3:upd H2 D (HO.lst _)=H3
  have s3:Same H2 H3:=hH3 ▸ zca hp3
  have P3:Plain H3:=hH3 ▸ P2.lst
  have h3:=(congrFun hH3 D).symm.trans upd_same
  refine ⟨_,_,rfl,_,_,rfl,rfl,?_⟩
  refine ⟨_,rfl,D,_,rfl,.inl (SqL.of h3),_,rfl,a,_,rfl,.inr ((s2.trans s3).seqT hks),rfl,_,rfl,zfj (λ hne=>?_) (λ heq=>?_)⟩
  ·rw [List.length_map,List.length_map] at hne
   refine ⟨sz_1,qe _ _ ⟨rfl,by rw [rl,if_neg (λ e=>hne (by rw [e]))]⟩ ((s1.trans s2).trans s3) P3⟩
  rw [List.length_map,List.length_map] at heq
  have heq:fs.length=ks.length:=by have:=V.int.inj heq;omega
  rw [if_pos heq] at rl
  have S3:=(s1.trans s2).trans s3
  have hk3:SqA true K H3 a (ks.map V.str):=(s2.trans s3).seqT hks
  refine ⟨_,rfl,_,rfl,_,rfl,a,D,rfl,⟨_,hk3⟩,⟨_,SqL.of h3⟩,λ L hL=>zjn (b:=true) (xs:=ks.map V.str) (ys:=fs.map V.str) (λ i y H=>∃ k f d,ks[i]? = some k∧fs[i]? = some f∧zgb k f=some d∧DV K H d y) hL P3 hk3 (SqL.of h3) ?_ ?_ ?_ ?_ ?_⟩
  ·rw [List.length_map];exact sm1 ((by omega))
  ·rw [List.length_map,List.length_map,heq]
  ·rintro i y H5 H6 ⟨k,f,d,g1,g2,g3,g4⟩ hb hz'
   exact ⟨k,f,d,g1,g2,g3,DV.mono hb hz' d y (zsr g3) g4⟩
  ·intro i x y H5 T' R hx hy P5 S5 hT hR
   rw [List.getElem?_map] at hx hy
   obtain ⟨k,hk,rfl⟩:=Option.map_eq_some_iff.mp hx
   obtain ⟨f,hf,rfl⟩:=Option.map_eq_some_iff.mp hy
   have hfz:=hsh f (List.mem_cons_of_mem _ (List.mem_of_getElem? hf))
   refine ⟨T',_,rfl,SqT.of upd_same,rfl,_,_,rfl,_,_,rfl,rfl,?_⟩
   refine ⟨_,rfl,_,rfl,P5.tup,(k,f),⟨rfl,by show f.length≤640;omega,hkk k (List.mem_of_getElem? hk)⟩,λ v H7 hv s7 P7=>?_,λ C H7 hC s7 P7=>qe _ _ ⟨hC.1,?_⟩ (S3.trans (S5.trans ((zca hT).trans s7))) P7⟩
   ·obtain ⟨d,g1,g2⟩:=hv
    exact hR _ _ ⟨k,f,d,hk,hf,g2,g1⟩ ((zca hT).trans s7) P7
   ·have hm:(k,f)∈ks.zip fs:=List.mem_of_getElem? (i:=i) (List.getElem?_zip_eq_some.mpr ⟨hk,hf⟩)
    rw [rl,zwb (f:=λ p:Str×Str=>zgb p.1 p.2) hm hC.2]
    rfl
  ·intro vs H5 hl5 hr5 hd5 S5 P5
   rw [List.length_map] at hl5
   obtain ⟨ds,hds,hdv⟩:=zep (K:=K) (H:=H5) (f:=λ p:Str×Str=>zgb p.1 p.2) (xs:=ks.zip fs) (ys:=vs) (by rw [List.length_zip,hl5];omega) λ i y hy=>by
    obtain ⟨k,f,d,g1,g2,g3,g4⟩:=hr5 i y hy
    exact ⟨(k,f),d,List.getElem?_zip_eq_some.mpr ⟨g1,g2⟩,g3,g4⟩
   refine ⟨L,vs,rfl,.inl ⟨SqL.of hd5,λ t6 hp6=>?_⟩⟩
   generalize hH6:upd H5 t6 (HO.tup _)=H6
   have s6:Same H5 H6:=hH6 ▸ zca hp6
   have P6:Plain H6:=hH6 ▸ P5.tup
   have h6:=(congrFun hH6 t6).symm.trans upd_same
   refine ⟨sz_2,λ t7 hp7=>?_⟩
   generalize hH7:upd H6 t7 (HO.tup _)=H7
   have s7:Same H6 H7:=hH7 ▸ zca hp7
   have P7:Plain H7:=hH7 ▸ P6.tup
   have h7:=(congrFun hH7 t7).symm.trans upd_same
   exact q _ _ ⟨wd,ds,⟨t7,_,rfl,SqT.of h7,_,_,rfl,rfl,_,_,rfl,⟨t6,vs,rfl,SqT.of (s7 _ _ h6),DVs.same (s6.trans s7) _ _ hdv⟩,rfl⟩,by rw [rl,hds];rfl⟩ (S3.trans (S5.trans (s6.trans s7))) P7
theorem sc_q0:FnScope ["row", "word", "values"] ["row"] (zja s_q0):=by walk_at "sc"
theorem zew (T:Txt w K mg A) (G_q25:zeo P w K mg B A):zgu P w K mg B A:=by
 have B_q25:=T.b_q25
 refine T.F_q0.okX sc_q0 (λ vs H Q E h=>?_) (λ _ _ _ _ H vs Q E hr h=>?_)
 ·obtain ⟨_,a,⟨rfl,_⟩,_⟩:=h
  rfl
 ·obtain ⟨hp,z,⟨rfl,hz⟩,q,qe⟩:=h
  refine ⟨_,(zba (zfh (zma G_q25 (hr.mono (by decide)) rfl T.g_q25 T.k_q25 B_q25 .nil (Wants.passes zqa) (zaa (pv 0) zea)) (zhh rfl (zxa (zab (i:=1) sc_q0.nd rfl (Or.inl rfl)) (zxa (zab (i:=2) sc_q0.nd rfl (Or.inl rfl)) zjd))))
   (zba (zmb (zia (zmp T.t_DEEDS T.y_DEEDS) (pv 1) (zxb (v := .ref A.DEEDS) rfl T.g_DEEDS rfl) (by rfl)) (zga (zpa (zjc (zaa zda (zaa (zle zap (pv 2) zha (λ _ _=>rfl)) (zaa (zka zvg (zjc (zaa (pv 1) zea)) (zua ztp (pv 2) (zza zha) zeb)) zea)))))) zla)
   (zba (zmb (zia ztd (pv 1) (zxb (v := .ref A.NOTES) rfl T.g_NOTES rfl) (by rfl)) (zga (zpb T.x_NoText zqa rfl rfl T.g_NoText (zaa zda zea))) zla)
   (zga (zpa (zka zvg (zjc (zaa (pv 1) zea)) (pv 2))))))),?_⟩
  refine ⟨_,rfl,hp,z,⟨rfl,hz⟩,λ v H1 hv s1 P1=>?_,λ C H1 hC s1 P1=>qe _ _ ⟨hC.1,by unfold zsf;rw [hC.2];rfl⟩ s1 P1⟩
  obtain ⟨wd,ds,hdv,hr⟩:=hv
  obtain ⟨t,x,rfl,ht,hx⟩:=zun (r:=(wd,ds)) hdv
  obtain ⟨tq,xs,rfl,hq,hds⟩:=id hx
  have hd1:=zmm hr
  have hd4:ds.length≤4:=zao hr
  have sl:zsf z=zgl (wd,ds):=by unfold zsf;rw [hr];rfl
  unfold zgl at sl
  dsimp only at sl
  obtain ⟨d0,ds,rfl⟩:∃ d0 dr,ds=d0::dr:=by
   cases ds with
   | nil=>exact absurd hd1 (by decide)
   | cons a b=>exact ⟨a,b,rfl⟩
  obtain ⟨x0,xr,rfl,hx0,hxr⟩:=id hds
  have hxl:xr.length≤3:=by rw [hxr.length];simp at hd4;omega
  refine ⟨t,_,rfl,ht,rfl,_,_,rfl,_,_,rfl,rfl,?_⟩
  refine ⟨_,rfl,rfl,wd,rfl,_,rfl,?_⟩
  rw [zsd]
  show if decide (wd∈DDS)=true then _ else _
  refine zvb (λ hin=>?_) (λ hin=>?_)
  ·rw [if_pos hin] at sl
   refine ⟨_,rfl,tq,_,_,x0,rfl,rfl,hq,at0,_,rfl,sz_1,λ t2 hp2=>?_⟩
   generalize hH2:upd H1 t2 (HO.tup _)=H2
   have s2:Same H1 H2:=hH2 ▸ zca hp2
   have P2:Plain H2:=hH2 ▸ P1.tup
   have h2:=(congrFun hH2 t2).symm.trans upd_same
   refine ⟨_,rfl,_,rfl,tq,_,rfl,s2.seqT hq,λ t3 H3 ht3 s3 p3=>?_⟩
   rw [show cutV (x0::xr) (some 1) none=xr by rw [zse (by decide)];rfl] at ht3
   refine ⟨t2,t3,_,_,rfl,rfl,SqT.of (s3 _ _ h2),ht3,sm1 ((by show 1+xr.length≤1000;omega)),λ t4 H4 ht4 s4 p4=>?_⟩
   have P4:=p4 (p3 P2)
   refine ⟨sz_3,λ t5 hp5=>?_⟩
   generalize hH5:upd H4 t5 (HO.tup _)=H5
   have s5:Same H4 H5:=hH5 ▸ zca hp5
   have P5:Plain H5:=hH5 ▸ P4.tup
   have h5:=(congrFun hH5 t5).symm.trans upd_same
   have S25:=((s2.trans s3).trans s4).trans s5
   exact q _ _ ⟨.tuple [.str "deed",d0,.tuple (.str wd::ds)],⟨t5,_,rfl,SqT.of h5,_,_,rfl,rfl,_,_,rfl,DV.same S25 d0 _ hx0,_,_,rfl,⟨t4,_,rfl,s5.seqT ht4,_,_,rfl,rfl,DVs.same S25 _ _ hxr⟩,rfl⟩,sl⟩ (s1.trans S25) P5
  rw [if_neg hin] at sl
  refine ⟨_,rfl,A.NOTES,_,rfl,.inr (T.t_NOTES _),rfl,rfl,_,rfl,?_⟩
  show if (!inV (.str wd) (NTS.map V.str))=true then _ else _
  rw [zff]
  by_cases hn:wd∈NTS
  ·rw [if_pos hn] at sl
   rw [decide_eq_true hn]
   refine iteF ⟨_,rfl,sz_1,λ t2 hp2=>?_⟩
   generalize hH2:upd H1 t2 (HO.tup _)=H2
   have s2:Same H1 H2:=hH2 ▸ zca hp2
   have P2:Plain H2:=hH2 ▸ P1.tup
   have h2:=(congrFun hH2 t2).symm.trans upd_same
   refine ⟨_,rfl,t2,tq,_,_,rfl,rfl,SqT.of h2,s2.seqT hq,sm1 ((by show 1+(xr.length+1)≤1000;omega)),λ t4 H4 ht4 s4 p4=>?_⟩
   exact q _ _ ⟨.tuple (.str wd::d0::ds),⟨t4,_,rfl,ht4,_,_,rfl,rfl,DVs.same (s2.trans s4) (d0::ds) _ hds⟩,sl⟩ ((s1.trans s2).trans s4) (p4 P2)
  ·rw [if_neg hn] at sl
   rw [decide_eq_false hn]
   exact iteT ⟨sz_1,qe _ _ ⟨rfl,sl⟩ s1 P1⟩
theorem zzq:FnScope [] [] (zja zzr):=by walk_at "sc"
theorem zws (T:Txt w K mg A)  : zpo P w K mg B A:=by
 refine FnOk.pure (T.F_q11.okN zzq (λ vs H Q E h=>?_) (λ _ _ _ _ H vs Q E hr h=>?_))
 ·obtain ⟨_,a,rfl,_⟩:=h
  rfl
 ·obtain ⟨hp,_,rfl,q⟩:=h
  refine ⟨_,(zga (zpa zda)),?_⟩
  exact q _ _ rfl (Same.refl _)
theorem sc_q18:FnScope ["_law_number_here", "_law_beat", "_law_mark_here", "_law_behind", "_law_rows"] ["_law_number_here"] (zja zfs):=by walk_at "sc"
theorem zat (T:Txt w K mg A)  : zqo P w K mg B A:=by
 refine T.F_q18.okN sc_q18 (λ vs H Q E h=>?_) (λ _ _ _ _ H vs Q E hr h=>?_)
 ·obtain ⟨_,a,⟨rfl,_⟩,_⟩:=h
  rfl
 ·obtain ⟨hp,n,rfl,q,_⟩:=h
  refine ⟨_,(zba (zsa (i:=1) sc_q18.nd rfl (Or.inl rfl) (zfb zqb rfl T.n_str (by decide +kernel) (zaa (zka ztb zha (zka zsb (zka zlb (pv 0) zha) zha)) zea)))
   (zba (zsa (i:=2) sc_q18.nd rfl (Or.inl rfl) (zka zfa (zka zfa (zfb zqb rfl T.n_str (by decide +kernel) (zaa (zka zsb (zka zlb (pv 0) zha) zha) zea)) zda) (zfb zqb rfl T.n_str (by decide +kernel) (zaa (zka ztb zha (zka zsb (zka zlb (pv 0) zha) zha)) zea))))
   (zba (zsa (i:=3) sc_q18.nd rfl (Or.inl rfl) (zle zyb (zib (zaa zda (zaa zda (zaa zda (zaa zda zea))))) (zka zsb (zka zlb (pv 0) zha) zha) (λ _ _=>rfl)))
   (zba (zsa (i:=4) sc_q18.nd rfl (Or.inl rfl) (zib (zaa (zka zfa (zka zfa zda (pv 1)) zda) (zaa (zka zfa (zka zfa (zka zfa (zka zfa zda (pv 1)) zda) (pv 3)) zda) (zaa (zka zfa (zka zfa (zka zfa zda (pv 1)) zda) (pv 2)) zea)))))
   (zba (zsa (i:=4) sc_q18.nd rfl (Or.inl rfl) (zka zic (pv 4) (zib (zaa (zka zfa (zka zfa (zka zfa (zka zfa (zka zfa zda (pv 1)) zda) (pv 2)) zda) (pv 3)) (zaa (zka zfa (zka zfa (zka zfa (zka zfa zda (pv 1)) zda) (pv 2)) zda) zea)))))
   (zba (zsa (i:=4) sc_q18.nd rfl (Or.inl rfl) (zka zic (pv 4) (zib (zaa (zka zfa (zka zfa (zka zfa (zka zfa (zka zfa zda (pv 1)) zda) (pv 2)) zda) (zfb zqb rfl T.n_str (by decide +kernel) (zaa (zka zmk (zka zsb (zka zlb (pv 0) zha) zha) zha) zea))) (zaa (zka zfa (zka zfa (zka zfa zda (pv 1)) zda) (pv 2)) zea)))))
   (zba (zsa (i:=4) sc_q18.nd rfl (Or.inl rfl) (zka zic (pv 4) (zib (zaa (zka zfa (zka zfa (zka zfa (zka zfa (zka zfa zda (pv 1)) zda) (pv 2)) zda) (pv 3)) (zaa (zka zfa zda (pv 1)) (zaa (zka zfa zda (pv 1)) zea))))))
   (zba (zsa (i:=4) sc_q18.nd rfl (Or.inl rfl) (zka zic (pv 4) (zib (zaa (zka zfa (zka zfa (zka zfa zda (pv 1)) zda) (zfb zqb rfl T.n_str (by decide +kernel) (zaa (zka zsb (zka zlb (pv 0) zha) zha) zea))) zea))))
   (zga (zpa (zle zyb (pv 4) (zka zsb (pv 0) zha) (λ _ _=>rfl)))))))))))),?_⟩
  refine ⟨_,rfl,_,_,rfl,rfl,⟨by decide,by decide⟩,_,_,rfl,rfl,zut,_,_,rfl,rfl,_,rfl,zcp (by omega) (by omega),?_⟩
  have ob:=zin (i:=1+n / 11 % 300) (by omega) (by omega)
  generalize Str.ofString (toString (1+n / 11 % 300))=bt at ob ⊢
  have om1:=zin (i:=n / 7 % 4) (by omega) (by omega)
  have om2:=zin (i:=1+n / 28 % 50) (by omega) (by omega)
  have lp:(Str.ofString ".").length=1:=rfl
  have om1':=om1.1
  have om2':=om2.1
  refine ⟨_,rfl,_,_,rfl,rfl,⟨by decide,by decide⟩,_,_,rfl,rfl,ip_4,_,rfl,zcp (by omega) (by omega),_,_,rfl,rfl,sm1 ((by (try simp only [zna]);omega)),_,rfl,_,_,rfl,rfl,⟨by decide,by decide⟩,_,_,rfl,rfl,zmv,_,_,rfl,rfl,_,rfl,zcp (by omega) (by omega),_,_,rfl,rfl,sm1 ((by (try simp only [zna]);omega)),?_⟩
  have om:okN 9 ((Str.ofString (toString (n / 7 % 4)) ++ ".")++Str.ofString (toString (1+n / 28 % 50))):=zoa (zoa om1 (zya "." (n:=1) (by decide)) (Nat.le_refl _)) om2 (by decide)
  generalize ((Str.ofString (toString (n / 7 % 4)) ++ ".")++Str.ofString (toString (1+n / 28 % 50)):Str)=mk at om ⊢
  clear om1 om2 om1' om2'
  refine ⟨sz_4,λ l1 hp1=>?_⟩
  generalize hH1:upd H l1 (HO.lst _)=H1
  have s1:Same H H1:=hH1 ▸ zca hp1
  have P1:Plain H1:=hH1 ▸ hp.lst
  have h1:=(congrFun hH1 l1).symm.trans upd_same
  obtain ⟨bh,hbb,oh,_⟩:=zhm (zs:=["-", "1.2", "0.7", "3.11"]) (n:=4) (k:=n / 13 % 4) (m:=4) (zwl (by decide +kernel)) (Int.emod_nonneg _ (by decide)) (Int.emod_lt_of_pos _ (by decide)) (by decide)
  refine ⟨_,rfl,_,_,rfl,rfl,⟨by decide,by decide⟩,_,_,rfl,rfl,ip_4,l1,_,_,_,rfl,rfl,SqL.of h1,hbb,?_⟩
  have on1:=zxl (i:=n / 17 % 9 - 2) (by omega) (by omega)
  have on2:=zxl (i:=n / 19 % 20) (by omega) (by omega)
  have b1:=ob.1
  have b2:=om.1
  have b3:=oh.1
  have b4:=on1.1
  have b5:=on2.1
  have le0:(Str.ofString "begin ").length=6:=rfl
  have le1:(Str.ofString " 3 0").length=4:=rfl
  have le2:(Str.ofString "put ").length=4:=rfl
  have le3:(Str.ofString " ").length=1:=rfl
  have le4:(Str.ofString " so it is").length=9:=rfl
  have le5:(Str.ofString "take ").length=5:=rfl
  have le6:(Str.ofString "move ").length=5:=rfl
  have le7:(Str.ofString "write ").length=6:=rfl
  have le8:(Str.ofString " new").length=4:=rfl
  have le9:(Str.ofString "part ").length=5:=rfl
  have le10:(Str.ofString "join ").length=5:=rfl
  have le11:(Str.ofString "carry ").length=6:=rfl
  have le12:(Str.ofString " 2.5 ").length=5:=rfl
  have le13:(Str.ofString "undo ").length=5:=rfl
  have le14:(Str.ofString "again ").length=6:=rfl
  have le15:(Str.ofString "reload ").length=7:=rfl
  refine ⟨_,rfl,_,_,rfl,rfl,sm1 ((by (try simp only [zna]);omega)),_,_,rfl,rfl,sm1 ((by (try simp only [zna]);omega)),_,rfl,_,_,rfl,rfl,sm1 ((by (try simp only [zna]);omega)),_,_,rfl,rfl,sm1 ((by (try simp only [zna]);omega)),_,rfl,_,_,rfl,rfl,sm1 ((by (try simp only [zna]);omega)),_,_,rfl,rfl,sm1 ((by (try simp only [zna]);omega)),_,rfl,_,_,rfl,rfl,sm1 ((by (try simp only [zna]);omega)),_,_,rfl,rfl,sm1 ((by (try simp only [zna]);omega)),_,rfl,_,_,rfl,rfl,sm1 ((by (try simp only [zna]);omega)),sz_3,λ l2 hp2=>?_⟩
  have o0:okN 60 (("begin " ++ bt) ++ " 3 0"):=(zkb (zoa (k:=14) (zoa (k:=10) (zya "begin " (n:=6) (by decide)) ob (by decide)) (zya " 3 0" (n:=4) (by decide)) (by decide)) (by decide))
  generalize ((("begin " ++ bt) ++ " 3 0"):Str)=r0 at o0 ⊢
  have o1:okN 60 (((("put " ++ bt) ++ " ")++bh) ++ " so it is"):=(zkb (zoa (k:=22) (zoa (k:=13) (zoa (k:=9) (zoa (k:=8) (zya "put " (n:=4) (by decide)) ob (by decide)) (zya " " (n:=1) (by decide)) (by decide)) oh (by decide)) (zya " so it is" (n:=9) (by decide)) (by decide)) (by decide))
  generalize ((((("put " ++ bt) ++ " ")++bh) ++ " so it is"):Str)=r1 at o1 ⊢
  have o2:okN 60 ((("take " ++ bt) ++ " ")++mk):=(zkb (zoa (k:=19) (zoa (k:=10) (zoa (k:=9) (zya "take " (n:=5) (by decide)) ob (by decide)) (zya " " (n:=1) (by decide)) (by decide)) om (by decide)) (by decide))
  generalize (((("take " ++ bt) ++ " ")++mk):Str)=r2 at o2 ⊢
  generalize hH2:upd H1 l2 (HO.lst _)=H2
  have s2:Same H1 H2:=hH2 ▸ zca hp2
  have P2:Plain H2:=hH2 ▸ P1.lst
  have h2:=(congrFun hH2 l2).symm.trans upd_same
  refine ⟨_,rfl,_,rfl,_,_,rfl,rfl,sm1 ((by (try simp only [zna]);omega)),_,_,rfl,rfl,sm1 ((by (try simp only [zna]);omega)),_,rfl,_,_,rfl,rfl,sm1 ((by (try simp only [zna]);omega)),_,_,rfl,rfl,sm1 ((by (try simp only [zna]);omega)),_,rfl,_,_,rfl,rfl,sm1 ((by (try simp only [zna]);omega)),_,rfl,_,_,rfl,rfl,sm1 ((by (try simp only [zna]);omega)),_,_,rfl,rfl,sm1 ((by (try simp only [zna]);omega)),_,rfl,_,_,rfl,rfl,sm1 ((by (try simp only [zna]);omega)),_,_,rfl,rfl,sm1 ((by (try simp only [zna]);omega)),sz_2,λ l3 hp3=>?_⟩
  have o3:okN 60 ((((("move " ++ bt) ++ " ")++mk) ++ " ")++bh):=(zkb (zoa (k:=24) (zoa (k:=20) (zoa (k:=19) (zoa (k:=10) (zoa (k:=9) (zya "move " (n:=5) (by decide)) ob (by decide)) (zya " " (n:=1) (by decide)) (by decide)) om (by decide)) (zya " " (n:=1) (by decide)) (by decide)) oh (by decide)) (by decide))
  generalize (((((("move " ++ bt) ++ " ")++mk) ++ " ")++bh):Str)=r3 at o3 ⊢
  have o4:okN 60 (((("write " ++ bt) ++ " ")++mk) ++ " new"):=(zkb (zoa (k:=24) (zoa (k:=20) (zoa (k:=11) (zoa (k:=10) (zya "write " (n:=6) (by decide)) ob (by decide)) (zya " " (n:=1) (by decide)) (by decide)) om (by decide)) (zya " new" (n:=4) (by decide)) (by decide)) (by decide))
  generalize ((((("write " ++ bt) ++ " ")++mk) ++ " new"):Str)=r4 at o4 ⊢
  generalize hH3:upd H2 l3 (HO.lst _)=H3
  have s3:Same H2 H3:=hH3 ▸ zca hp3
  have P3:Plain H3:=hH3 ▸ P2.lst
  have h3:=(congrFun hH3 l3).symm.trans upd_same
  refine ⟨l2,l3,_,_,rfl,rfl,s3 _ _ h2,h3,sz_5,λ l4 hp4=>?_⟩
  generalize hH4:upd H3 l4 (HO.lst _)=H4
  have s4:Same H3 H4:=hH4 ▸ zca hp4
  have P4:Plain H4:=hH4 ▸ P3.lst
  have h4:=(congrFun hH4 l4).symm.trans upd_same
  refine ⟨_,rfl,_,rfl,_,_,rfl,rfl,sm1 ((by (try simp only [zna]);omega)),_,_,rfl,rfl,sm1 ((by (try simp only [zna]);omega)),_,rfl,_,_,rfl,rfl,sm1 ((by (try simp only [zna]);omega)),_,_,rfl,rfl,sm1 ((by (try simp only [zna]);omega)),_,rfl,_,_,rfl,rfl,⟨by decide,by decide⟩,_,_,rfl,rfl,ip_9,_,_,rfl,rfl,_,rfl,zcp (by omega) (by omega),_,_,rfl,rfl,sm1 ((by (try simp only [zna]);omega)),_,rfl,_,_,rfl,rfl,sm1 ((by (try simp only [zna]);omega)),_,_,rfl,rfl,sm1 ((by (try simp only [zna]);omega)),_,rfl,_,_,rfl,rfl,sm1 ((by (try simp only [zna]);omega)),sz_2,λ l5 hp5=>?_⟩
  have o5:okN 60 ((((("part " ++ bt) ++ " ")++mk) ++ " ")++Str.ofString (toString (n / 17 % 9 - 2))):=(zkb (zoa (k:=24) (zoa (k:=20) (zoa (k:=19) (zoa (k:=10) (zoa (k:=9) (zya "part " (n:=5) (by decide)) ob (by decide)) (zya " " (n:=1) (by decide)) (by decide)) om (by decide)) (zya " " (n:=1) (by decide)) (by decide)) on1 (by decide)) (by decide))
  generalize (((((("part " ++ bt) ++ " ")++mk) ++ " ")++Str.ofString (toString (n / 17 % 9 - 2))):Str)=r5 at o5 ⊢
  have o6:okN 60 ((("join " ++ bt) ++ " ")++mk):=(zkb (zoa (k:=19) (zoa (k:=10) (zoa (k:=9) (zya "join " (n:=5) (by decide)) ob (by decide)) (zya " " (n:=1) (by decide)) (by decide)) om (by decide)) (by decide))
  generalize (((("join " ++ bt) ++ " ")++mk):Str)=r6 at o6 ⊢
  generalize hH5:upd H4 l5 (HO.lst _)=H5
  have s5:Same H4 H5:=hH5 ▸ zca hp5
  have P5:Plain H5:=hH5 ▸ P4.lst
  have h5:=(congrFun hH5 l5).symm.trans upd_same
  refine ⟨l4,l5,_,_,rfl,rfl,s5 _ _ h4,h5,sz_7,λ l6 hp6=>?_⟩
  generalize hH6:upd H5 l6 (HO.lst _)=H6
  have s6:Same H5 H6:=hH6 ▸ zca hp6
  have P6:Plain H6:=hH6 ▸ P5.lst
  have h6:=(congrFun hH6 l6).symm.trans upd_same
  refine ⟨_,rfl,_,rfl,_,_,rfl,rfl,sm1 ((by (try simp only [zna]);omega)),_,_,rfl,rfl,sm1 ((by (try simp only [zna]);omega)),_,rfl,_,_,rfl,rfl,sm1 ((by (try simp only [zna]);omega)),_,_,rfl,rfl,sm1 ((by (try simp only [zna]);omega)),_,rfl,_,_,rfl,rfl,sm1 ((by (try simp only [zna]);omega)),_,rfl,_,_,rfl,rfl,sm1 ((by (try simp only [zna]);omega)),_,rfl,_,_,rfl,rfl,sm1 ((by (try simp only [zna]);omega)),sz_3,λ l7 hp7=>?_⟩
  have o7:okN 60 ((((("carry " ++ bt) ++ " ")++mk) ++ " 2.5 ")++bh):=(zkb (zoa (k:=29) (zoa (k:=25) (zoa (k:=20) (zoa (k:=11) (zoa (k:=10) (zya "carry " (n:=6) (by decide)) ob (by decide)) (zya " " (n:=1) (by decide)) (by decide)) om (by decide)) (zya " 2.5 " (n:=5) (by decide)) (by decide)) oh (by decide)) (by decide))
  generalize (((((("carry " ++ bt) ++ " ")++mk) ++ " 2.5 ")++bh):Str)=r7 at o7 ⊢
  have o8:okN 60 ("undo " ++ bt):=(zkb (zoa (k:=9) (zya "undo " (n:=5) (by decide)) ob (by decide)) (by decide))
  generalize (("undo " ++ bt):Str)=r8 at o8 ⊢
  have o9:okN 60 ("again " ++ bt):=(zkb (zoa (k:=10) (zya "again " (n:=6) (by decide)) ob (by decide)) (by decide))
  generalize (("again " ++ bt):Str)=r9 at o9 ⊢
  generalize hH7:upd H6 l7 (HO.lst _)=H7
  have s7:Same H6 H7:=hH7 ▸ zca hp7
  have P7:Plain H7:=hH7 ▸ P6.lst
  have h7:=(congrFun hH7 l7).symm.trans upd_same
  refine ⟨l6,l7,_,_,rfl,rfl,s7 _ _ h6,h7,by show 10≤sizeLine;decide,λ l8 hp8=>?_⟩
  generalize hH8:upd H7 l8 (HO.lst _)=H8
  have s8:Same H7 H8:=hH8 ▸ zca hp8
  have P8:Plain H8:=hH8 ▸ P7.lst
  have h8:=(congrFun hH8 l8).symm.trans upd_same
  refine ⟨_,rfl,_,rfl,_,_,rfl,rfl,sm1 ((by (try simp only [zna]);omega)),_,_,rfl,rfl,sm1 ((by (try simp only [zna]);omega)),_,rfl,_,_,rfl,rfl,⟨by decide,by decide⟩,_,_,rfl,rfl,zav,_,rfl,zcp (by omega) (by omega),_,_,rfl,rfl,sm1 ((by (try simp only [zna]);omega)),sz_1,λ l9 hp9=>?_⟩
  have o10:okN 60 ((("reload " ++ bt) ++ " ")++Str.ofString (toString (n / 19 % 20))):=(zkb (zoa (k:=16) (zoa (k:=12) (zoa (k:=11) (zya "reload " (n:=7) (by decide)) ob (by decide)) (zya " " (n:=1) (by decide)) (by decide)) on2 (by decide)) (by decide))
  generalize (((("reload " ++ bt) ++ " ")++Str.ofString (toString (n / 19 % 20))):Str)=r10 at o10 ⊢
  generalize hH9:upd H8 l9 (HO.lst _)=H9
  have s9:Same H8 H9:=hH9 ▸ zca hp9
  have P9:Plain H9:=hH9 ▸ P8.lst
  have h9:=(congrFun hH9 l9).symm.trans upd_same
  refine ⟨l8,l9,_,_,rfl,rfl,s9 _ _ h8,h9,by show 11≤sizeLine;decide,λ la hpa=>?_⟩
  generalize hHa:upd H9 la (HO.lst _)=Ha
  have sa:Same H9 Ha:=hHa ▸ zca hpa
  have Pa:Plain Ha:=hHa ▸ P9.lst
  have ha:=(congrFun hHa la).symm.trans upd_same
  have ha:Ha la=some (.lst (([r0,r1,r2,r3,r4,r5,r6,r7,r8,r9,r10]:List Str).map V.str)):=ha
  obtain ⟨z,hzz,hz,_⟩:=zhm (zs:=[r0,r1,r2,r3,r4,r5,r6,r7,r8,r9,r10]) (n:=60) (k:=n % 11) (m:=11) (λ z hz=>by
   simp only [List.mem_cons,List.not_mem_nil,or_false] at hz
   rcases hz with rfl | rfl | rfl | rfl | rfl | rfl | rfl | rfl | rfl | rfl | rfl <;> assumption) (Int.emod_nonneg _ (by decide)) (Int.emod_lt_of_pos _ (by decide)) (by show 11≤11;decide)
  refine ⟨_,rfl,_,rfl,_,_,rfl,rfl,ziw,la,_,_,_,rfl,rfl,SqL.of ha,hzz,q _ _ ⟨z,rfl,hz⟩ ((((((((((s1).trans s2).trans s3).trans s4).trans s5).trans s6).trans s7).trans s8).trans s9).trans sa) Pa⟩
theorem sc_q24:FnScope ["_law_number_here", "_law_odd_here"] ["_law_number_here"] (zja zis):=by walk_at "sc"
theorem zps (T:Txt w K mg A)  : zpp P w K mg B A:=by
 refine T.F_q24.okN sc_q24 (λ vs H Q E h=>?_) (λ _ _ _ _ H vs Q E hr h=>?_)
 ·obtain ⟨_,a,⟨rfl,_⟩,_⟩:=h
  rfl
 ·obtain ⟨hp,n,rfl,q,_⟩:=h
  refine ⟨_,(zba (zsa (i:=1) sc_q24.nd rfl (Or.inl rfl) (zib (zaa zda (zaa zda (zaa zda (zaa zda (zaa zda (zaa zda (zaa zda (zaa zda (zaa zda (zaa zda (zaa zda (zaa zda (zaa zda (zaa zda (zaa zda (zaa zda (zaa zda zea)))))))))))))))))))
   (zba (zsa (i:=1) sc_q24.nd rfl (Or.inl rfl) (zka zic (pv 1) (zib (zaa zda (zaa zda (zaa zda (zaa zda (zaa zda (zaa zda (zaa (zka zie zda zha) (zaa (zka zie zda zha) (zaa (zka zfa zda (zka zie zda zha)) (zaa (zka zfa zda (zka zie zda zha)) zea)))))))))))))
   (zga (zpa (zle zyb (zka zic (pv 1) (zib (zaa (zka zfa (zka zie zda zha) zda) (zaa (zka zfa zda (zka zie zda zha)) (zaa zda zea))))) (zka zsb (pv 0) zha) (λ _ _=>rfl)))))),?_⟩
  refine ⟨by show 17≤sizeLine;decide,λ l1 hp1=>?_⟩
  generalize hH1:upd H l1 (HO.lst _)=H1
  have s1:Same H H1:=hH1 ▸ zca hp1
  have P1:Plain H1:=hH1 ▸ hp.lst
  have h1:=(congrFun hH1 l1).symm.trans upd_same
  refine ⟨_,rfl,_,_,rfl,rfl,zfg,_,_,rfl,rfl,zcg,_,_,rfl,rfl,zfg,_,_,rfl,rfl,by decide +kernel,_,_,rfl,rfl,zcg,_,_,rfl,rfl,by decide +kernel,by show 10≤sizeLine;decide,λ l2 hp2=>?_⟩
  generalize hH2:upd H1 l2 (HO.lst _)=H2
  have s2:Same H1 H2:=hH2 ▸ zca hp2
  have P2:Plain H2:=hH2 ▸ P1.lst
  have h2:=(congrFun hH2 l2).symm.trans upd_same
  refine ⟨l1,l2,_,_,rfl,rfl,s2 _ _ h1,h2,by decide,λ l3 hp3=>?_⟩
  generalize hH3:upd H2 l3 (HO.lst _)=H3
  have s3:Same H2 H3:=hH3 ▸ zca hp3
  have P3:Plain H3:=hH3 ▸ P2.lst
  have h3:=(congrFun hH3 l3).symm.trans upd_same
  refine ⟨_,rfl,_,_,rfl,rfl,zcg,_,_,rfl,rfl,by decide +kernel,_,_,rfl,rfl,zfg,_,_,rfl,rfl,by decide +kernel,sz_3,λ l4 hp4=>?_⟩
  generalize hH4:upd H3 l4 (HO.lst _)=H4
  have s4:Same H3 H4:=hH4 ▸ zca hp4
  have P4:Plain H4:=hH4 ▸ P3.lst
  have h4:=(congrFun hH4 l4).symm.trans upd_same
  refine ⟨l3,l4,_,_,rfl,rfl,s4 _ _ h3,h4,by decide,λ l5 hp5=>?_⟩
  generalize hH5:upd H4 l5 (HO.lst _)=H5
  have s5:Same H4 H5:=hH5 ▸ zca hp5
  have P5:Plain H5:=hH5 ▸ P4.lst
  have h5:=(congrFun hH5 l5).symm.trans upd_same
  have h5:H5 l5=some (.lst (ODS.map V.str)):=h5
  obtain ⟨z,ha,hz,_⟩:=zhm (k:=n % 30) (m:=30) zas (Int.emod_nonneg _ (by decide)) (Int.emod_lt_of_pos _ (by decide)) (by decide)
  refine ⟨_,rfl,_,_,rfl,rfl,zpv,l5,_,_,_,rfl,rfl,SqL.of h5,ha,q _ _ ⟨z,rfl,hz⟩ ((((s1.trans s2).trans s3).trans s4).trans s5) P5⟩
theorem sc_q10:FnScope ["_law_row", "_law_number_here", "_law_words", "_law_at", "_law_two"] ["_law_row", "_law_number_here"] (zja zrs):=by walk_at "sc"
theorem zit (T:Txt w K mg A) (G_q24:zpp P w K mg B A):zln P w K mg B A:=by
 have B_q24:=T.b_q24
 refine T.F_q10.okN sc_q10 (λ vs H Q E h=>?_) (λ _ _ _ _ H vs Q E hr h=>?_)
 ·obtain ⟨_,a,⟨rfl,_⟩,_⟩:=h
  rfl
 ·obtain ⟨hp,⟨z,n⟩,⟨hv,hz,hok⟩,q,_⟩:=h
  obtain rfl:vs=[.str z,.int n]:=hv
  dsimp only at hz hok
  refine ⟨_,(zba (zsa (i:=2) sc_q10.nd rfl (Or.inl rfl) (zue PySem.F.plainAttrs_str PySem.F.slot_str_split PySem.F.type_str_split zod (pv 0) (zaa zda zea)))
   (zba (zsa (i:=3) sc_q10.nd rfl (Or.inl rfl) (zka zsb (zka zlb (pv 1) zha) (zva zra rfl T.n_len (by decide +kernel) (zaa (pv 2) zea))))
   (zba (zmb (zia zdd (zka zsb (pv 1) zha) zha (zta _)) (zga (zpa (zue PySem.F.plainAttrs_str PySem.F.slot_str_join PySem.F.type_str_join zmf zda (zaa (zka zic (zua zob (pv 2) zeb (zza (pv 3))) (zua zob (pv 2) (zza (zka ztb (pv 3) zha)) zeb)) zea)))) zla)
   (zba (zmb (zia zdd (zka zsb (pv 1) zha) zha (zta _)) (zga (zpa (zue PySem.F.plainAttrs_str PySem.F.slot_str_join PySem.F.type_str_join zmf zda (zaa (zka zic (zua zob (pv 2) zeb (zza (zka ztb (pv 3) zha))) (zua zob (pv 2) (zza (pv 3)) zeb)) zea)))) zla)
   (zba (zmb (zia zdd (zka zsb (pv 1) zha) zha (zta _)) (zga (zpa (zue PySem.F.plainAttrs_str PySem.F.slot_str_join PySem.F.type_str_join zmf zda (zaa (zka zic (zka zic (zua zob (pv 2) zeb (zza (pv 3))) (zib (zaa (zma G_q24 (hr.mono (by decide)) rfl T.g_q24 T.k_q24 B_q24 .nil zcd (zaa (zka zlb (pv 1) zha) zea)) zea))) (zua zob (pv 2) (zza (zka ztb (pv 3) zha)) zeb)) zea)))) zla)
   (zba (zsa (i:=4) sc_q10.nd rfl (Or.inl rfl) (zka zic (zua zob (pv 2) (zza (zka ztb (pv 3) zha)) (zza (zka ztb (pv 3) zha))) (zua zob (pv 2) (zza (pv 3)) (zza (zka ztb (pv 3) zha)))))
   (zga (zpa (zue PySem.F.plainAttrs_str PySem.F.slot_str_join PySem.F.type_str_join zmf zda (zaa (zka zic (zka zic (zua zob (pv 2) zeb (zza (pv 3))) (pv 4)) (zua zob (pv 2) (zza (zka ztb (pv 3) zha)) zeb)) zea)))))))))),?_⟩
  have sl:=split_le z " "
  have sw:=zuj z
  have okp:∀ p∈Txt.split z " ",PyData.strOk p=true:=λ p hp=>zfl (c:=32) hok hp
  have hne:Txt.split z " " ≠ []:=zqc z 32
  refine ⟨_,rfl,rfl,z,_,rfl,rfl,by decide,by omega,λ l1 hp1=>?_⟩
  generalize Txt.split z " " = ws at sl sw okp hne ⊢
  generalize hH1:upd H l1 (HO.lst _)=H1
  have s1:Same H H1:=hH1 ▸ zca hp1
  have P1:Plain H1:=hH1 ▸ hp.lst
  have h1:=(congrFun hH1 l1).symm.trans upd_same
  have hl:0<ws.length:=List.length_pos_iff.mpr hne
  refine ⟨_,rfl,_,_,rfl,rfl,⟨by decide,by decide⟩,_,rfl,l1,_,rfl,.inl (SqL.of h1),_,_,rfl,rfl,(by rw [List.length_map];omega),?_⟩
  have fin:∀ (ys:List Str) H',ys.length≤4 * ws.length+1→sumL ys≤4 * sumL ws+40→(∀ y∈ys,PyData.strOk y=true)→Same H H'→Plain H'→Q (.str (Txt.join " " ys)) H':=λ ys H' g1 g2 g3 g4 g5=>q _ _ ⟨_,rfl,zwm g3 (by omega) (by omega)⟩ g4 g5
  have jb:∀ ys:List Str,ys.length≤4 * ws.length+1→sumL ys≤4 * sumL ws+40→(ys.map (·.length)).sum+ys.length * (Str.ofString " ").length≤16777216:=λ ys g1 g2=>by
   have e:(Str.ofString " ").length=1:=rfl
   rw [e]
   unfold sumL at g2 sw
   omega
  refine ⟨_,rfl,_,_,rfl,rfl,ip_4,rfl,_,rfl,zvb (λ _=>?_) (λ _=>?_)⟩
  ·refine ⟨rfl,_,rfl,_,rfl,_,rfl,l1,_,rfl,SqL.of h1,λ l2 hp2=>?_⟩
   obtain ⟨y1,e1,b1⟩:=zlc ws none (some (n / 4 % (((ws.map V.str).length:Nat):Int)))
   rw [e1]
   generalize hH2:upd H1 l2 (HO.lst _)=H2
   have s2:Same H1 H2:=hH2 ▸ zca hp2
   have P2:Plain H2:=hH2 ▸ P1.lst
   have h2:=(congrFun hH2 l2).symm.trans upd_same
   refine ⟨_,rfl,_,rfl,_,_,rfl,rfl,_,rfl,l1,_,rfl,SqL.of (s2 _ _ h1),λ l3 hp3=>?_⟩
   obtain ⟨y2,e2,b2⟩:=zlc ws (some ((n / 4 % (((ws.map V.str).length:Nat):Int))+1)) none
   rw [e2]
   generalize hH3:upd H2 l3 (HO.lst _)=H3
   have s3:Same H2 H3:=hH3 ▸ zca hp3
   have P3:Plain H3:=hH3 ▸ P2.lst
   have h3:=(congrFun hH3 l3).symm.trans upd_same
   refine ⟨l2,l3,_,_,rfl,rfl,s3 _ _ h2,h3,?_,λ l4 hp4=>?_⟩
   ·rw [List.length_map,List.length_map]
    have v1:=b1.length_le
    have v2:=b2.length_le
    exact sm1 ((by omega))
   rw [← List.map_append]
   have u1:=zdc b1
   have v1:=b1.length_le
   have u2:=zdc b2
   have v2:=b2.length_le
   generalize hH4:upd H3 l4 (HO.lst _)=H4
   have s4:Same H3 H4:=hH4 ▸ zca hp4
   have P4:Plain H4:=hH4 ▸ P3.lst
   have h4:=(congrFun hH4 l4).symm.trans upd_same
   have sm:sumL (y1++y2)=sumL y1+sumL y2:=by unfold sumL;rw [List.map_append,List.sum_append]
   have ln:(y1++y2).length=y1.length+y2.length:=List.length_append
   refine ⟨_,l4,y1++y2,rfl,rfl,SqL.of h4,jb _ (by omega) (by omega),fin _ _ (by omega) (by omega) (λ y hy=>(List.mem_append.mp hy).elim (λ h=>okp y (b1.subset h)) (λ h=>okp y (b2.subset h))) (((s1.trans s2).trans s3).trans s4) P4⟩
  refine ⟨_,rfl,_,_,rfl,rfl,ip_4,rfl,_,rfl,zvb (λ _=>?_) (λ _=>?_)⟩
  ·refine ⟨rfl,_,rfl,_,rfl,_,_,rfl,rfl,_,rfl,l1,_,rfl,SqL.of h1,λ l2 hp2=>?_⟩
   obtain ⟨y1,e1,b1⟩:=zlc ws none (some ((n / 4 % (((ws.map V.str).length:Nat):Int))+1))
   rw [e1]
   generalize hH2:upd H1 l2 (HO.lst _)=H2
   have s2:Same H1 H2:=hH2 ▸ zca hp2
   have P2:Plain H2:=hH2 ▸ P1.lst
   have h2:=(congrFun hH2 l2).symm.trans upd_same
   refine ⟨_,rfl,_,rfl,_,rfl,l1,_,rfl,SqL.of (s2 _ _ h1),λ l3 hp3=>?_⟩
   obtain ⟨y2,e2,b2⟩:=zlc ws (some (n / 4 % (((ws.map V.str).length:Nat):Int))) none
   rw [e2]
   generalize hH3:upd H2 l3 (HO.lst _)=H3
   have s3:Same H2 H3:=hH3 ▸ zca hp3
   have P3:Plain H3:=hH3 ▸ P2.lst
   have h3:=(congrFun hH3 l3).symm.trans upd_same
   refine ⟨l2,l3,_,_,rfl,rfl,s3 _ _ h2,h3,?_,λ l4 hp4=>?_⟩
   ·rw [List.length_map,List.length_map]
    have v1:=b1.length_le
    have v2:=b2.length_le
    exact sm1 ((by omega))
   rw [← List.map_append]
   have u1:=zdc b1
   have v1:=b1.length_le
   have u2:=zdc b2
   have v2:=b2.length_le
   generalize hH4:upd H3 l4 (HO.lst _)=H4
   have s4:Same H3 H4:=hH4 ▸ zca hp4
   have P4:Plain H4:=hH4 ▸ P3.lst
   have h4:=(congrFun hH4 l4).symm.trans upd_same
   have sm:sumL (y1++y2)=sumL y1+sumL y2:=by unfold sumL;rw [List.map_append,List.sum_append]
   have ln:(y1++y2).length=y1.length+y2.length:=List.length_append
   refine ⟨_,l4,y1++y2,rfl,rfl,SqL.of h4,jb _ (by omega) (by omega),fin _ _ (by omega) (by omega) (λ y hy=>(List.mem_append.mp hy).elim (λ h=>okp y (b1.subset h)) (λ h=>okp y (b2.subset h))) (((s1.trans s2).trans s3).trans s4) P4⟩
  refine ⟨_,rfl,_,_,rfl,rfl,ip_4,rfl,_,rfl,zvb (λ _=>?_) (λ _=>?_)⟩
  ·refine ⟨rfl,_,rfl,_,rfl,_,rfl,l1,_,rfl,SqL.of h1,λ l2 hp2=>?_⟩
   obtain ⟨y1,e1,b1⟩:=zlc ws none (some (n / 4 % (((ws.map V.str).length:Nat):Int)))
   rw [e1]
   generalize hH2:upd H1 l2 (HO.lst _)=H2
   have s2:Same H1 H2:=hH2 ▸ zca hp2
   have P2:Plain H2:=hH2 ▸ P1.lst
   have h2:=(congrFun hH2 l2).symm.trans upd_same
   refine ⟨_,rfl,_,_,rfl,rfl,⟨by decide,by decide⟩,P2,_,rfl,λ v H3 hv s3 P3=>?_,λ _ _ h=>h.elim⟩
   obtain ⟨od,rfl,o1,o2⟩:=hv
   refine ⟨sz_1,λ l4 hp4=>?_⟩
   generalize hH4:upd H3 l4 (HO.lst _)=H4
   have s4:Same H3 H4:=hH4 ▸ zca hp4
   have P4:Plain H4:=hH4 ▸ P3.lst
   have h4:=(congrFun hH4 l4).symm.trans upd_same
   have u1:=zdc b1
   have v1:=b1.length_le
   refine ⟨l2,l4,_,_,rfl,rfl,(s3.trans s4) _ _ h2,h4,?_,λ l5 hp5=>?_⟩
   ·rw [List.length_map]
    exact sm1 ((by show y1.length+1≤1000;omega))
   generalize hH5:upd H4 l5 (HO.lst _)=H5
   have s5:Same H4 H5:=hH5 ▸ zca hp5
   have P5:Plain H5:=hH5 ▸ P4.lst
   have h5:=(congrFun hH5 l5).symm.trans upd_same
   refine ⟨_,rfl,_,rfl,_,_,rfl,rfl,_,rfl,l1,_,rfl,SqL.of ((((s2.trans s3).trans s4).trans s5) _ _ h1),λ l6 hp6=>?_⟩
   obtain ⟨y2,e2,b2⟩:=zlc ws (some ((n / 4 % (((ws.map V.str).length:Nat):Int))+1)) none
   rw [e2]
   generalize hH6:upd H5 l6 (HO.lst _)=H6
   have s6:Same H5 H6:=hH6 ▸ zca hp6
   have P6:Plain H6:=hH6 ▸ P5.lst
   have h6:=(congrFun hH6 l6).symm.trans upd_same
   have u2:=zdc b2
   have v2:=b2.length_le
   have h5:H5 l5=some (.lst ((y1++[od]).map V.str)):=by rw [h5,List.map_append];rfl
   refine ⟨l5,l6,_,_,rfl,rfl,s6 _ _ h5,h6,?_,λ l7 hp7=>?_⟩
   ·rw [List.length_map,List.length_map,List.length_append]
    exact sm1 ((by show y1.length+1+y2.length≤1000;omega))
   rw [← List.map_append]
   generalize hH7:upd H6 l7 (HO.lst _)=H7
   have s7:Same H6 H7:=hH7 ▸ zca hp7
   have P7:Plain H7:=hH7 ▸ P6.lst
   have h7:=(congrFun hH7 l7).symm.trans upd_same
   have sm:sumL ((y1++[od])++y2)=sumL y1+od.length+sumL y2:=by unfold sumL;rw [List.map_append,List.map_append,List.sum_append,List.sum_append];show _+(od.length+0)+_=_;rfl
   have ln:((y1++[od])++y2).length=y1.length+1+y2.length:=by rw [List.length_append,List.length_append];rfl
   refine ⟨_,l7,(y1++[od])++y2,rfl,rfl,SqL.of h7,jb _ (by omega) (by omega),fin _ _ (by omega) (by omega) ?_ ((((((s1.trans s2).trans s3).trans s4).trans s5).trans s6).trans s7) P7⟩
   intro y hy
   rcases List.mem_append.mp hy with hy | hy
   ·rcases List.mem_append.mp hy with hy | hy
    ·exact okp y (b1.subset hy)
    ·rw [List.mem_singleton.mp hy];exact o2
   ·exact okp y (b2.subset hy)
  refine ⟨_,rfl,_,rfl,_,_,rfl,rfl,_,rfl,_,rfl,_,_,rfl,rfl,_,rfl,l1,_,rfl,SqL.of h1,λ l2 hp2=>?_⟩
  obtain ⟨y1,e1,b1⟩:=zlc ws (some ((n / 4 % (((ws.map V.str).length:Nat):Int))+1)) (some ((n / 4 % (((ws.map V.str).length:Nat):Int))+2))
  rw [e1]
  generalize hH2:upd H1 l2 (HO.lst _)=H2
  have s2:Same H1 H2:=hH2 ▸ zca hp2
  have P2:Plain H2:=hH2 ▸ P1.lst
  have h2:=(congrFun hH2 l2).symm.trans upd_same
  refine ⟨_,rfl,_,rfl,_,rfl,_,rfl,_,_,rfl,rfl,_,rfl,l1,_,rfl,SqL.of (s2 _ _ h1),λ l3 hp3=>?_⟩
  obtain ⟨y2,e2,b2⟩:=zlc ws (some (n / 4 % (((ws.map V.str).length:Nat):Int))) (some ((n / 4 % (((ws.map V.str).length:Nat):Int))+1))
  rw [e2]
  generalize hH3:upd H2 l3 (HO.lst _)=H3
  have s3:Same H2 H3:=hH3 ▸ zca hp3
  have P3:Plain H3:=hH3 ▸ P2.lst
  have h3:=(congrFun hH3 l3).symm.trans upd_same
  have u1:=zdc b1
  have v1:=b1.length_le
  have u2:=zdc b2
  have v2:=b2.length_le
  refine ⟨l2,l3,_,_,rfl,rfl,s3 _ _ h2,h3,?_,λ l4 hp4=>?_⟩
  ·rw [List.length_map,List.length_map]
   exact sm1 ((by omega))
  rw [← List.map_append]
  generalize hH4:upd H3 l4 (HO.lst _)=H4
  have s4:Same H3 H4:=hH4 ▸ zca hp4
  have P4:Plain H4:=hH4 ▸ P3.lst
  have h4:=(congrFun hH4 l4).symm.trans upd_same
  refine ⟨rfl,_,rfl,_,rfl,_,rfl,l1,_,rfl,SqL.of (((s2.trans s3).trans s4) _ _ h1),λ l5 hp5=>?_⟩
  obtain ⟨y3,e3,b3⟩:=zlc ws none (some (n / 4 % (((ws.map V.str).length:Nat):Int)))
  rw [e3]
  generalize hH5:upd H4 l5 (HO.lst _)=H5
  have s5:Same H4 H5:=hH5 ▸ zca hp5
  have P5:Plain H5:=hH5 ▸ P4.lst
  have h5:=(congrFun hH5 l5).symm.trans upd_same
  have u3:=zdc b3
  have v3:=b3.length_le
  have y12:(y1++y2).length=y1.length+y2.length:=List.length_append
  refine ⟨_,rfl,l5,l4,_,_,rfl,rfl,h5,s5 _ _ h4,?_,λ l6 hp6=>?_⟩
  ·rw [List.length_map,List.length_map]
   exact sm1 ((by omega))
  rw [← List.map_append]
  generalize hH6:upd H5 l6 (HO.lst _)=H6
  have s6:Same H5 H6:=hH6 ▸ zca hp6
  have P6:Plain H6:=hH6 ▸ P5.lst
  have h6:=(congrFun hH6 l6).symm.trans upd_same
  refine ⟨_,rfl,_,rfl,_,_,rfl,rfl,_,rfl,l1,_,rfl,SqL.of ((((((s2.trans s3).trans s4).trans s5).trans s6)) _ _ h1),λ l7 hp7=>?_⟩
  obtain ⟨y4,e4,b4⟩:=zlc ws (some ((n / 4 % (((ws.map V.str).length:Nat):Int))+2)) none
  rw [e4]
  generalize hH7:upd H6 l7 (HO.lst _)=H7
  have s7:Same H6 H7:=hH7 ▸ zca hp7
  have P7:Plain H7:=hH7 ▸ P6.lst
  have h7:=(congrFun hH7 l7).symm.trans upd_same
  have u4:=zdc b4
  have v4:=b4.length_le
  have y123:(y3++(y1++y2)).length=y3.length+(y1++y2).length:=List.length_append
  refine ⟨l6,l7,_,_,rfl,rfl,s7 _ _ h6,h7,?_,λ l8 hp8=>?_⟩
  ·rw [List.length_map,List.length_map]
   exact sm1 ((by omega))
  rw [← List.map_append]
  generalize hH8:upd H7 l8 (HO.lst _)=H8
  have s8:Same H7 H8:=hH8 ▸ zca hp8
  have P8:Plain H8:=hH8 ▸ P7.lst
  have h8:=(congrFun hH8 l8).symm.trans upd_same
  have sm:sumL ((y3++(y1++y2))++y4)=sumL y3+(sumL y1+sumL y2)+sumL y4:=by unfold sumL;rw [List.map_append,List.map_append,List.map_append,List.sum_append,List.sum_append,List.sum_append]
  have ln:((y3++(y1++y2))++y4).length=y3.length+(y1.length+y2.length)+y4.length:=by rw [List.length_append,List.length_append,List.length_append]
  refine ⟨_,l8,(y3++(y1++y2))++y4,rfl,rfl,SqL.of h8,jb _ (by omega) (by omega),fin _ _ (by omega) (by omega) ?_ (((((((s1.trans s2).trans s3).trans s4).trans s5).trans s6).trans s7).trans s8) P8⟩
  intro y hy
  rcases List.mem_append.mp hy with hy | hy
  ·rcases List.mem_append.mp hy with hy | hy
   ·exact okp y (b3.subset hy)
   ·rcases List.mem_append.mp hy with hy | hy
    ·exact okp y (b1.subset hy)
    ·exact okp y (b2.subset hy)
  ·exact okp y (b4.subset hy)
theorem sc_q1:FnScope ["_law_row", "_law_number_here", "_law_way", "_law_rest", "_law_at", "_law_sign"] ["_law_row", "_law_number_here"] (zja s_q1):=by walk_at "sc"
theorem zgv (T:Txt w K mg A) (G_q11:zpo P w K mg B A) (G_q10:zln P w K mg B A):zbu P w K mg B A:=by
 have B_q11:=T.b_q11
 have B_q10:=T.b_q10
 refine T.F_q1.okN sc_q1 (λ vs H Q E h=>?_) (λ _ _ _ _ H vs Q E hr h=>?_)
 ·obtain ⟨_,a,⟨rfl,_⟩,_⟩:=h
  rfl
 ·obtain ⟨hp,⟨z,n⟩,⟨hv,hz,hok⟩,q,_⟩:=h
  obtain rfl:vs=[.str z,.int n]:=hv
  dsimp only at hz hok
  refine ⟨_,(zba (zsa (i:=2) sc_q1.nd rfl (Or.inl rfl) (zka zsb (pv 1) zha))
   (zba (zsa (i:=3) sc_q1.nd rfl (Or.inl rfl) (zka zlb (pv 1) zha))
   (zba (zsa (i:=4) sc_q1.nd rfl (Or.inl rfl) (zka zsb (pv 3) (zka ztb (zva zzb rfl T.n_len (by decide +kernel) (zaa (pv 0) zea)) zha)))
   (zba (zsa (i:=5) sc_q1.nd rfl (Or.inl rfl) (zle zkm (znm G_q11 (hr.mono (by decide)) rfl T.g_q11 T.k_q11 B_q11 .nil zcd) (zka zsb (zka zlb (pv 3) (zka ztb (zva zzb rfl T.n_len (by decide +kernel) (zaa (pv 0) zea)) zha)) zha) (λ _ _=>rfl)))
   (zba (zmb (zia zdd (pv 2) zha (zta _)) (zga (zpa (pv 0))) zla)
   (zba (zmb (zia zdd (pv 2) zha (zta _)) (zga (zpa (zka zfa (zka zfa (zua zjf (pv 0) zeb (zza (pv 4))) (pv 5)) (zua zjf (pv 0) (zza (pv 4)) zeb)))) zla)
   (zba (zmb (zia zdd (pv 2) zha (zta _)) (zga (zpa (zka zfa (zka zfa (zua zjf (pv 0) zeb (zza (pv 4))) (pv 5)) (zua zjf (pv 0) (zza (zka ztb (pv 4) zha)) zeb)))) zla)
   (zba (zmb (zia zdd (pv 2) zha (zta _)) (zga (zpa (zka zfa (zua zjf (pv 0) zeb (zza (pv 4))) (zua zjf (pv 0) (zza (zka ztb (pv 4) zha)) zeb)))) zla)
   (zga (zpa (zma G_q10 (hr.mono (by decide)) rfl T.g_q10 T.k_q10 B_q10 .nil zcd (zaa (pv 0) (zaa (pv 3) zea))))))))))))),?_⟩
  have sz:z.length≤sizeLine:=sm1 ((by omega))
  have oz:okN 60 z:=⟨hz,hok⟩
  refine ⟨_,rfl,_,_,rfl,rfl,ip_8,?_⟩
  refine ⟨_,rfl,_,_,rfl,rfl,⟨by decide,by decide⟩,?_⟩
  refine ⟨_,rfl,_,rfl,_,rfl,sz,_,_,rfl,rfl,_,_,rfl,rfl,(by show (0:Int)<(z.length:Int)+1;omega),?_⟩
  refine ⟨hp,(),rfl,λ v hv=>?_⟩
  subst hv
  refine ⟨_,rfl,_,rfl,_,rfl,sz,_,_,rfl,rfl,_,_,rfl,rfl,⟨by show (0:Int)<(z.length:Int)+1;omega,by show (z.length:Int)+1<1073741824;omega⟩,_,_,rfl,rfl,zvv,?_⟩
  obtain ⟨c,hc,hm⟩:=zml (xs:=SG.cps.toList) (i:=n / 8 / ((z.length:Int)+1) % 96) (Int.emod_nonneg _ (by decide)) (by rw [zbr];exact Int.emod_lt_of_pos _ (by decide))
  have oc:=zyn hm
  refine ⟨_,_,c,rfl,rfl,by decide +kernel,hc,?_⟩
  have fin:∀ y:Str,okN 600 y→Q (.str y) H:=λ y hy=>q _ _ ⟨y,rfl,hy⟩ (Same.refl _) hp
  have A1:=λ lo hi=>(zng oz lo hi)
  have A2:=λ lo hi=>(zng oz lo hi).1
  have oc1:=oc.1
  refine ⟨_,rfl,rfl,_,rfl,zvb (λ _=>?_) (λ _=>?_)⟩
  ·exact ⟨_,rfl,fin _ (zkb oz (by decide))⟩
  refine ⟨_,rfl,rfl,_,rfl,zvb (λ _=>?_) (λ _=>?_)⟩
  ·refine ⟨_,rfl,_,rfl,_,rfl,_,rfl,sz,_,rfl,_,_,rfl,rfl,?_,_,rfl,_,rfl,_,rfl,_,rfl,sz,_,_,rfl,rfl,?_,fin _ ?_⟩
   ·exact sm1 ((by have:=A2 none (some (n / 8 % ((z.length:Int)+1)));omega))
   ·rw [zna]
    exact sm1 ((by have:=A2 none (some (n / 8 % ((z.length:Int)+1)));have:=A2 (some (n / 8 % ((z.length:Int)+1))) none;omega))
   ·exact zoa (zoa (A1 _ _) oc (Nat.le_refl _)) (A1 _ _) (by decide)
  refine ⟨_,rfl,rfl,_,rfl,zvb (λ _=>?_) (λ _=>?_)⟩
  ·refine ⟨_,rfl,_,rfl,_,rfl,_,rfl,sz,_,rfl,_,_,rfl,rfl,?_,_,rfl,_,rfl,_,_,rfl,rfl,_,rfl,_,rfl,sz,_,_,rfl,rfl,?_,fin _ ?_⟩
   ·exact sm1 ((by have:=A2 none (some (n / 8 % ((z.length:Int)+1)));omega))
   ·rw [zna]
    exact sm1 ((by have:=A2 none (some (n / 8 % ((z.length:Int)+1)));have:=A2 (some (n / 8 % ((z.length:Int)+1)+1)) none;omega))
   ·exact zoa (zoa (A1 _ _) oc (Nat.le_refl _)) (A1 _ _) (by decide)
  refine ⟨_,rfl,rfl,_,rfl,zvb (λ _=>?_) (λ _=>?_)⟩
  ·refine ⟨_,rfl,_,rfl,_,rfl,_,rfl,sz,_,rfl,_,rfl,_,_,rfl,rfl,_,rfl,_,rfl,sz,_,_,rfl,rfl,?_,fin _ ?_⟩
   ·exact sm1 ((by have:=A2 none (some (n / 8 % ((z.length:Int)+1)));have:=A2 (some (n / 8 % ((z.length:Int)+1)+1)) none;omega))
   ·exact zoa (A1 _ _) (A1 _ _) (by decide)
  exact ⟨_,rfl,_,rfl,hp,(z,n / 8),⟨rfl,oz⟩,λ v H1 hv s1 P1=>q _ _ hv s1 P1,λ _ _ h=>h.elim⟩
theorem sc_q7:FnScope ["_law_text", "_law_least", "_law_figures", "_law_number_here"] ["_law_text", "_law_least"] (zja s_q7):=by walk_at "sc"
theorem zru (T:Txt w K mg A)  : zar P w K mg B A:=by
 refine FnOk.pure (T.F_q7.okN sc_q7 (λ vs H Q E h=>?_) (λ _ _ _ _ H vs Q E hr h=>?_))
 ·obtain ⟨_,a,⟨rfl,_⟩,_⟩:=h
  rfl
 ·obtain ⟨hp,⟨z,m⟩,⟨hv,hz⟩,q⟩:=h
  obtain rfl:vs=[.str z,vOpt m]:=hv
  dsimp only at hz
  refine ⟨_,(zba (zsa (i:=2) sc_q7.nd rfl (Or.inl rfl) (pv 0))
   (zba (zmb (zld (zue PySem.F.plainAttrs_str PySem.F.slot_str_startswith PySem.F.type_str_startswith zfc (pv 0) (zaa zda zea))) (zga (zsa (i:=2) sc_q7.nd rfl (Or.inl rfl) (zua zjf (pv 0) (zza zha) zeb))) zla)
   (zba (zmb (PW.pt (zyi (zia zdd (pv 2) zda (zta _)) (zyi (zia zku (zva zzb rfl T.n_len (by decide +kernel) (zaa (pv 2) zea)) zha (zta _)) (zkf (PW.pt (zqh (zia zdd (zle zkm (pv 2) zha (λ _ _=>rfl)) zda (zta _)) (zaf (zia zvm (pv 0) zda (zta _))))))))) (zga (zpa zrb)) zla)
   (zba (zmb (zne (zld (zva (zej rfl) rfl T.n_all (by decide +kernel) (zaa (zhl ["_law_sign"] 1 [] rfl (zvn (pv 2)) gk1 (λ _ _ _ _ _=>zab (i:=0) (show List.Nodup (["_law_sign"]:List Str) by decide +kernel) rfl (Or.inl rfl)) (λ _ _ _ _ _=>zcf) (λ _ _ _ _ _=>(zpd zmd (pv 0) zda (by rfl)))) zea)))) (zga (zpa zrb)) zla)
   (zba (zsa (i:=3) sc_q7.nd rfl (Or.inl rfl) (zfb zvd rfl T.n_int (by decide +kernel) (zaa (pv 2) zea)))
   (zba (zmb (zld (zue PySem.F.plainAttrs_str PySem.F.slot_str_startswith PySem.F.type_str_startswith zfc (pv 0) (zaa zda zea))) (zga (zsa (i:=3) sc_q7.nd rfl (Or.inl rfl) (zka zmk zha (pv 3)))) zla)
   (zba (zmb (PW.pt (zqh (zia zsl (pv 1) zrb (zta _)) (zaf (zia zkq (pv 3) (pv 1) (zta _))))) (zga (zpa zrb)) zla)
   (zga (zpa (pv 3)))))))))),?_⟩
  have sz:z.length≤sizeLine:=sm1 ((by omega))
  have hlz:z.cps.toList.length=z.length:=Array.length_toList
  have no:zbc z.cps.toList=none→∀ H',Same H H'→Q .non H':=λ e H' s=>q _ _ (by dsimp only;rw [zfp e];rfl) s
  apply join (α:=Str) (ok:=λ y=>y.cps.toList=(if z.cps.toList.head? = some 45 then z.cps.toList.tail else z.cps.toList))
  ·intro R
   refine ⟨_,rfl,_,rfl,rfl,_,_,rfl,rfl,_,rfl,?_⟩
   rw [zid]
   refine zvb (λ h=>?_) (λ h=>?_)
   ·refine ⟨_,rfl,_,rfl,_,rfl,sz,?_⟩
    have e:=zpf z
    generalize Txt.slice z (some 1) none=y at e ⊢
    exact R y (by rw [if_pos h,e])
   ·exact R z (by rw [if_neg h])
  intro y hy
  have hly:y.cps.toList.length=y.length:=Array.length_toList
  have hle:y.length≤z.length:=by
   rw [← hly,← hlz,hy]
   split
   ·simp
   ·exact Nat.le_refl _
  refine ⟨_,rfl,rfl,_,rfl,zvb (λ h1=>iteT ?_) (λ h1=>⟨_,rfl,_,rfl,Nat.le_trans hle sz,_,_,rfl,rfl,_,rfl,zvb (λ h2=>iteT ?_) (λ h2=>?_)⟩)⟩
  ·exact no (zsg hy (.inl (by rw [(zjb _ _).mp h1];exact Nat.zero_lt_one))) _ (Same.refl _)
  ·exact no (zsg hy (.inr (.inl (by rw [hly];omega)))) _ (Same.refl _)
  obtain ⟨c,cs,hc⟩:∃ c cs,y.cps.toList=c::cs:=by
   cases e:y.cps.toList with
   | nil=>exact absurd ((zjb _ _).mpr e) h1
   | cons c cs=>exact ⟨c,cs,rfl⟩
  have c48:(V.str ⟨#[c]⟩=V.str "0")↔c=48:=by
   rw [zjb,zyd]
   simp
  have len30:y.cps.toList.length≤30:=by rw [hly];omega
  apply zhw (G:=(y.cps.toList.head? = some 48→z = "0")→_)
  ·intro R
   refine ⟨_,rfl,_,_,_,rfl,rfl,Nat.le_trans hle sz,zgg hc,rfl,_,rfl,zvb (λ h3=>⟨_,rfl,rfl,_,rfl,zfj (λ h4=>?_) (λ h4=>?_)⟩) (λ h3=>?_)⟩
   ·exact no (zsg hy (.inr (.inr (.inr ⟨by rw [hc,c48.mp h3];rfl,λ e=>h4 (by rw [e])⟩)))) _ (Same.refl _)
   ·exact R (λ _=>V.str.inj h4)
   ·first | exact R (λ e=>absurd (c48.mpr (by rw [hc] at e;simpa using e)) h3) | exact iteF (R (λ e=>absurd (c48.mpr (by rw [hc] at e;simpa using e)) h3))
  intro hz0
  refine ⟨_,rfl,_,rfl,λ D hD=>zhj (λ i=>.bl (hasS ⟨#[y.cps.toList.getD i 0]⟩ DIG)) (Nat.le_trans hle sz) ?_ ?_⟩
  ·intro i c2 H2 R hc2 hR
   refine ⟨_,rfl,_,_,rfl,rfl,hR _ ?_⟩
   have:y.cps.toList.getD i 0=c2:=by rw [List.getD_eq_getElem?_getD];simp [hc2]
   rw [this]
   rfl
  refine ⟨D,(List.range y.cps.size).map λ i=>hasS ⟨#[y.cps.toList.getD i 0]⟩ DIG,rfl,SqL.of (by rw [upd_same,List.map_map];rfl),_,rfl,?_⟩
  rw [show ((List.range y.cps.size).map λ i=>hasS ⟨#[y.cps.toList.getD i 0]⟩ DIG).all id=y.cps.toList.all zhf from zmh y]
  have SD:=zca (o := .lst (List.map V.bl ((List.range y.cps.size).map λ i=>hasS ⟨#[y.cps.toList.getD i 0]⟩ DIG))) hD
  cases hd:y.cps.toList.all zhf with
  | false=>exact iteT (no (zsg hy (.inr (.inr (.inl hd)))) _ (zca hD))
  | true =>
  have AD:AllDigits y.cps.toList:=(zif _).mp hd
  have hg:=zhn hy (by rw [hc];simp) len30 hd hz0
  refine iteF ⟨_,rfl,_,_,rfl,by omega,PySem.intText_digits AD (by rw [hc];simp) (by omega),?_⟩
  have fin1:∀ (N:Int) H',zbc z.cps.toList=some N→Same H H'→m=none→Q (.int N) H':=λ N H' e s em=>q _ _ (by dsimp only;rw [em];show V.int N=vOpt (zbc z.cps.toList);rw [e];rfl) s
  have fin2:∀ (N k:Int) H',zbc z.cps.toList=some N→Same H H'→m=some k→N<k→Q .non H':=λ N k H' e s em hk=>q _ _ (by dsimp only;rw [em];show V.non=vOpt (znb z k);unfold znb;rw [e];dsimp only;rw [if_pos hk];rfl) s
  have fin3:∀ (N k:Int) H',zbc z.cps.toList=some N→Same H H'→m=some k→¬ N<k→Q (.int N) H':=λ N k H' e s em hk=>q _ _ (by dsimp only;rw [em];show V.int N=vOpt (znb z k);unfold znb;rw [e];dsimp only;rw [if_neg hk];rfl) s
  refine ⟨_,rfl,rfl,_,_,rfl,rfl,_,rfl,?_⟩
  rw [zid]
  refine zvb (λ h=>?_) (λ h=>?_)
  ·have hr:zbc z.cps.toList=some ((0:Int) - ((digitsVal y.cps.toList:Nat):Int)):=by rw [hg,if_pos h];exact congrArg some (by omega)
   refine ⟨_,rfl,_,_,rfl,rfl,?_⟩
   cases m with
   | none =>
    refine ⟨_,rfl,rfl,_,rfl,zfj (λ h=>absurd rfl h) (λ _=>?_)⟩
    exact ⟨_,rfl,fin1 _ _ hr (zca hD) rfl⟩
   | some k =>
    refine ⟨_,rfl,rfl,_,rfl,zfj (λ _=>?_) (λ e=>by cases e)⟩
    refine ⟨_,rfl,_,rfl,_,_,rfl,rfl,_,rfl,zvb (λ hk=>?_) (λ hk=>?_)⟩
    ·exact fin2 _ _ _ hr (zca hD) rfl hk
    ·exact ⟨_,rfl,fin3 _ _ _ hr (zca hD) rfl hk⟩
  ·have hr:zbc z.cps.toList=some ((digitsVal y.cps.toList:Nat):Int):=by rw [hg,if_neg h]
   cases m with
   | none =>
    refine ⟨_,rfl,rfl,_,rfl,zfj (λ h=>absurd rfl h) (λ _=>?_)⟩
    exact ⟨_,rfl,fin1 _ _ hr (zca hD) rfl⟩
   | some k =>
    refine ⟨_,rfl,rfl,_,rfl,zfj (λ _=>?_) (λ e=>by cases e)⟩
    refine ⟨_,rfl,_,rfl,_,_,rfl,rfl,_,rfl,zvb (λ hk=>?_) (λ hk=>?_)⟩
    ·exact fin2 _ _ _ hr (zca hD) rfl hk
    ·exact ⟨_,rfl,fin3 _ _ _ hr (zca hD) rfl hk⟩
theorem sc_q22:FnScope ["_law_text", "_law_parts"] ["_law_text"] (zja zpr):=by walk_at "sc"
theorem zzt (T:Txt w K mg A) (G_q7:zar P w K mg B A):zlp P w K mg B A:=by
 have B_q7:=T.b_q7
 refine T.F_q22.okN sc_q22 (λ vs H Q E h=>?_) (λ _ _ _ _ H vs Q E hr h=>?_)
 ·obtain ⟨_,a,⟨rfl,_⟩,_⟩:=h
  rfl
 ·obtain ⟨hp,z,⟨rfl,hz⟩,q,qe⟩:=h
  refine ⟨_,(zba (zsa (i:=1) sc_q22.nd rfl (Or.inl rfl) (zue PySem.F.plainAttrs_str PySem.F.slot_str_split PySem.F.type_str_split zod (pv 0) (zaa zda zea)))
   (zba (zmb (PW.pt (zyi (zia zvm (zva zra rfl T.n_len (by decide +kernel) (zaa (pv 1) zea)) zha (zta _)) (zyi (zia zkh (zma G_q7 (hr.mono (by decide)) rfl T.g_q7 T.k_q7 B_q7 .nil zcd (zaa (zle zyb (pv 1) zha (λ _ _=>rfl)) (zaa zha zea))) zrb (zta _)) (zkf (zia zkh (zma G_q7 (hr.mono (by decide)) rfl T.g_q7 T.k_q7 B_q7 .nil zcd (zaa (zle zyb (pv 1) zha (λ _ _=>rfl)) (zaa zha zea))) zrb (zta _)))))) (zga (zpa zrb)) zla)
   (zga (zpa (zjc (zaa (zma G_q7 (hr.mono (by decide)) rfl T.g_q7 T.k_q7 B_q7 .nil zcd (zaa (zle zyb (pv 1) zha (λ _ _=>rfl)) (zaa zha zea))) (zaa (zma G_q7 (hr.mono (by decide)) rfl T.g_q7 T.k_q7 B_q7 .nil zcd (zaa (zle zyb (pv 1) zha (λ _ _=>rfl)) (zaa zha zea))) zea))))))),?_⟩
  have sl:=split_le z "."
  have hps:∀ p∈Txt.split z ".",p.length≤640:=λ p hp=>Nat.le_trans (part_short hp) hz
  have nm:=zfk z
  unfold zft at nm
  refine ⟨_,rfl,rfl,z,_,rfl,rfl,by decide,by omega,λ l1 hp1=>?_⟩
  generalize Txt.split z "." = ps at sl hps nm ⊢
  generalize hH1:upd H l1 (HO.lst _)=H1
  have s1:Same H H1:=hH1 ▸ zca hp1
  have P1:Plain H1:=hH1 ▸ hp.lst
  have h1:=(congrFun hH1 l1).symm.trans upd_same
  refine ⟨_,rfl,l1,_,rfl,.inl (SqL.of h1),rfl,_,rfl,zfj (λ hne=>iteT ?_) (λ he=>?_)⟩
  ·rw [List.length_map] at hne
   rw [if_neg (λ e:ps.length=([some 0,some 1]:List (Option Int)).length=>hne (by rw [e];rfl))] at nm
   exact q _ _ (.inl ⟨rfl,Option.map_eq_none_iff.mp nm.symm⟩) s1 P1
  rw [List.length_map] at he
  have he:ps.length=2:=by have:=V.int.inj he;omega
  rw [if_pos (show ps.length=([some 0,some 1]:List (Option Int)).length from he)] at nm
  obtain ⟨a,b,rfl⟩:∃ a b,ps=[a,b]:=by
   match ps,he with
   | [a,b],_=>exact ⟨a,b,rfl⟩
  have nm:zbb (λ p:Str×Option Int=>zwc p.1 p.2) [(a,some 0),(b,some 1)]=_:=nm
  unfold zbb zbb zbb at nm
  dsimp only at nm
  refine ⟨_,rfl,l1,_,_,.str a,rfl,rfl,SqL.of h1,at0,P1,(a,some 0),⟨rfl,hps a (by simp)⟩,λ v hv=>?_⟩
  subst hv
  dsimp only
  cases ea:zwc a (some 0) with
  | none =>
   rw [ea] at nm
   refine ⟨rfl,_,rfl,zpn rfl (iteT ?_)⟩
   exact q _ _ (.inl ⟨rfl,Option.map_eq_none_iff.mp nm.symm⟩) s1 P1
  | some x =>
  refine ⟨rfl,_,rfl,zsp (by intro z;cases z) ?_⟩
  refine ⟨_,rfl,l1,_,_,.str b,rfl,rfl,SqL.of h1,at1,P1,(b,some 1),⟨rfl,hps b (by simp)⟩,λ v hv=>?_⟩
  subst hv
  dsimp only
  cases eb:zwc b (some 1) with
  | none =>
   rw [ea,eb] at nm
   refine ⟨rfl,_,rfl,zpn rfl ?_⟩
   exact q _ _ (.inl ⟨rfl,Option.map_eq_none_iff.mp nm.symm⟩) s1 P1
  | some y =>
  refine ⟨rfl,_,rfl,zsp (by intro z;cases z) ?_⟩
  rw [ea,eb] at nm
  refine ⟨_,rfl,l1,_,_,.str a,rfl,rfl,SqL.of h1,at0,P1,(a,some 0),⟨rfl,hps a (by simp)⟩,λ v hv=>?_⟩
  subst hv
  refine ⟨_,rfl,l1,_,_,.str b,rfl,rfl,SqL.of h1,at1,P1,(b,some 1),⟨rfl,hps b (by simp)⟩,λ v hv=>?_⟩
  subst hv
  dsimp only
  rw [ea,eb]
  refine ⟨sz_2,λ t2 hp2=>?_⟩
  generalize hH2:upd H1 t2 (HO.tup _)=H2
  have s2:Same H1 H2:=hH2 ▸ zca hp2
  have P2:Plain H2:=hH2 ▸ P1.tup
  have h2:=(congrFun hH2 t2).symm.trans upd_same
  obtain ⟨m,hm,e⟩:=Option.map_eq_some_iff.mp nm.symm
  cases e
  exact q _ _ (.inr ⟨m,⟨t2,_,rfl,SqT.of h2,_,_,rfl,rfl,_,_,rfl,rfl,rfl⟩,hm⟩) (s1.trans s2) P2
theorem sc_q19:FnScope ["_law_kind", "_law_text", "_law_value"] ["_law_kind", "_law_text"] (zja zts):=by walk_at "sc"
theorem zjr (T:Txt w K mg A) (G_q7:zar P w K mg B A) (G_q22:zlp P w K mg B A):zho P w K mg B A:=by
 have B_q7:=T.b_q7
 have B_q22:=T.b_q22
 refine T.F_q19.okN sc_q19 (λ vs H Q E h=>?_) (λ _ _ _ _ H vs Q E hr h=>?_)
 ·obtain ⟨_,a,⟨rfl,_⟩,_⟩:=h
  rfl
 ·obtain ⟨hp,⟨k,z⟩,⟨hv,hz⟩,q,_⟩:=h
  obtain rfl:vs=[.str k,.str z]:=hv
  dsimp only at hz q
  refine ⟨_,(zba (zmb (zia zdd (pv 0) zda (zta _)) (zba (zmb (PW.pt (zyi (zia zmd zda (pv 1) (by rfl)) (zkf (zia zmd zda (pv 1) (by rfl))))) (zga (zpa (zib zea))) zla)
   (zga (zpa (zib (zaa (pv 1) zea))))) zla)
   (zba (zmb (PW.pt (zqh (zia zdd (pv 0) zda (zta _)) (zaf (zia zdd (pv 1) zda (zta _))))) (zga (zpa (zib (zaa zrb zea)))) zla)
   (zba (zsa (i:=2) sc_q19.nd rfl (Or.inl rfl) zrb)
   (zba (zmb (zia zyg (pv 0) (zjc (zaa zda (zaa zda zea))) (by rfl)) (zga (zsa (i:=2) sc_q19.nd rfl (Or.inl rfl) (zma G_q22 (hr.mono (by decide)) rfl T.g_q22 T.k_q22 B_q22 .nil zcd (zaa (pv 1) zea)))) (zga (zmb (zia zdd (pv 0) zda (zta _)) (zga (zsa (i:=2) sc_q19.nd rfl (Or.inl rfl) (zma G_q7 (hr.mono (by decide)) rfl T.g_q7 T.k_q7 B_q7 .nil zcd (zaa (pv 1) (zaa zrb zea))))) (zga (zsa (i:=2) sc_q19.nd rfl (Or.inl rfl) (zma G_q7 (hr.mono (by decide)) rfl T.g_q7 T.k_q7 B_q7 .nil zcd (zaa (pv 1) (zaa (zfb zvj rfl T.n_int (by decide +kernel) (zaa (zpd zdd (pv 0) zda (zta _)) zea)) zea))))))))
   (zba (zmb (zia zkh (pv 2) zrb (zta _)) (zga (zpa (zib zea))) zla)
   (zga (zpa (zib (zaa (pv 2) zea))))))))),?_⟩
  have h6:=hz.1
  have pl:zsc k z=zsc k z:=rfl
  conv at pl=>rhs;unfold zsc
  have none_:∀ H',zsc k z=none→Same H H'→Plain H'→∀ l,H' l=none→Q (.ref l) (upd H' l (.lst [])):=λ H' e s' P' l hl=>q _ _ ⟨l,[],rfl,upd_same,by rw [e];rfl⟩ (s'.trans (zca hl)) P'.lst
  have some_:∀ H' d v,zsc k z=some d→DV K H' d v→Same H H'→Plain H'→∀ l,H' l=none→Q (.ref l) (upd H' l (.lst [v])):=λ H' d v e hd s' P' l hl=>q _ _ ⟨l,[v],rfl,upd_same,by rw [e];exact ⟨v,[],rfl,DV.same (zca hl) d v hd,rfl⟩⟩ (s'.trans (zca hl)) P'.lst
  have Z0:0≤sizeLine:=Nat.zero_le _
  have Z1:1≤sizeLine:=by decide
  refine ⟨_,rfl,rfl,_,rfl,zvb (λ hw=>?_) (λ hw=>?_)⟩
  ·rw [if_pos (V.str.inj hw),zkk] at pl
   refine ⟨_,rfl,_,_,rfl,rfl,_,rfl,?_⟩
   rw [show (Str.ofString "\n")=⟨#[10]⟩ from rfl,zgi]
   refine zvb (λ h10=>iteT ?_) (λ h10=>?_)
   ·rw [decide_eq_true h10] at pl
    exact ⟨Z0,none_ H pl (Same.refl _) hp⟩
   refine ⟨_,rfl,_,_,rfl,rfl,_,rfl,?_⟩
   rw [show (Str.ofString "\t")=⟨#[9]⟩ from rfl,zgi]
   rw [decide_eq_false h10] at pl
   refine zvb (λ h9=>?_) (λ h9=>?_)
   ·rw [decide_eq_true h9] at pl
    exact ⟨Z0,none_ H pl (Same.refl _) hp⟩
   ·rw [decide_eq_false h9] at pl
    exact ⟨_,rfl,Z1,some_ H _ _ pl rfl (Same.refl _) hp⟩
  have hw:¬ k = "words" := λ e=>hw (by rw [e])
  rw [if_neg hw] at pl
  apply join (α:=Nat) (ok:=λ _=>¬ (k = "behind" ∧ z = "-"))
  ·intro R
   obtain ⟨n0,_⟩:∃ n:Nat,n=n:=⟨0,rfl⟩
   refine ⟨_,rfl,rfl,_,rfl,zvb (λ hb=>?_) (λ hb=>R n0 λ e=>hb (by rw [e.1]))⟩
   refine ⟨_,rfl,rfl,_,rfl,zvb (λ hd=>?_) (λ hd=>R n0 λ e=>hd (by rw [e.2]))⟩
   rw [if_pos ⟨V.str.inj hb,V.str.inj hd⟩] at pl
   exact ⟨Z1,some_ H _ _ pl rfl (Same.refl _) hp⟩
  intro _ nb
  rw [if_neg nb] at pl
  apply zdu (α:=V) (β:=Hp) (ok:=λ v H'=>Same H H'∧Plain H'∧((v = .non∧zsc k z=none) ∨ ∃ d,DV K H' d v∧¬ v = .non∧zsc k z=some d))
  ·intro R
   refine ⟨_,rfl,sz_2,λ t1 hp1=>?_⟩
   generalize hH1:upd H t1 (HO.tup _)=H1
   have s1:Same H H1:=hH1 ▸ zca hp1
   have P1:Plain H1:=hH1 ▸ hp.tup
   have h1:=(congrFun hH1 t1).symm.trans upd_same
   refine ⟨t1,_,rfl,.inr (SqT.of h1),rfl,rfl,_,rfl,?_⟩
   show if (inV (.str k) ((["mark", "behind"]:List Str).map V.str))=true then _ else _
   rw [zff]
   refine zvb (λ hm=>?_) (λ hm=>?_)
   ·have hm:k = "mark" ∨ k = "behind" := by simpa using hm
    rw [if_pos hm] at pl
    refine ⟨_,rfl,P1,z,⟨rfl,h6⟩,λ v H2 hv s2 P2=>?_,λ _ _ h=>h.elim⟩
    refine R v H2 ⟨s1.trans s2,P2,?_⟩
    rcases hv with ⟨rfl,e⟩ | ⟨m,hd,e⟩
    ·exact .inl ⟨rfl,by rw [pl,e];rfl⟩
    ·obtain ⟨t,vs,rfl,_⟩:=id hd
     exact .inr ⟨_,hd,(by intro x;cases x),by rw [pl,e];rfl⟩
   have hm:¬ (k = "mark" ∨ k = "behind"):=λ x=>hm (by simpa using x)
   rw [if_neg hm] at pl
   have num:∀ o:Option Int,zsc k z=(zwc z o).map PyData.int→(vOpt (zwc z o) = .non∧zsc k z=none) ∨ ∃ d,DV K H1 d (vOpt (zwc z o))∧¬ vOpt (zwc z o) = .non∧zsc k z=some d:=λ o e=>by
    cases el:zwc z o with
    | none=>exact .inl ⟨rfl,by rw [e,el];rfl⟩
    | some n=>exact .inr ⟨.int n,rfl,(by intro x;cases x),by rw [e,el];rfl⟩
   refine ⟨_,rfl,rfl,_,rfl,zvb (λ ha=>?_) (λ ha=>?_)⟩
   ·rw [if_pos (V.str.inj ha)] at pl
    refine ⟨_,rfl,P1,(z,none),⟨rfl,h6⟩,λ v hv=>?_⟩
    subst hv
    exact R _ _ ⟨s1,P1,num none pl⟩
   ·rw [if_neg (λ e=>ha (by rw [e]))] at pl
    refine ⟨_,rfl,_,rfl,rfl,.inr ⟨_,rfl,P1,(z,some (if k = "one" then 1 else 0)),⟨?_,h6⟩,λ v hv=>?_⟩⟩
    ·by_cases ho:k = "one"
     ·rw [if_pos ho,ho];rfl
     ·rw [if_neg ho,decide_eq_false (λ e=>ho (V.str.inj e))];rfl
    subst hv
    exact R _ _ ⟨s1,P1,num _ pl⟩
  rintro v H1 ⟨s1,P1,hv⟩
  refine ⟨_,rfl,rfl,_,rfl,?_⟩
  rcases hv with ⟨rfl,e⟩ | ⟨d,hd,hn,e⟩
  ·exact zpn rfl ⟨Z0,none_ H1 e s1 P1⟩
  ·exact zsp hn ⟨_,rfl,Z1,some_ H1 d v e hd s1 P1⟩
theorem sc_q13:FnScope ["_law_word", "_law_kinds_here"] ["_law_word"] (zja zmt):=by walk_at "sc"
theorem zrr (T:Txt w K mg A)  : zfq P w K mg B A:=by
 refine T.F_q13.okN sc_q13 (λ vs H Q E h=>?_) (λ _ _ _ _ H vs Q E hr h=>?_)
 ·obtain ⟨_,a,⟨rfl,_⟩,_⟩:=h
  rfl
 ·obtain ⟨hp,z,rfl,q,_⟩:=h
  refine ⟨_,(zba (zsa (i:=1) sc_q13.nd rfl (Or.inl rfl) (toE (zlw (zug "begin" zda (λ _ _ _ h=>h) (zib (zaa zda (zaa zda zea))) (zug "put" zda (λ _ _ _ h=>h) (zib (zaa zda (zaa zda zea))) (zug "take" zda (λ _ _ _ h=>h) (zib (zaa zda zea)) (zug "move" zda (λ _ _ _ h=>h) (zib (zaa zda (zaa zda zea))) zxt))))) (show _=tTd P w _ from rfl)))
   (zba (toS (zud (pv 1) zda (zib (zaa zda (zaa zda zea))) rfl) (show _=zzk P w _ _ _ from rfl))
   (zba (toS (zud (pv 1) zda (zib (zaa zda (zaa zda zea))) rfl) (show _=zzk P w _ _ _ from rfl))
   (zba (toS (zud (pv 1) zda (zib (zaa zda zea)) rfl) (show _=zzk P w _ _ _ from rfl))
   (zba (toS (zud (pv 1) zda (zib (zaa zda (zaa zda (zaa zda zea)))) rfl) (show _=zzk P w _ _ _ from rfl))
   (zba (toS (zud (pv 1) zda (zib zea) rfl) (show _=zzk P w _ _ _ from rfl))
   (zba (toS (zud (pv 1) zda (zib zea) rfl) (show _=zzk P w _ _ _ from rfl))
   (zba (toS (zud (pv 1) zda (zib (zaa zda zea)) rfl) (show _=zzk P w _ _ _ from rfl))
   (zba (zmb (zia zij (pv 0) (pv 1) (by rfl)) (zga (zpa zrb)) zla)
   (zga (zpa (zka zic (zib (zaa zda zea)) (zle zgw (pv 1) (pv 0) (λ _ _=>rfl)))))))))))))),?_⟩
  refine λ d hd0=>?_
  have s0:=zca (o:=tdO P w d []) hd0
  have P0:Plain (upd H d (tdO P w d [])):=hp.upd trivial
  have h0:(upd H d (tdO P w d [])) d=some (tdO P w d []):=upd_same
  generalize upd H d (tdO P w d [])=H0 at s0 P0 h0 ⊢
  refine ⟨sz_2,λ la hpa=>?_⟩
  generalize hHa:upd H0 la (HO.lst _)=Ha
  have sa:Same H0 Ha:=hHa ▸ zca hpa
  have Pa:Plain Ha:=hHa ▸ P0.lst
  have ha:=(congrFun hHa la).symm.trans upd_same
  refine ⟨sz_2,λ lb hpb=>?_⟩
  generalize hHb:upd Ha lb (HO.lst _)=Hb
  have sb:Same Ha Hb:=hHb ▸ zca hpb
  have Pb:Plain Hb:=hHb ▸ Pa.lst
  have hb:=(congrFun hHb lb).symm.trans upd_same
  refine ⟨sz_1,λ lc hpc=>?_⟩
  generalize hHc:upd Hb lc (HO.lst _)=Hc
  have sc:Same Hb Hc:=hHc ▸ zca hpc
  have Pc:Plain Hc:=hHc ▸ Pb.lst
  have hc:=(congrFun hHc lc).symm.trans upd_same
  refine ⟨sz_2,λ ld hpd=>?_⟩
  generalize hHd:upd Hc ld (HO.lst _)=Hd
  have sd:Same Hc Hd:=hHd ▸ zca hpd
  have Pd:Plain Hd:=hHd ▸ Pc.lst
  have hd:=(congrFun hHd ld).symm.trans upd_same
  have h0d:=(((sa.trans sb).trans sc).trans sd) _ _ h0
  refine ⟨h0d,(show List.Nodup ([Str.ofString "begin",Str.ofString "put",Str.ofString "take",Str.ofString "move"]:List Str) by decide +kernel),?_⟩
  have S2:Same H (upd Hd d (tdO P w d [("begin",.ref la),("put",.ref lb),("take",.ref lc),("move",.ref ld)])):=((((s0.trans sa).trans sb).trans sc).trans sd).upd hd0
  have P2:Plain (upd Hd d (tdO P w d [("begin",.ref la),("put",.ref lb),("take",.ref lc),("move",.ref ld)])):=Pd.upd trivial
  have d2:(upd Hd d (tdO P w d [("begin",.ref la),("put",.ref lb),("take",.ref lc),("move",.ref ld)])) d=some (tdO P w d [("begin",.ref la),("put",.ref lb),("take",.ref lc),("move",.ref ld)]):=upd_same
  have ne:∀ x o,Hd x=some (.lst o)→(upd Hd d (tdO P w d [("begin",.ref la),("put",.ref lb),("take",.ref lc),("move",.ref ld)])) x=some (.lst o):=λ x o hx=>by
   rw [zwa (λ e=>by subst e;rw [h0d] at hx;cases hx)]
   exact hx
  have T2:TabL (upd Hd d (tdO P w d [("begin",.ref la),("put",.ref lb),("take",.ref lc),("move",.ref ld)])) [("begin",.ref la),("put",.ref lb),("take",.ref lc),("move",.ref ld)] [("begin",["one", "nought"]),("put",["behind", "words"]),("take",["mark"]),("move",["mark", "behind"])] := .cons ⟨rfl,la,rfl,ne _ _ (((sb.trans sc).trans sd) _ _ ha)⟩ (.cons ⟨rfl,lb,rfl,ne _ _ ((sc.trans sd) _ _ hb)⟩ (.cons ⟨rfl,lc,rfl,ne _ _ (sd _ _ hc)⟩ (.cons ⟨rfl,ld,rfl,ne _ _ hd⟩ .nil)))
  clear ne h0d
  generalize upd Hd d (tdO P w d [("begin",.ref la),("put",.ref lb),("take",.ref lc),("move",.ref ld)])=H2 at S2 P2 d2 T2 ⊢
  generalize [(Str.ofString "begin",V.ref la),(Str.ofString "put",V.ref lb),(Str.ofString "take",V.ref lc),(Str.ofString "move",V.ref ld)]=kvs at d2 T2
  refine ⟨sz_2,λ l hl=>?_⟩
  obtain ⟨e1,e2,e3,H3,kvs3,eH,eK,S3,P3,d3,T3⟩:=zwd (P:=P) (w:=w) (k := "write") (ks:=["mark", "words"]) (l:=l) hd0 S2 P2 d2 T2 hl (by decide +kernel) (by decide)
  refine ⟨_,rfl,d,kvs,_,rfl,e1,rfl,e2,e3,?_⟩
  rw [show upd (upd H2 l (.lst [V.str (Str.ofString "mark"),V.str (Str.ofString "words")])) d (tdO P w d (kvs++[(Str.ofString "write",V.ref l)]))=H3 from eH]
  clear e1 e2 e3 eH eK hl
  refine ⟨sz_2,λ l hl=>?_⟩
  obtain ⟨e1,e2,e3,H4,kvs4,eH,eK,S4,P4,d4,T4⟩:=zwd (P:=P) (w:=w) (k := "part") (ks:=["mark", "any"]) (l:=l) hd0 S3 P3 d3 T3 hl (by decide +kernel) (by decide)
  refine ⟨_,rfl,d,kvs3,_,rfl,e1,rfl,e2,e3,?_⟩
  rw [show upd (upd H3 l (.lst [V.str (Str.ofString "mark"),V.str (Str.ofString "any")])) d (tdO P w d (kvs3++[(Str.ofString "part",V.ref l)]))=H4 from eH]
  clear e1 e2 e3 eH eK hl
  refine ⟨sz_1,λ l hl=>?_⟩
  obtain ⟨e1,e2,e3,H5,kvs5,eH,eK,S5,P5,d5,T5⟩:=zwd (P:=P) (w:=w) (k := "join") (ks:=["mark"]) (l:=l) hd0 S4 P4 d4 T4 hl (by decide +kernel) (by decide)
  refine ⟨_,rfl,d,kvs4,_,rfl,e1,rfl,e2,e3,?_⟩
  rw [show upd (upd H4 l (.lst [V.str (Str.ofString "mark")])) d (tdO P w d (kvs4++[(Str.ofString "join",V.ref l)]))=H5 from eH]
  clear e1 e2 e3 eH eK hl
  refine ⟨sz_3,λ l hl=>?_⟩
  obtain ⟨e1,e2,e3,H6,kvs6,eH,eK,S6,P6,d6,T6⟩:=zwd (P:=P) (w:=w) (k := "carry") (ks:=["mark", "mark", "behind"]) (l:=l) hd0 S5 P5 d5 T5 hl (by decide +kernel) (by decide)
  refine ⟨_,rfl,d,kvs5,_,rfl,e1,rfl,e2,e3,?_⟩
  rw [show upd (upd H5 l (.lst [V.str (Str.ofString "mark"),V.str (Str.ofString "mark"),V.str (Str.ofString "behind")])) d (tdO P w d (kvs5++[(Str.ofString "carry",V.ref l)]))=H6 from eH]
  clear e1 e2 e3 eH eK hl
  refine ⟨sz_0,λ l hl=>?_⟩
  obtain ⟨e1,e2,e3,H7,kvs7,eH,eK,S7,P7,d7,T7⟩:=zwd (P:=P) (w:=w) (k := "undo") (ks:=[]) (l:=l) hd0 S6 P6 d6 T6 hl (by decide +kernel) (by decide)
  refine ⟨_,rfl,d,kvs6,_,rfl,e1,rfl,e2,e3,?_⟩
  rw [show upd (upd H6 l (.lst [])) d (tdO P w d (kvs6++[(Str.ofString "undo",V.ref l)]))=H7 from eH]
  clear e1 e2 e3 eH eK hl
  refine ⟨sz_0,λ l hl=>?_⟩
  obtain ⟨e1,e2,e3,H8,kvs8,eH,eK,S8,P8,d8,T8⟩:=zwd (P:=P) (w:=w) (k := "again") (ks:=[]) (l:=l) hd0 S7 P7 d7 T7 hl (by decide +kernel) (by decide)
  refine ⟨_,rfl,d,kvs7,_,rfl,e1,rfl,e2,e3,?_⟩
  rw [show upd (upd H7 l (.lst [])) d (tdO P w d (kvs7++[(Str.ofString "again",V.ref l)]))=H8 from eH]
  clear e1 e2 e3 eH eK hl
  refine ⟨sz_1,λ l hl=>?_⟩
  obtain ⟨e1,e2,e3,H9,kvs9,eH,eK,S9,P9,d9,T9⟩:=zwd (P:=P) (w:=w) (k := "reload") (ks:=["nought"]) (l:=l) hd0 S8 P8 d8 T8 hl (by decide +kernel) (by decide)
  refine ⟨_,rfl,d,kvs8,_,rfl,e1,rfl,e2,e3,?_⟩
  rw [show upd (upd H8 l (.lst [V.str (Str.ofString "nought")])) d (tdO P w d (kvs8++[(Str.ofString "reload",V.ref l)]))=H9 from eH]
  clear e1 e2 e3 eH eK hl
  have TE:TabL H9 kvs9 LKS:=T9
  clear T9
  refine ⟨_,rfl,_,rfl,z,d,_,rfl,rfl,d9,_,rfl,?_⟩
  have kl:zbe z=zbe z:=rfl
  conv at kl=>rhs;unfold zbe
  rcases TE.at (z:=z) with ⟨e1,e2⟩ | ⟨l,p,e1,e2,hl⟩
  ·rw [e1]
   rw [e2] at kl
   exact iteT (q _ _ (.inl ⟨rfl,kl⟩) S9 P9)
  rw [e1]
  rw [e2] at kl
  have pm:p.2.length≤3:=by
   have al:∀ p∈LKS,p.2.length≤3:=by decide +kernel
   exact al p (List.mem_of_find?_eq_some e2)
  refine iteF ⟨sz_1,λ lx hx=>?_⟩
  have hlx:(upd H9 lx (.lst [V.str "one"])) l=some (.lst (p.2.map V.str)):=(zca hx) _ _ hl
  have hdx:(upd H9 lx (.lst [V.str "one"])) d=some (tdO P w d kvs9):=(zca hx) _ _ d9
  refine ⟨_,rfl,_,rfl,z,d,_,.ref l,rfl,rfl,hdx,e1,lx,l,_,_,rfl,rfl,upd_same,hlx,?_,λ ly hy=>?_⟩
  ·rw [List.length_map]
   exact sm1 ((by show 1+p.2.length≤1000;omega))
  exact q _ _ (.inr ⟨ly, "one" :: p.2,rfl,upd_same,kl⟩) ((S9.trans (zca hx)).trans (zca hy)) (P9.lst).lst
theorem sc_q5:FnScope ["_law_row", "_law_words", "_law_kinds_here", "_law_texts", "_law_parts", "_law_kind", "_law_text"] ["_law_row"] (zja s_q5):=by walk_at "sc"
theorem zsu (T:Txt w K mg A) (G_q19:zho P w K mg B A) (G_q13:zfq P w K mg B A):znu P w K mg B A:=by
 have B_q19:=T.b_q19
 have B_q13:=T.b_q13
 refine T.F_q5.okN sc_q5 (λ vs H Q E h=>?_) (λ _ _ _ _ H vs Q E hr h=>?_)
 ·obtain ⟨_,a,⟨rfl,_⟩,_⟩:=h
  rfl
 ·obtain ⟨hp,z,⟨rfl,hz⟩,q,qe⟩:=h
  refine ⟨_,(zba (zsa (i:=1) sc_q5.nd rfl (Or.inl rfl) (zue PySem.F.plainAttrs_str PySem.F.slot_str_split PySem.F.type_str_split zod (pv 0) (zaa zda zea)))
   (zba (zsa (i:=2) sc_q5.nd rfl (Or.inl rfl) (zma G_q13 (hr.mono (by decide)) rfl T.g_q13 T.k_q13 B_q13 .nil zcd (zaa (zle zyb (pv 1) zha (λ _ _=>rfl)) zea)))
   (zba (zmb (zia zkh (pv 2) zrb (zta _)) (zga (zpa zrb)) zla)
   (zba (zsa (i:=3) sc_q5.nd rfl (Or.inl rfl) (zua zob (pv 1) (zza zha) zeb))
   (zba (zmb (PW.pt (zqh (zia zdd (zle zyb (pv 2) (zwv zls zha) (λ _ _=>rfl)) zda (zta _)) (zaf (zia zkv (zva zra rfl T.n_len (by decide +kernel) (zaa (pv 3) zea)) (zva zra rfl T.n_len (by decide +kernel) (zaa (pv 2) zea)) (zta _))))) (zga (zsa (i:=3) sc_q5.nd rfl (Or.inl rfl) (zka zic (zua zob (pv 3) zeb (zza (zka zmk (zva zra rfl T.n_len (by decide +kernel) (zaa (pv 2) zea)) zha))) (zib (zaa (zue PySem.F.plainAttrs_str PySem.F.slot_str_join PySem.F.type_str_join zmf zda (zaa (zua zob (pv 3) (zza (zka zmk (zva zra rfl T.n_len (by decide +kernel) (zaa (pv 2) zea)) zha)) zeb) zea)) zea))))) zla)
   (zba (zmb (zia zvm (zva zra rfl T.n_len (by decide +kernel) (zaa (pv 3) zea)) (zva zra rfl T.n_len (by decide +kernel) (zaa (pv 2) zea)) (zta _)) (zga (zpa zrb)) zla)
   (zba (zsa (i:=4) sc_q5.nd rfl (Or.inl rfl) (zib zea))
   (zba (zqp PassesOwn.never rfl (zbp false rfl T.n_zip (by decide +kernel) (zaa (pv 2) (zaa (pv 3) zea))) (zhh rfl (zxa (zab (i:=5) sc_q5.nd rfl (Or.inl rfl)) (zxa (zab (i:=6) sc_q5.nd rfl (Or.inl rfl)) zjd))) (zga (zsa (i:=4) sc_q5.nd rfl (Or.inl rfl) (zka zic (pv 4) (zma G_q19 (hr.mono (by decide)) rfl T.g_q19 T.k_q19 B_q19 .nil zcd (zaa (pv 5) (zaa (pv 6) zea)))))))
   (zba (zmb (zia zvm (zva zra rfl T.n_len (by decide +kernel) (zaa (pv 4) zea)) (zva zra rfl T.n_len (by decide +kernel) (zaa (pv 2) zea)) (zta _)) (zga (zpa zrb)) zla)
   (zba (zmb (zia zyg (zle zyb (pv 1) zha (λ _ _=>rfl)) (zjc (zaa zda (zaa zda (zaa zda (zaa zda zea))))) (by rfl)) (zga (zpa (zka zvg (zjc (zaa (zle zyb (pv 1) zha (λ _ _=>rfl)) zea)) (zfb zub rfl T.n_tuple (by decide +kernel) (zaa (pv 4) zea))))) zla)
   (zga (zpa (zjc (zaa zda (zaa (zle zyb (pv 4) zha (λ _ _=>rfl)) (zaa (zka zvg (zjc (zaa (zle zyb (pv 1) zha (λ _ _=>rfl)) zea)) (zfb zub rfl T.n_tuple (by decide +kernel) (zaa (zua zob (pv 4) (zza zha) zeb) zea))) zea)))))))))))))))),?_⟩
  have hz6:=hz.1
  have sl:=split_le z " "
  have hps:∀ p∈Txt.split z " ",okZ p:=λ p hp=>⟨Nat.le_trans (zgd hp) hz.1,zfl (c:=32) hz.2 hp⟩
  have hne:Txt.split z " " ≠ []:=zqc z 32
  have jd0:=λ n=>zgf z n
  have swt:=split_weight z " " (by decide)
  refine ⟨_,rfl,rfl,z,_,rfl,rfl,by decide,by omega,λ l1 hp1=>?_⟩
  obtain ⟨w0,l,hs⟩:∃ w l,Txt.split z " " = w::l:=by
   cases e:Txt.split z " " with
   | nil=>exact absurd e hne
   | cons a b=>exact ⟨a,b,rfl⟩
  rw [hs] at sl hps swt ⊢
  have jd:∀ n,okZ (Str.join ⟨#[32]⟩ (l.drop n)):=λ n=>⟨by have:=jd0 (n+1);rw [hs,List.drop_succ_cons] at this;exact Nat.le_trans this hz.1,by rw [← zqi];exact zvl (zbg _) λ p hp=>(hps p (List.mem_cons_of_mem _ (List.mem_of_mem_drop hp))).2⟩
  generalize hH1:upd H l1 (HO.lst _)=H1
  have s1:Same H H1:=hH1 ▸ zca hp1
  have P1:Plain H1:=hH1 ▸ hp.lst
  have h1:=(congrFun hH1 l1).symm.trans upd_same
  refine ⟨_,rfl,l1,_,_,.str w0,rfl,rfl,SqL.of h1,at0,P1,w0,rfl,λ v H2 hv s2 P2=>?_,λ _ _ h=>h.elim⟩
  rcases hv with ⟨rfl,e⟩ | ⟨lk,ls,rfl,hk,ek⟩
  ·refine ⟨_,rfl,rfl,_,rfl,zpn rfl ?_⟩
   exact q _ _ (.inl ⟨rfl,zup hs e⟩) (s1.trans s2) P2
  refine ⟨_,rfl,rfl,_,rfl,zsp (by intro z;cases z) ?_⟩
  obtain ⟨ks,hsh,rfl,hdn,hks,hlw⟩:=zdh ek
  have rt:=zok hs hsh hks
  obtain ⟨kl1,kl4⟩:=(zuc hsh).1
  refine ⟨_,rfl,_,rfl,l1,_,rfl,SqL.of (s2 _ _ h1),λ l3 hp3=>?_⟩
  rw [show cutV ((w0::l).map V.str) (some 1) none=l.map V.str by rw [zse (by decide)];rfl]
  generalize hH3:upd H2 l3 (HO.lst _)=H3
  have s3:Same H2 H3:=hH3 ▸ zca hp3
  have P3:Plain H3:=hH3 ▸ P2.lst
  have h3:=(congrFun hH3 l3).symm.trans upd_same
  have hk3:=s3 _ _ hk
  have S3:=(s1.trans s2).trans s3
  obtain ⟨k0,kl,hkk⟩:∃ k0 kl,ks=k0++[kl]:=by
   have h0:ks≠[]:=λ e=>by rw [e] at kl1;exact absurd kl1 (by decide)
   exact ⟨ks.dropLast,ks.getLast h0,(List.dropLast_concat_getLast h0).symm⟩
  apply zdu (α:=Addr) (β:=Hp) (ok:=λ lt He=>Same H3 He∧Plain He∧He lt=some (.lst ((zkc ks l).map V.str)))
  ·intro R
   have hlw:=hlw
   rw [hkk,List.map_append,List.getLast?_concat,show [kl].map lawK=[lawK kl] from rfl,List.getLast?_concat] at hlw
   have hk3':=hk3
   rw [hkk,List.map_append,List.map_append] at hk3'
   refine ⟨_,rfl,_,rfl,lk,_,_,_,rfl,rfl,SqL.of hk3',ztm _ _,rfl,_,rfl,zvb (λ hw=>?_) (λ hw=>?_)⟩
   ·have hw2:kl = "words" := Option.some.inj (hlw.mp (by rw [V.str.inj hw]))
    have kn:ks.length=k0.length+1:=by rw [hkk,List.length_append];rfl
    refine ⟨_,rfl,l3,_,rfl,.inl (SqL.of h3),_,rfl,lk,_,rfl,.inl (SqL.of hk3),_,_,rfl,rfl,_,rfl,zvb (λ hge=>?_) (λ hge=>?_)⟩
    ·rw [List.length_map,List.length_map,List.length_map] at hge
     have e:zkc ks l=l.take k0.length++[Str.join ⟨#[32]⟩ (l.drop k0.length)]:=by
      unfold zkc
      rw [if_pos ⟨by rw [hkk,List.getLast?_concat,hw2],by omega⟩,kn,Nat.add_sub_cancel]
     have ei:((((ks.map lawK).map V.str).length:Nat):Int) - 1=(k0.length:Int):=by rw [List.length_map,List.length_map,kn];omega
     refine ⟨_,rfl,_,rfl,lk,_,rfl,.inl (SqL.of hk3),_,_,rfl,rfl,_,rfl,l3,_,rfl,SqL.of h3,λ l4 hp4=>?_⟩
     rw [ei,zgn (by omega),Int.toNat_natCast,← List.map_take]
     generalize hH4:upd H3 l4 (HO.lst _)=H4
     have s4:Same H3 H4:=hH4 ▸ zca hp4
     have P4:Plain H4:=hH4 ▸ P3.lst
     have h4:=(congrFun hH4 l4).symm.trans upd_same
     refine ⟨rfl,_,rfl,_,rfl,lk,_,rfl,.inl (SqL.of (s4 _ _ hk3)),_,_,rfl,rfl,_,rfl,l3,_,rfl,SqL.of (s4 _ _ h3),λ l5 hp5=>?_⟩
     rw [ei,zse (by omega),Int.toNat_natCast,← List.map_drop]
     generalize hH5:upd H4 l5 (HO.lst _)=H5
     have s5:Same H4 H5:=hH5 ▸ zca hp5
     have P5:Plain H5:=hH5 ▸ P4.lst
     have h5:=(congrFun hH5 l5).symm.trans upd_same
     have wj:((l.drop k0.length).map (·.length)).sum+(l.drop k0.length).length * (Str.ofString " ").length≤16777216:=by
      have n1:(Str.ofString " ").length=1:=rfl
      have u:=zdc (List.drop_sublist k0.length l)
      unfold sumL at u
      rw [List.map_cons,List.sum_cons,List.length_cons] at swt
      rw [n1,List.length_drop]
      omega
     refine ⟨_,l5,l.drop k0.length,rfl,rfl,SqL.of h5,wj,sz_1,λ l6 hp6=>?_⟩
     rw [zqi]
     generalize hH6:upd H5 l6 (HO.lst _)=H6
     have s6:Same H5 H6:=hH6 ▸ zca hp6
     have P6:Plain H6:=hH6 ▸ P5.lst
     have h6:=(congrFun hH6 l6).symm.trans upd_same
     refine ⟨l4,l6,_,_,rfl,rfl,(s5.trans s6) _ _ h4,h6,?_,λ l7 hp7=>?_⟩
     ·rw [List.length_map]
      exact sm1 ((by show (l.take k0.length).length+1≤1000;rw [List.length_take];omega))
     rw [show (l.take k0.length).map V.str++[V.str (Str.join ⟨#[32]⟩ (l.drop k0.length))]=(l.take k0.length++[Str.join ⟨#[32]⟩ (l.drop k0.length)]).map V.str by rw [List.map_append];rfl]
     generalize hH7:upd H6 l7 (HO.lst _)=H7
     have s7:Same H6 H7:=hH7 ▸ zca hp7
     have P7:Plain H7:=hH7 ▸ P6.lst
     have h7:=(congrFun hH7 l7).symm.trans upd_same
     exact R l7 H7 ⟨((s4.trans s5).trans s6).trans s7,P7,by rw [e];exact h7⟩
    ·have e:zkc ks l=l:=if_neg λ x=>hge (by rw [List.length_map,List.length_map,List.length_map];have:=x.2;omega)
     exact R l3 H3 ⟨Same.refl _,P3,by rw [e];exact h3⟩
   ·have e:zkc ks l=l:=if_neg λ x=>hw (by have:=hlw.mpr (by rw [← x.1,hkk,List.getLast?_concat]);rw [Option.some.inj this])
    exact R l3 H3 ⟨Same.refl _,P3,by rw [e];exact h3⟩
  rintro lt He ⟨Se,Pe,hte⟩
  have okt:∀ t∈zkc ks l,okZ t:=by
   unfold zkc
   split
   ·intro t ht
    rcases List.mem_append.mp ht with h | h
    ·exact hps t (List.mem_cons_of_mem _ (List.mem_of_mem_take h))
    ·rw [List.mem_singleton.mp h]
     exact jd _
   ·exact λ t ht=>hps t (List.mem_cons_of_mem _ ht)
  have hkE:=Se _ _ hk3
  have h1E:=((s2.trans s3).trans Se) _ _ h1
  have SE:=S3.trans Se
  refine ⟨_,rfl,lt,_,rfl,.inl (SqL.of hte),_,rfl,lk,_,rfl,.inl (SqL.of hkE),rfl,_,rfl,zfj (λ hne=>?_) (λ he=>?_)⟩
  ·rw [List.length_map,List.length_map,List.length_map] at hne
   exact q _ _ (.inl ⟨rfl,by unfold zsf;rw [rt,if_neg (λ e=>hne (by rw [e]))];rfl⟩) SE Pe
  rw [List.length_map,List.length_map,List.length_map] at he
  have he:(zkc ks l).length=ks.length:=by have:=V.int.inj he;omega
  rw [if_pos he] at rt
  generalize zkc ks l=ts at okt hte he rt
  refine ⟨sz_0,λ lp0 hpf=>?_⟩
  generalize hHf:upd He lp0 (HO.lst _)=Hf
  have sf:Same He Hf:=hHf ▸ zca hpf
  have Pf:Plain Hf:=hHf ▸ Pe.lst
  have hf:=(congrFun hHf lp0).symm.trans upd_same
  have hkF:=sf _ _ hkE
  have htF:=sf _ _ hte
  have kz:((ks.map lawK).zip ts).length=ks.length:=by rw [List.length_zip,List.length_map,he];omega
  refine ⟨_,rfl,_,rfl,lk,lt,rfl,⟨_,SqL.of hkF⟩,⟨_,SqL.of htF⟩,zno (b:=false) (xs:=(ks.map lawK).map V.str) (ys:=ts.map V.str) (λ i σ Hc=>∃ (lp:Addr) (vs:List V) (o5 o6:Option V),σ=[some (.str z),some (.ref l1),some (.ref lk),some (.ref lt),some (.ref lp),o5,o6]∧Plain Hc∧Same Hf Hc∧Hc lp=some (.lst vs)∧DVs K Hc (zpc (((ks.map lawK).zip ts).take i)) vs) ⟨lp0,[],_,_,rfl,Pf,Same.refl _,hf,rfl⟩ ?_ ?_ ?_ ?_⟩
  ·rw [List.length_map,List.length_map,List.length_map,he]
  ·rintro i σ Hc _ ⟨lp,vs,o5,o6,rfl,Pc,Sc,_,_⟩
   exact ⟨SqL.of (Sc _ _ hkF),SqL.of (Sc _ _ htF)⟩
  ·rintro i x y T' σ Hc hx hy ⟨lp,vs,o5,o6,rfl,Pc,Sc,hlp,hvs⟩ hT
   rw [List.getElem?_map] at hx hy
   obtain ⟨k,hki,rfl⟩:=Option.map_eq_some_iff.mp hx
   obtain ⟨t,hti,rfl⟩:=Option.map_eq_some_iff.mp hy
   have hil:i<ks.length:=by
    have:=(List.getElem?_eq_some_iff.mp hti).1
    omega
   have hpi:((ks.map lawK).zip ts)[i]? = some (k,t):=List.getElem?_zip_eq_some.mpr ⟨hki,hti⟩
   refine ⟨T',_,rfl,SqT.of upd_same,rfl,_,_,rfl,_,_,rfl,rfl,?_⟩
   refine ⟨_,rfl,_,rfl,_,rfl,Pc.tup,(k,t),⟨rfl,okt t (List.mem_of_getElem? hti)⟩,λ v H8 hv s8 P8=>?_,λ _ _ h=>h.elim⟩
   obtain ⟨l8,us,rfl,h8,hus⟩:=hv
   have sT:=(zca (o := .tup [V.str k,V.str t]) hT).trans s8
   have vl:vs.length≤i:=by
    rw [hvs.length]
    have:=(zoe (((ks.map lawK).zip ts).take i)).1
    rw [List.length_take] at this
    omega
   have ul:us.length≤1:=by
    rw [hus.length]
    cases zsc k t <;> simp
   refine ⟨lp,l8,_,_,rfl,rfl,sT _ _ hlp,h8,sm1 ((by omega)),λ l9 hp9=>?_⟩
   refine ⟨l9,_,_,_,rfl,P8.lst,(Sc.trans sT).trans (zca hp9),upd_same,?_⟩
   rw [zbd _ hpi]
   exact DVs.same (zca hp9) _ _ ((DVs.same sT _ _ hvs).append hus)
  rintro σ Hc ⟨lp,vs,o5,o6,rfl,Pc,Sc,hlp,hvs⟩
  rw [List.length_map,List.length_map,List.take_of_length_le (by omega)] at hvs
  have Sfc:=sf.trans Sc
  have hkc:=Sc _ _ hkF
  have h1c:=Sfc _ _ h1E
  have SC:=SE.trans Sfc
  obtain ⟨pl1,pl2,pl3⟩:=zoe ((ks.map lawK).zip ts)
  rw [zkg ks ts hks] at pl2 pl3
  refine ⟨_,rfl,lp,_,rfl,.inl (SqL.of hlp),_,rfl,lk,_,rfl,.inl (SqL.of hkc),rfl,_,rfl,zfj (λ hne=>?_) (λ heq=>?_)⟩
  ·rw [List.length_map,List.length_map,hvs.length] at hne
   cases eo:zbb (λ p:Str×Str=>zgb p.1 p.2) (ks.zip ts) with
   | none =>
    exact q _ _ (.inl ⟨rfl,by unfold zsf;rw [rt,eo];rfl⟩) SC Pc
   | some ds =>
    exfalso
    have:=zec eo
    rw [List.length_zip] at this
    exact hne (by rw [pl3 ds eo,this,he,Nat.min_self])
  rw [List.length_map,List.length_map,hvs.length] at heq
  have heq:(zpc ((ks.map lawK).zip ts)).length=ks.length:=by have:=V.int.inj heq;omega
  obtain ⟨ds,eo⟩:∃ ds,zbb (λ p:Str×Str=>zgb p.1 p.2) (ks.zip ts)=some ds:=by
   cases eo:zbb (λ p:Str×Str=>zgb p.1 p.2) (ks.zip ts) with
   | none=>exact absurd (pl2 eo) (by omega)
   | some ds=>exact ⟨ds,rfl⟩
  rw [pl3 ds eo] at hvs heq
  rw [eo] at rt
  have slp:zsf z=zgl (w0,ds):=by unfold zsf;rw [rt];rfl
  have flt:∀ d∈ds,zto d:=λ d hd=>by
   have hd2:=hd
   obtain ⟨p,hp',e⟩:=zke eo d hd2
   have hpz:=List.of_mem_zip hp'
   rw [← zqf (hks p.1 hpz.1)] at e
   exact zlj e (okt p.2 hpz.2).2
  have okw0:PyData.strOk w0=true:=(hps w0 List.mem_cons_self).2
  unfold zgl at slp
  dsimp only at slp
  refine ⟨_,rfl,l1,_,_,.str w0,rfl,rfl,SqL.of h1c,at0,sz_4,λ tg hpg=>?_⟩
  generalize hHg:upd Hc tg (HO.tup _)=Hg
  have sg:Same Hc Hg:=hHg ▸ zca hpg
  have Pg:Plain Hg:=hHg ▸ Pc.tup
  have hg:=(congrFun hHg tg).symm.trans upd_same
  refine ⟨tg,_,rfl,.inr (SqT.of hg),rfl,rfl,_,rfl,?_⟩
  show if inV (.str w0) (NTS.map V.str)=true then _ else _
  rw [zff]
  refine zvb (λ hnt=>?_) (λ hnt=>?_)
  ·have nd:w0∉DDS:=by
    have al:∀ w∈NTS,w∉DDS:=by decide +kernel
    exact al w0 hnt
   rw [if_neg nd,if_pos hnt] at slp
   refine ⟨_,rfl,l1,_,_,.str w0,rfl,rfl,SqL.of (sg _ _ h1c),at0,sz_1,λ tk hpk=>?_⟩
   generalize hHk:upd Hg tk (HO.tup _)=Hk
   have sk:Same Hg Hk:=hHk ▸ zca hpk
   have Pk:Plain Hk:=hHk ▸ Pg.tup
   have hk:=(congrFun hHk tk).symm.trans upd_same
   refine ⟨_,rfl,lp,_,rfl,.inl ⟨SqL.of ((sg.trans sk) _ _ hlp),λ tm hpm=>?_⟩⟩
   generalize hHm:upd Hk tm (HO.tup _)=Hm
   have sm:Same Hk Hm:=hHm ▸ zca hpm
   have Pm:Plain Hm:=hHm ▸ Pk.tup
   have hm:=(congrFun hHm tm).symm.trans upd_same
   refine ⟨tk,tm,_,_,rfl,rfl,SqT.of (sm _ _ hk),SqT.of hm,sm1 ((by show 1+vs.length≤1000;rw [hvs.length];omega)),λ tn Hn hqn sn pn=>?_⟩
   have Scn:=((sg.trans sk).trans sm).trans sn
   exact q _ _ (.inr ⟨.tuple (.str w0::ds),⟨tn,_,rfl,hqn,_,_,rfl,rfl,DVs.same Scn _ _ hvs⟩,slp,zbh okw0 flt⟩) (SC.trans Scn) (pn Pm)
  have hdd:w0∈DDS:=hdn.resolve_right hnt
  rw [if_pos hdd] at slp
  obtain ⟨d0,dr,rfl⟩:∃ d0 dr,ds=d0::dr:=by
   cases ds with
   | nil=>exfalso;have heq:0=ks.length:=heq;omega
   | cons a b=>exact ⟨a,b,rfl⟩
  obtain ⟨x0,xr,rfl,hx0,hxr⟩:=id hvs
  have hxl:xr.length≤4:=by rw [hxr.length];rw [List.length_cons] at heq;omega
  refine ⟨_,rfl,lp,_,_,x0,rfl,rfl,SqL.of (sg _ _ hlp),at0,_,rfl,l1,_,_,.str w0,rfl,rfl,SqL.of (sg _ _ h1c),at0,sz_1,λ tk hpk=>?_⟩
  generalize hHk:upd Hg tk (HO.tup _)=Hk
  have sk:Same Hg Hk:=hHk ▸ zca hpk
  have Pk:Plain Hk:=hHk ▸ Pg.tup
  have hk:=(congrFun hHk tk).symm.trans upd_same
  refine ⟨_,rfl,_,rfl,lp,_,rfl,SqL.of ((sg.trans sk) _ _ hlp),λ lo hpo=>?_⟩
  rw [show cutV (x0::xr) (some 1) none=xr by rw [zse (by decide)];rfl]
  generalize hHo:upd Hk lo (HO.lst _)=Ho
  have so:Same Hk Ho:=hHo ▸ zca hpo
  have Po:Plain Ho:=hHo ▸ Pk.lst
  have ho:=(congrFun hHo lo).symm.trans upd_same
  refine ⟨lo,_,rfl,.inl ⟨SqL.of ho,λ tw hpw=>?_⟩⟩
  generalize hHw:upd Ho tw (HO.tup _)=Hw
  have sw:Same Ho Hw:=hHw ▸ zca hpw
  have Pw:Plain Hw:=hHw ▸ Po.tup
  have hw:=(congrFun hHw tw).symm.trans upd_same
  refine ⟨tk,tw,_,_,rfl,rfl,SqT.of ((so.trans sw) _ _ hk),SqT.of hw,sm1 ((by show 1+xr.length≤1000;omega)),λ tn Hn hqn sn pn=>?_⟩
  have Pn:=pn Pw
  refine ⟨sz_3,λ tr hpr=>?_⟩
  generalize hHr:upd Hn tr (HO.tup _)=Hr
  have sr:Same Hn Hr:=hHr ▸ zca hpr
  have Pr:Plain Hr:=hHr ▸ Pn.tup
  have hr:=(congrFun hHr tr).symm.trans upd_same
  have Scr:=((((sg.trans sk).trans so).trans sw).trans sn).trans sr
  exact q _ _ (.inr ⟨.tuple [.str "deed",d0,.tuple (.str w0::dr)],⟨tr,_,rfl,SqT.of hr,_,_,rfl,rfl,_,_,rfl,DV.same Scr d0 _ hx0,_,_,rfl,⟨tn,_,rfl,sr.seqT hqn,_,_,rfl,rfl,DVs.same Scr _ _ hxr⟩,rfl⟩,slp,zah okw0 flt⟩) (SC.trans Scr) Pr
theorem sc_q17:FnScope ["_law_row", "_law_found", "_law_refusal", "e", "_law_due"] ["_law_row"] (zja zbt):=by walk_at "sc"
theorem zst (T:Txt w K mg A) (G_q0:zgu P w K mg B A) (G_q5:znu P w K mg B A):zuo P w K mg B A:=by
 have B_q0:=T.b_q0
 have B_q5:=T.b_q5
 refine T.F_q17.okN sc_q17 (λ vs H Q E h=>?_) (λ _ _ _ _ H vs Q E hr h=>?_)
 ·obtain ⟨_,a,⟨rfl,_⟩,_⟩:=h
  rfl
 ·obtain ⟨hp,z,⟨rfl,hz⟩,q,qe⟩:=h
  refine ⟨_,(zba (zsa (i:=1) sc_q17.nd rfl (Or.inl rfl) zrb)
   (zba (zsa (i:=2) sc_q17.nd rfl (Or.inl rfl) zrb)
   (zba (zkt (j:=1) (i:=3) sc_q17.nd T.x_DraftError rfl T.g_DraftError ⟨⟨_,_,_,rfl,rfl,rfl⟩⟩ rfl (λ _ _ _ _ hx=>(zdn G_q0 (hr.mono (by decide)) rfl T.g_q0 T.k_q0 B_q0 .nil hx (zaa (pv 0) zea))) (λ _=>(zga (zsa (i:=2) sc_q17.nd rfl (Or.inl rfl) (pv 3)))))
   (zba (zsa (i:=4) sc_q17.nd rfl (Or.inl rfl) (zma G_q5 (hr.mono (by decide)) rfl T.g_q5 T.k_q5 B_q5 .nil zcd (zaa (pv 0) zea)))
   (zba (zmb (zia zsl (pv 4) zrb (zta _)) (zga (zpa (zri (zpd zkh (pv 2) zrb (zta _)) (zfn (zpd (zvt hr.units) (pv 1) (pv 4) (zta _)))))) zla)
   (zba (zmb (PW.pt (zyi (zne (zld (zva zlf rfl T.n_isinstance (by decide +kernel) (zaa (pv 2) (zaa (zxb (v := .ref A.NoText) rfl T.g_NoText rfl) zea))))) (zkf (zne (zld (zva zlf rfl T.n_isinstance (by decide +kernel) (zaa (pv 2) (zaa (zdo (v := .ty "ValueError") rfl T.n_ValueError (by decide +kernel) rfl) zea)))))))) (zga (zpa zrt)) zla)
   (zga (zpa (zor (zva zih rfl T.n_isinstance (by decide +kernel) (zaa (pv 2) (zaa (zjc (zaa (zxb (v := .ref A.NoBuilt) rfl T.g_NoBuilt rfl) (zaa (zxb (v := .ref A.NoPaper) rfl T.g_NoPaper rfl) (zaa (zxb (v := .ref A.NoRow) rfl T.g_NoRow rfl) zea)))) zea)))))))))))),?_⟩
  refine ⟨λ c _ H2=>c = .ref A.NoText∧Same H H2∧Plain H2∧zsf z=none,⟨_,rfl,hp,z,⟨rfl,hz.1⟩,λ u H2 hu s2 P2=>?_,λ C H2 hC s2 P2=>⟨by rw [hC.1],s2,P2,hC.2⟩⟩,λ C y H2 hEX hy=>?_⟩
  ·obtain ⟨d,hd,hb⟩:=hu
   refine ⟨_,rfl,P2,z,⟨rfl,hz⟩,λ v H3 hv s3 P3=>?_,λ _ _ h=>h.elim⟩
   rcases hv with ⟨_,hno⟩ | ⟨d',hd',hb',sh⟩
   ·rw [hno] at hb;cases hb
   rw [hb] at hb'
   cases hb'
   obtain ⟨ds,rfl⟩:=zrh hb
   obtain ⟨t,vs,rfl,_⟩:=id hd'
   refine ⟨_,rfl,rfl,_,rfl,zov (by intro z;cases z) ?_⟩
   refine ⟨_,rfl,rfl,_,rfl,zpn rfl ?_⟩
   refine ⟨_,rfl,_,rfl,.tuple ds,.tuple ds,DV.same s3 _ _ hd,hd',sh,sh,q _ _ ?_ (s2.trans s3) P3⟩
   exact congrArg V.bl (SeqAt.eqvAll_refl ds (SeqAt.canLay_of_shaped sh))
  ·obtain ⟨hC,s2,P2,hno⟩:=hEX
   obtain rfl:C=A.NoText:=by cases hC;rfl
   refine ⟨T.x_NoText,T.m_nd,?_⟩
   refine ⟨_,rfl,?_⟩
   have S2:=s2.upd (s2.free hy) (o:=excO y A.NoText)
   refine ⟨_,rfl,P2.upd trivial,z,⟨rfl,hz⟩,λ v H3 hv s3 P3=>?_,λ _ _ h=>h.elim⟩
   obtain rfl:v = .non:=by
    rcases hv with ⟨e,_⟩ | ⟨d',_,hb',_⟩
    ·exact e
    ·rw [hno] at hb';cases hb'
   refine ⟨_,rfl,rfl,_,rfl,zfw rfl ?_⟩
   refine ⟨_,rfl,_,_,_,_,_,rfl,s3 _ _ upd_same,T.x_NoText,rfl,(by show (if (Value.ref _ == Value.ref _)=true then _ else _)=_;rw [if_pos (beq_self_eq_true _)]),true,rfl,iteF ?_⟩
   refine ⟨_,rfl,_,_,_,_,_,rfl,s3 _ _ upd_same,T.x_NoText,rfl,T.kv,true,rfl,iteF ?_⟩
   refine ⟨_,rfl,(sz_3),λ tp htp=>?_⟩
   refine ⟨_,_,_,_,_,_,rfl,by rw [zwa (zhb (s3 _ _ upd_same) htp)];exact s3 _ _ upd_same,T.x_NoText,upd_same,rfl,T.kt,_,rfl,q _ _ rfl ((S2.trans s3).trans (zca htp)) P3.tup⟩
theorem sc_q14:FnScope ["_law_cell", "_law_k", "_law_one", "_law_two", "_law_three", "_law_four"] ["_law_cell", "_law_k"] (zja zjs):=by walk_at "sc"
theorem zks (T:Txt w K mg A)  : zcq P w K mg B A:=by
 refine FnOk.pure (T.F_q14.okN sc_q14 (λ vs H Q E h=>?_) (λ _ _ _ _ H vs Q E hr h=>?_))
 ·obtain ⟨_,a,⟨rfl,_⟩,_⟩:=h
  rfl
 ·obtain ⟨hp,⟨c,k⟩,⟨hv,h0,h1⟩,q⟩:=h
  obtain rfl:vs=[.int c,.int k]:=hv
  dsimp only at h0 h1
  refine ⟨_,(zba (zsa (i:=2) sc_q14.nd rfl (Or.inl rfl) (zka ztb (zka ztb (zka zsb (zka zde (zka ztb (zka zsb (pv 0) zha) zha) zha) zha) (zka zde (zka zde (pv 1) (pv 1)) zha)) (pv 1)))
   (zba (zsa (i:=3) sc_q14.nd rfl (Or.inl rfl) (zka zlb (zka zsb (zka zde (pv 2) zha) zha) zha))
   (zba (zsa (i:=4) sc_q14.nd rfl (Or.inl rfl) (zka zlb (zka zsb (zka zde (pv 2) zha) zha) zha))
   (zba (zsa (i:=5) sc_q14.nd rfl (Or.inl rfl) (zka zlb (zka zsb (zka ztb (zka zde (pv 3) zha) (pv 2)) zha) zha))
   (zga (zpa (zka ztb (zka zde (zka ztb (zka zde (pv 5) zha) (pv 4)) zha) (pv 3)))))))),?_⟩
  walk_at "rd"
  refine ⟨Or.inr ⟨by omega,by omega⟩,?_⟩
  walk_at "rd"
  exact q _ _ ⟨_,rfl⟩ (Same.refl _)
theorem sc_law:FnScope ["_law_script", "_law_k", "_law_cell", "_law_number_here", "_law_row"] ["_law_script"] (zja znn):=by walk_at "sc"
theorem zhs (T:Txt w K mg A) (G_q18:zqo P w K mg B A) (G_q10:zln P w K mg B A) (G_q1:zbu P w K mg B A) (G_q17:zuo P w K mg B A) (G_q14:zcq P w K mg B A):zos P w K mg B A:=by
 have B_q18:=T.b_q18
 have B_q10:=T.b_q10
 have B_q1:=T.b_q1
 have B_q17:=T.b_q17
 have B_q14:=T.b_q14
 refine T.F_law.okN sc_law (λ vs H Q E h=>?_) (λ _ _ _ _ H vs Q E hr h=>?_)
 ·obtain ⟨a,ns,rfl,_⟩:=h
  rfl
 ·obtain ⟨a,ns,rfl,hS,hlen,kq,hP⟩:=h
  refine ⟨_,(zba (zqp PassesOwn.never rfl (zgp rfl T.n_enumerate (by decide +kernel) (zaa (zua zob (pv 0) zeb (zza zha)) zea)) (zhh rfl (zxa (zab (i:=1) sc_law.nd rfl (Or.inl rfl)) (zxa (zab (i:=2) sc_law.nd rfl (Or.inl rfl)) zjd))) (zba (zsa (i:=3) sc_law.nd rfl (Or.inl rfl) (zka zlb (pv 2) zha))
   (zba (zmb (zia zdd (zka zsb (pv 2) zha) zha (zta _)) (zga (zsa (i:=3) sc_law.nd rfl (Or.inl rfl) (zma G_q14 (hr.mono (by decide)) rfl T.g_q14 T.k_q14 B_q14 .nil zcd (zaa (pv 2) (zaa (pv 1) zea))))) zla)
   (zba (zsa (i:=4) sc_law.nd rfl (Or.inl rfl) (zma G_q18 (hr.mono (by decide)) rfl T.g_q18 T.k_q18 B_q18 .nil zcd (zaa (pv 3) zea)))
   (zba (zmb (PW.pt (zyi (zne (zld (zma G_q17 (hr.mono (by decide)) rfl T.g_q17 T.k_q17 B_q17 .nil zcd (zaa (pv 4) zea)))) (zkf (zne (zld (zma G_q17 (hr.mono (by decide)) rfl T.g_q17 T.k_q17 B_q17 .nil zcd (zaa (zma G_q1 (hr.mono (by decide)) rfl T.g_q1 T.k_q1 B_q1 .nil zcd (zaa (pv 4) (zaa (zka ztb (zka zlb (pv 3) zha) (pv 1)) zea))) zea))))))) (zga (zpa zrt)) zla)
   (zga (zmb (zne (zld (zma G_q17 (hr.mono (by decide)) rfl T.g_q17 T.k_q17 B_q17 .nil zcd (zaa (zma G_q10 (hr.mono (by decide)) rfl T.g_q10 T.k_q10 B_q10 .nil zcd (zaa (pv 4) (zaa (zka ztb (zka ztb (zka zde zha (zka zsb (zka zlb (pv 3) zha) zha)) zha) (zka zde zha (pv 1))) zea))) zea)))) (zga (zpa zrt)) zla)))))))
   (zga (zpa (zri (zma G_q17 (hr.mono (by decide)) rfl T.g_q17 T.k_q17 B_q17 .nil zcd (zaa zda zea)) (zri (zma G_q17 (hr.mono (by decide)) rfl T.g_q17 T.k_q17 B_q17 .nil zcd (zaa zda zea)) (zri (zma G_q17 (hr.mono (by decide)) rfl T.g_q17 T.k_q17 B_q17 .nil zcd (zaa zda zea)) (zfn (zma G_q17 (hr.mono (by decide)) rfl T.g_q17 T.k_q17 B_q17 .nil zcd (zaa zda zea))))))))),?_⟩
  refine ⟨_,rfl,_,rfl,a,_,rfl,hS,λ p hp=>⟨p,rfl,⟨_,SqL.of upd_same⟩,?_⟩⟩
  refine zcn (K:=K) (a:=p) (xs:=cutV (ns.map V.int) none (some 63)) (λ i σ H2=>∃ o1 o2 o3 o4,σ=[some (.ref a),o1,o2,o3,o4]∧Plain H2∧H2 p=some (.lst (cutV (ns.map V.int) none (some 63))))
   ⟨_,_,_,_,rfl,hP.lst,upd_same⟩ (λ i σ H2 _ ⟨_,_,_,_,_,_,e⟩=>SqL.of e) ?_ ?_
  ·rintro i x T' σ H2 hx ⟨o1,o2,o3,o4,rfl,hP2,hp2⟩ hT
   have hi:i<64:=by
    have h1:=(List.getElem?_eq_some_iff.mp hx).1
    have h2:=zed (ns.map V.int) none (some 63)
    rw [List.length_map] at h2
    omega
   obtain ⟨cell,rfl⟩:=zko hx
   refine ⟨T',_,rfl,SqT.of upd_same,rfl,_,_,rfl,_,_,rfl,rfl,?_⟩
   have PT:Plain (upd H2 T' (.tup [.int i,.int cell])):=hP2.tup
   have hpT:(upd H2 T' (.tup [.int i,.int cell])) p=some (.lst (cutV (ns.map V.int) none (some 63))):=(zca hT) _ _ hp2
   generalize upd H2 T' (.tup [.int i,.int cell])=H3 at PT hpT ⊢
   have okr:∀ (n:Nat) (z:Str),n≤640→okN n z→okZ z:=λ n z hn h=>⟨Nat.le_trans h.1 hn,h.2⟩
   refine ⟨_,rfl,_,_,rfl,rfl,⟨by decide,by decide⟩,?_⟩
   apply join (α:=Int) (ok:=λ _=>True)
   ·intro R
    refine ⟨_,rfl,_,_,rfl,rfl,ip_2,rfl,_,rfl,zvb (λ _=>?_) (λ _=>?_)⟩
    ·refine ⟨_,rfl,_,rfl,PT,(cell,i),⟨rfl,by show (0:Int)≤i;omega,by show (i:Int)≤100;omega⟩,λ v hv=>?_⟩
     obtain ⟨N,rfl⟩:=hv
     exact R N trivial
    ·exact R (cell / 2) trivial
   intro N _
   refine ⟨_,rfl,PT,N,rfl,λ v H4 hv s4 P4=>?_,λ _ _ h=>h.elim⟩
   obtain ⟨z,rfl,hz⟩:=hv
   refine ⟨_,rfl,P4,z,⟨rfl,okr 60 z (by decide) hz⟩,λ v H5 hv s5 P5=>⟨true,hv,iteF ?_⟩,λ _ _ h=>h.elim⟩
   refine ⟨_,rfl,_,rfl,_,_,rfl,rfl,⟨by decide,by decide⟩,_,rfl,_,_,rfl,rfl,P5,(z,N / 11+i),⟨rfl,hz⟩,λ v H6 hv s6 P6=>?_,λ _ _ h=>h.elim⟩
   obtain ⟨y,rfl,hy⟩:=hv
   refine ⟨P6,y,⟨rfl,okr 600 y (by decide) hy⟩,λ v H7 hv s7 P7=>⟨true,hv,iteF ?_⟩,λ _ _ h=>h.elim⟩
   refine ⟨_,rfl,_,rfl,_,_,rfl,rfl,⟨by decide,by decide⟩,_,_,rfl,rfl,ip_9,_,_,rfl,rfl,Or.inl ⟨by decide,by decide⟩,_,_,rfl,rfl,_,rfl,_,_,rfl,rfl,Or.inl ⟨by decide,by decide⟩,_,_,rfl,rfl,P7,(z,_),⟨rfl,hz⟩,λ v H8 hv s8 P8=>?_,λ _ _ h=>h.elim⟩
   obtain ⟨y8,rfl,hy8⟩:=hv
   refine ⟨P8,y8,⟨rfl,okr 600 y8 (by decide) hy8⟩,λ v H9 hv s9 P9=>⟨true,hv,iteF ?_⟩,λ _ _ h=>h.elim⟩
   exact ⟨_,_,_,_,rfl,P9,(((((s4.trans s5).trans s6).trans s7).trans s8).trans s9) _ _ hpT⟩
  ·rintro σ H2 ⟨o1,o2,o3,o4,rfl,hP2,hp2⟩
   have lit:∀ s:String,(Str.ofString s).length≤640→okZ (Str.ofString s):=λ s h=>⟨h,zbg s⟩
   refine ⟨hP2,_,⟨rfl,lit "" (by decide)⟩,λ v H3 hv s3 P3=>⟨true,hv,iteT ?_⟩,λ _ _ h=>h.elim⟩
   refine ⟨P3,_,⟨rfl,lit "put" (by decide)⟩,λ v H4 hv s4 P4=>⟨true,hv,iteT ?_⟩,λ _ _ h=>h.elim⟩
   refine ⟨P4,_,⟨rfl,lit "undo" (by decide)⟩,λ v H5 hv s5 P5=>⟨true,hv,iteT ?_⟩,λ _ _ h=>h.elim⟩
   refine ⟨P5,_,⟨rfl,lit "end" (by decide)⟩,λ v H6 hv s6 P6=>?_,λ _ _ h=>h.elim⟩
   have hv:v = .bl true:=hv
   subst hv
   exact kq _
end
theorem ln_1 {us:List Value} (h:us.length=1):∃ a0,us=[a0]:=match us,h with | [a0],_=>⟨a0,rfl⟩
theorem ln_2 {us:List Value} (h:us.length=2):∃ a0 a1,us=[a0,a1]:=match us,h with | [a0,a1],_=>⟨a0,a1,rfl⟩
set_option maxHeartbeats 0 in
theorem all_mk {l:W.OpenLaw} {w:World} {K:W.Frag} {h:Heap} {mg:Str→Option Value} {fa:Addr} (X:K.In h) (G:h.Ns mainGlobals mg) (hfa:mg "law" = some (.ref fa))
  {f_q26:Addr} {d_q26:FuncData}
  {f_q27:Addr} {d_q27:FuncData}
  {f_q9:Addr} {d_q9:FuncData}
  {f_q23:Addr} {d_q23:FuncData}
  {f_q4:Addr} {d_q4:FuncData}
  {f_q3:Addr} {d_q3:FuncData}
  {f_q20:Addr} {d_q20:FuncData}
  {f_q21:Addr} {d_q21:FuncData}
  {f_q12:Addr} {d_q12:FuncData}
  {f_q8:Addr} {d_q8:FuncData}
  {f_q2:Addr} {d_q2:FuncData}
  {f_q16:Addr} {d_q16:FuncData}
  {f_q6:Addr} {d_q6:FuncData}
  {f_q15:Addr} {d_q15:FuncData}
  {f_q25:Addr} {d_q25:FuncData}
  {f_q0:Addr} {d_q0:FuncData}
  {f_q11:Addr} {d_q11:FuncData}
  {f_q18:Addr} {d_q18:FuncData}
  {f_q24:Addr} {d_q24:FuncData}
  {f_q10:Addr} {d_q10:FuncData}
  {f_q1:Addr} {d_q1:FuncData}
  {f_q7:Addr} {d_q7:FuncData}
  {f_q22:Addr} {d_q22:FuncData}
  {f_q19:Addr} {d_q19:FuncData}
  {f_q13:Addr} {d_q13:FuncData}
  {f_q5:Addr} {d_q5:FuncData}
  {f_q17:Addr} {d_q17:FuncData}
  {f_q14:Addr} {d_q14:FuncData}
  {f_law:Addr} {d_law:FuncData}
  {t_FIGURES:Tok}
  {t_HEAD_OF_ALL:Tok}
  {t_MOST_FIGURES:Tok}
  {t_OUT:Tok}
  {C_DraftError:Addr}
  {C_NoBuilt:Addr}
  {C_NoPaper:Addr}
  {C_NoRow:Addr}
  {C_NoText:Addr}
  {C_NOTES:Addr} {od_NOTES:Option Addr} {sl_NOTES:Array (Option Value)} {n_NOTES:Nat} {t0_NOTES t1_NOTES t2_NOTES t3_NOTES:Tok}
  {C_CHOICES:Addr} {od_CHOICES:Option Addr} {sl_CHOICES:Array (Option Value)} {n_CHOICES:Nat} {t0_CHOICES t1_CHOICES t2_CHOICES:Tok}
  (a_q26:W.nsIn K mainGlobals "is_words" = some (some (.ref f_q26))) (F_q26:Fun K "is_words" "is_words" zcs f_q26 d_q26)
  (a_q27:W.nsIn K mainGlobals "made_of" = some (some (.ref f_q27))) (F_q27:Fun K "made_of" "made_of" zqs f_q27 d_q27)
  (a_q9:W.nsIn K mainGlobals "read_number" = some (some (.ref f_q9))) (F_q9:Fun K "read_number" "read_number" s_q9 f_q9 d_q9)
  (a_q23:W.nsIn K mainGlobals "read_from" = some (some (.ref f_q23))) (F_q23:Fun K "read_from" "read_from" zir f_q23 d_q23)
  (a_q4:W.nsIn K mainGlobals "check_maker" = some (some (.ref f_q4))) (F_q4:Fun K "check_maker" "check_maker" s_q4 f_q4 d_q4)
  (a_q3:W.nsIn K mainGlobals "read_dotted" = some (some (.ref f_q3))) (F_q3:Fun K "read_dotted" "read_dotted" s_q3 f_q3 d_q3)
  (a_q20:W.nsIn K mainGlobals "read_mark" = some (some (.ref f_q20))) (F_q20:Fun K "read_mark" "read_mark" zwr f_q20 d_q20)
  (a_q21:W.nsIn K mainGlobals "read_step" = some (some (.ref f_q21))) (F_q21:Fun K "read_step" "read_step" zcr f_q21 d_q21)
  (a_q12:W.nsIn K mainGlobals "read_place" = some (some (.ref f_q12))) (F_q12:Fun K "read_place" "read_place" zys f_q12 d_q12)
  (a_q8:W.nsIn K mainGlobals "out_version" = some (some (.ref f_q8))) (F_q8:Fun K "out_version" "out_version" s_q8 f_q8 d_q8)
  (a_q2:W.nsIn K mainGlobals "read_version" = some (some (.ref f_q2))) (F_q2:Fun K "read_version" "read_version" s_q2 f_q2 d_q2)
  (a_q16:W.nsIn K mainGlobals "read_words" = some (some (.ref f_q16))) (F_q16:Fun K "read_words" "read_words" zyt f_q16 d_q16)
  (a_q6:W.nsIn K mainGlobals "read_choice" = some (some (.ref f_q6))) (F_q6:Fun K "read_choice" "read_choice" s_q6 f_q6 d_q6)
  (a_q15:W.nsIn K mainGlobals "read_field" = some (some (.ref f_q15))) (F_q15:Fun K "read_field" "read_field" zyq f_q15 d_q15)
  (a_q25:W.nsIn K mainGlobals "read_row" = some (some (.ref f_q25))) (F_q25:Fun K "read_row" "read_row" zdr f_q25 d_q25)
  (a_q0:W.nsIn K mainGlobals "read_slip_row" = some (some (.ref f_q0))) (F_q0:Fun K "read_slip_row" "read_slip_row" s_q0 f_q0 d_q0)
  (a_q11:W.nsIn K mainGlobals "_law_signs" = some (some (.ref f_q11))) (F_q11:Fun K "_law_signs" "_law_signs" zzr f_q11 d_q11)
  (a_q18:W.nsIn K mainGlobals "_law_good" = some (some (.ref f_q18))) (F_q18:Fun K "_law_good" "_law_good" zfs f_q18 d_q18)
  (a_q24:W.nsIn K mainGlobals "_law_odd" = some (some (.ref f_q24))) (F_q24:Fun K "_law_odd" "_law_odd" zis f_q24 d_q24)
  (a_q10:W.nsIn K mainGlobals "_law_worded" = some (some (.ref f_q10))) (F_q10:Fun K "_law_worded" "_law_worded" zrs f_q10 d_q10)
  (a_q1:W.nsIn K mainGlobals "_law_spoiled" = some (some (.ref f_q1))) (F_q1:Fun K "_law_spoiled" "_law_spoiled" s_q1 f_q1 d_q1)
  (a_q7:W.nsIn K mainGlobals "_law_number" = some (some (.ref f_q7))) (F_q7:Fun K "_law_number" "_law_number" s_q7 f_q7 d_q7)
  (a_q22:W.nsIn K mainGlobals "_law_mark" = some (some (.ref f_q22))) (F_q22:Fun K "_law_mark" "_law_mark" zpr f_q22 d_q22)
  (a_q19:W.nsIn K mainGlobals "_law_part" = some (some (.ref f_q19))) (F_q19:Fun K "_law_part" "_law_part" zts f_q19 d_q19)
  (a_q13:W.nsIn K mainGlobals "_law_kinds" = some (some (.ref f_q13))) (F_q13:Fun K "_law_kinds" "_law_kinds" zmt f_q13 d_q13)
  (a_q5:W.nsIn K mainGlobals "_law_judged" = some (some (.ref f_q5))) (F_q5:Fun K "_law_judged" "_law_judged" s_q5 f_q5 d_q5)
  (a_q17:W.nsIn K mainGlobals "_law_right" = some (some (.ref f_q17))) (F_q17:Fun K "_law_right" "_law_right" zbt f_q17 d_q17)
  (a_q14:W.nsIn K mainGlobals "_law_mixed" = some (some (.ref f_q14))) (F_q14:Fun K "_law_mixed" "_law_mixed" zjs f_q14 d_q14)
  (a_law:W.nsIn K mainGlobals "law" = some (some (.ref f_law))) (F_law:Fun K "law" "law" znn f_law d_law)
  (u_FIGURES:W.nsIn K mainGlobals "FIGURES" = some (some (.str "0123456789" t_FIGURES)))
  (u_HEAD_OF_ALL:W.nsIn K mainGlobals "HEAD_OF_ALL" = some (some (.str "-" t_HEAD_OF_ALL)))
  (u_MOST_FIGURES:W.nsIn K mainGlobals "MOST_FIGURES" = some (some (.int (30) t_MOST_FIGURES)))
  (u_OUT:W.nsIn K mainGlobals "OUT" = some (some (.str "-" t_OUT)))
  (q_DraftError:W.nsIn K mainGlobals "DraftError" = some (some (.ref C_DraftError)))
  (x_DraftError:XCls K C_DraftError)
  (q_NoBuilt:W.nsIn K mainGlobals "NoBuilt" = some (some (.ref C_NoBuilt)))
  (x_NoBuilt:XCls K C_NoBuilt)
  (q_NoPaper:W.nsIn K mainGlobals "NoPaper" = some (some (.ref C_NoPaper)))
  (x_NoPaper:XCls K C_NoPaper)
  (q_NoRow:W.nsIn K mainGlobals "NoRow" = some (some (.ref C_NoRow)))
  (x_NoRow:XCls K C_NoRow)
  (q_NoText:W.nsIn K mainGlobals "NoText" = some (some (.ref C_NoText)))
  (x_NoText:XCls K C_NoText)
  (g_NOTES:W.nsIn K mainGlobals "NOTES" = some (some (.ref C_NOTES))) (t_NOTES:K.lookup C_NOTES=some ⟨.type "tuple",od_NOTES,.seq #[.str "begin" t0_NOTES,.str "undo" t1_NOTES,.str "again" t2_NOTES,.str "reload" t3_NOTES] n_NOTES,sl_NOTES⟩)
  (g_CHOICES:W.nsIn K mainGlobals "CHOICES" = some (some (.ref C_CHOICES))) (t_CHOICES:K.lookup C_CHOICES=some ⟨.type "tuple",od_CHOICES,.seq #[.str "stay" t0_CHOICES,.str "turn" t1_CHOICES,.str "both" t2_CHOICES] n_CHOICES,sl_CHOICES⟩)
  {C_DEEDS:Addr} {es_DEEDS:Array DictEntry} {ep_DEEDS:Nat} {v_DEEDS_put v_DEEDS_take v_DEEDS_move v_DEEDS_write v_DEEDS_part v_DEEDS_join v_DEEDS_carry:Value} (g_DEEDS:W.nsIn K mainGlobals "DEEDS" = some (some (.ref C_DEEDS))) (t_DEEDS:K.lookup C_DEEDS=some ⟨.type "dict",none,.dict es_DEEDS ep_DEEDS, #[]⟩) (e_DEEDS:EntK w es_DEEDS.toList [("put",v_DEEDS_put),("take",v_DEEDS_take),("move",v_DEEDS_move),("write",v_DEEDS_write),("part",v_DEEDS_part),("join",v_DEEDS_join),("carry",v_DEEDS_carry)])
  {C_SHAPES:Addr} {es_SHAPES:Array DictEntry} {ep_SHAPES:Nat} {v_SHAPES_begin:Addr} {v_SHAPES_put:Addr} {v_SHAPES_take:Addr} {v_SHAPES_move:Addr} {v_SHAPES_write:Addr} {v_SHAPES_part:Addr} {v_SHAPES_join:Addr} {v_SHAPES_carry:Addr} {v_SHAPES_undo:Addr} {v_SHAPES_again:Addr} {v_SHAPES_reload:Addr} {v_SHAPES_save:Addr} {v_SHAPES_back:Addr} {v_SHAPES_settle:Addr} {v_SHAPES_piece:Addr} {v_SHAPES_clash:Addr} (g_SHAPES:W.nsIn K mainGlobals "SHAPES" = some (some (.ref C_SHAPES))) (y_SHAPES:(C_SHAPES == sysModules)=false) (t_SHAPES:K.lookup C_SHAPES=some ⟨.type "dict",none,.dict es_SHAPES ep_SHAPES, #[]⟩) (e_SHAPES:EntK w es_SHAPES.toList [("begin",.ref v_SHAPES_begin),("put",.ref v_SHAPES_put),("take",.ref v_SHAPES_take),("move",.ref v_SHAPES_move),("write",.ref v_SHAPES_write),("part",.ref v_SHAPES_part),("join",.ref v_SHAPES_join),("carry",.ref v_SHAPES_carry),("undo",.ref v_SHAPES_undo),("again",.ref v_SHAPES_again),("reload",.ref v_SHAPES_reload),("save",.ref v_SHAPES_save),("back",.ref v_SHAPES_back),("settle",.ref v_SHAPES_settle),("piece",.ref v_SHAPES_piece),("clash",.ref v_SHAPES_clash)])
  {od_SHAPES_begin:Option Addr} {sl_SHAPES_begin:Array (Option Value)} {n_SHAPES_begin:Nat} {t0_SHAPES_begin t1_SHAPES_begin t2_SHAPES_begin:Tok} (q_SHAPES_begin:K.lookup v_SHAPES_begin=some ⟨.type "tuple",od_SHAPES_begin,.seq #[.str "beat" t0_SHAPES_begin,.str "window" t1_SHAPES_begin,.str "save" t2_SHAPES_begin] n_SHAPES_begin,sl_SHAPES_begin⟩)
  {od_SHAPES_put:Option Addr} {sl_SHAPES_put:Array (Option Value)} {n_SHAPES_put:Nat} {t0_SHAPES_put t1_SHAPES_put t2_SHAPES_put:Tok} (q_SHAPES_put:K.lookup v_SHAPES_put=some ⟨.type "tuple",od_SHAPES_put,.seq #[.str "beat" t0_SHAPES_put,.str "behind" t1_SHAPES_put,.str "words" t2_SHAPES_put] n_SHAPES_put,sl_SHAPES_put⟩)
  {od_SHAPES_take:Option Addr} {sl_SHAPES_take:Array (Option Value)} {n_SHAPES_take:Nat} {t0_SHAPES_take t1_SHAPES_take:Tok} (q_SHAPES_take:K.lookup v_SHAPES_take=some ⟨.type "tuple",od_SHAPES_take,.seq #[.str "beat" t0_SHAPES_take,.str "mark" t1_SHAPES_take] n_SHAPES_take,sl_SHAPES_take⟩)
  {od_SHAPES_move:Option Addr} {sl_SHAPES_move:Array (Option Value)} {n_SHAPES_move:Nat} {t0_SHAPES_move t1_SHAPES_move t2_SHAPES_move:Tok} (q_SHAPES_move:K.lookup v_SHAPES_move=some ⟨.type "tuple",od_SHAPES_move,.seq #[.str "beat" t0_SHAPES_move,.str "mark" t1_SHAPES_move,.str "behind" t2_SHAPES_move] n_SHAPES_move,sl_SHAPES_move⟩)
  {od_SHAPES_write:Option Addr} {sl_SHAPES_write:Array (Option Value)} {n_SHAPES_write:Nat} {t0_SHAPES_write t1_SHAPES_write t2_SHAPES_write:Tok} (q_SHAPES_write:K.lookup v_SHAPES_write=some ⟨.type "tuple",od_SHAPES_write,.seq #[.str "beat" t0_SHAPES_write,.str "mark" t1_SHAPES_write,.str "words" t2_SHAPES_write] n_SHAPES_write,sl_SHAPES_write⟩)
  {od_SHAPES_part:Option Addr} {sl_SHAPES_part:Array (Option Value)} {n_SHAPES_part:Nat} {t0_SHAPES_part t1_SHAPES_part t2_SHAPES_part:Tok} (q_SHAPES_part:K.lookup v_SHAPES_part=some ⟨.type "tuple",od_SHAPES_part,.seq #[.str "beat" t0_SHAPES_part,.str "mark" t1_SHAPES_part,.str "many" t2_SHAPES_part] n_SHAPES_part,sl_SHAPES_part⟩)
  {od_SHAPES_join:Option Addr} {sl_SHAPES_join:Array (Option Value)} {n_SHAPES_join:Nat} {t0_SHAPES_join t1_SHAPES_join:Tok} (q_SHAPES_join:K.lookup v_SHAPES_join=some ⟨.type "tuple",od_SHAPES_join,.seq #[.str "beat" t0_SHAPES_join,.str "mark" t1_SHAPES_join] n_SHAPES_join,sl_SHAPES_join⟩)
  {od_SHAPES_carry:Option Addr} {sl_SHAPES_carry:Array (Option Value)} {n_SHAPES_carry:Nat} {t0_SHAPES_carry t1_SHAPES_carry t2_SHAPES_carry t3_SHAPES_carry:Tok} (q_SHAPES_carry:K.lookup v_SHAPES_carry=some ⟨.type "tuple",od_SHAPES_carry,.seq #[.str "beat" t0_SHAPES_carry,.str "mark" t1_SHAPES_carry,.str "mark" t2_SHAPES_carry,.str "behind" t3_SHAPES_carry] n_SHAPES_carry,sl_SHAPES_carry⟩)
  {od_SHAPES_undo:Option Addr} {sl_SHAPES_undo:Array (Option Value)} {n_SHAPES_undo:Nat} {t0_SHAPES_undo:Tok} (q_SHAPES_undo:K.lookup v_SHAPES_undo=some ⟨.type "tuple",od_SHAPES_undo,.seq #[.str "beat" t0_SHAPES_undo] n_SHAPES_undo,sl_SHAPES_undo⟩)
  {od_SHAPES_again:Option Addr} {sl_SHAPES_again:Array (Option Value)} {n_SHAPES_again:Nat} {t0_SHAPES_again:Tok} (q_SHAPES_again:K.lookup v_SHAPES_again=some ⟨.type "tuple",od_SHAPES_again,.seq #[.str "beat" t0_SHAPES_again] n_SHAPES_again,sl_SHAPES_again⟩)
  {od_SHAPES_reload:Option Addr} {sl_SHAPES_reload:Array (Option Value)} {n_SHAPES_reload:Nat} {t0_SHAPES_reload t1_SHAPES_reload:Tok} (q_SHAPES_reload:K.lookup v_SHAPES_reload=some ⟨.type "tuple",od_SHAPES_reload,.seq #[.str "beat" t0_SHAPES_reload,.str "save" t1_SHAPES_reload] n_SHAPES_reload,sl_SHAPES_reload⟩)
  {od_SHAPES_save:Option Addr} {sl_SHAPES_save:Array (Option Value)} {n_SHAPES_save:Nat} {t0_SHAPES_save t1_SHAPES_save t2_SHAPES_save:Tok} (q_SHAPES_save:K.lookup v_SHAPES_save=some ⟨.type "tuple",od_SHAPES_save,.seq #[.str "beat" t0_SHAPES_save,.str "window" t1_SHAPES_save,.str "count" t2_SHAPES_save] n_SHAPES_save,sl_SHAPES_save⟩)
  {od_SHAPES_back:Option Addr} {sl_SHAPES_back:Array (Option Value)} {n_SHAPES_back:Nat} {t0_SHAPES_back t1_SHAPES_back:Tok} (q_SHAPES_back:K.lookup v_SHAPES_back=some ⟨.type "tuple",od_SHAPES_back,.seq #[.str "beat" t0_SHAPES_back,.str "save" t1_SHAPES_back] n_SHAPES_back,sl_SHAPES_back⟩)
  {od_SHAPES_settle:Option Addr} {sl_SHAPES_settle:Array (Option Value)} {n_SHAPES_settle:Nat} {t0_SHAPES_settle t1_SHAPES_settle t2_SHAPES_settle:Tok} (q_SHAPES_settle:K.lookup v_SHAPES_settle=some ⟨.type "tuple",od_SHAPES_settle,.seq #[.str "beat" t0_SHAPES_settle,.str "clash" t1_SHAPES_settle,.str "choice" t2_SHAPES_settle] n_SHAPES_settle,sl_SHAPES_settle⟩)
  {od_SHAPES_piece:Option Addr} {sl_SHAPES_piece:Array (Option Value)} {n_SHAPES_piece:Nat} {t0_SHAPES_piece t1_SHAPES_piece:Tok} (q_SHAPES_piece:K.lookup v_SHAPES_piece=some ⟨.type "tuple",od_SHAPES_piece,.seq #[.str "mark" t0_SHAPES_piece,.str "version" t1_SHAPES_piece] n_SHAPES_piece,sl_SHAPES_piece⟩)
  {od_SHAPES_clash:Option Addr} {sl_SHAPES_clash:Array (Option Value)} {n_SHAPES_clash:Nat} {t0_SHAPES_clash t1_SHAPES_clash:Tok} (q_SHAPES_clash:K.lookup v_SHAPES_clash=some ⟨.type "tuple",od_SHAPES_clash,.seq #[.str "mark" t0_SHAPES_clash,.str "version" t1_SHAPES_clash] n_SHAPES_clash,sl_SHAPES_clash⟩)
  {C_LEAST:Addr} {es_LEAST:Array DictEntry} {ep_LEAST:Nat} {v_LEAST_beat:Tok} {v_LEAST_window:Tok} {v_LEAST_clash:Tok} {v_LEAST_save:Tok} {v_LEAST_count:Tok} (g_LEAST:W.nsIn K mainGlobals "LEAST" = some (some (.ref C_LEAST))) (y_LEAST:(C_LEAST == sysModules)=false) (t_LEAST:K.lookup C_LEAST=some ⟨.type "dict",none,.dict es_LEAST ep_LEAST, #[]⟩) (e_LEAST:EntK w es_LEAST.toList [("beat",.int 1 v_LEAST_beat),("window",.int 1 v_LEAST_window),("clash",.int 1 v_LEAST_clash),("save",.int 0 v_LEAST_save),("count",.int 0 v_LEAST_count)])
  (m_nd:W.mroIn K C_NoText (.ref C_DraftError)=some true)
  (kv:W.kitOne K (.ref C_NoText) (.type "ValueError")=some true)
  (kt:W.kitAny K (.ref C_NoText) [.ref C_NoBuilt,.ref C_NoPaper,.ref C_NoRow]=some false)
  (y_DEEDS:(C_DEEDS == sysModules)=false)
  (n_ValueError:W.nsIn K mainGlobals "ValueError" = some none)
  (n_all:W.nsIn K mainGlobals "all" = some none)
  (n_enumerate:W.nsIn K mainGlobals "enumerate" = some none)
  (n_int:W.nsIn K mainGlobals "int" = some none)
  (n_isinstance:W.nsIn K mainGlobals "isinstance" = some none)
  (n_len:W.nsIn K mainGlobals "len" = some none)
  (n_str:W.nsIn K mainGlobals "str" = some none)
  (n_tuple:W.nsIn K mainGlobals "tuple" = some none)
  (n_zip:W.nsIn K mainGlobals "zip" = some none)
  : ∃ fd:FuncData,(∀ (s:Shared) (v:Value),BindsTo s fd ⟨[v],[]⟩ [("_law_script",v)])∧∀ B:Heap,K.In B→B.Ns mainGlobals mg→FnOk l.prog w K mg B (CX1 l.prog w B) 14 fa fd ["_law_script"] (sp_law K):=by
 have e:=hfa.symm.trans (W.mg_of X G a_law)
 cases e
 obtain ⟨oc_law,od_law,kV_law,dc_law,pm_law,an_law,cd_law,ct_law,sl_law,rfl,l_law,c_law⟩:=id F_law.ex
 have T:Txt w K mg ⟨f_q26,d_q26,f_q27,d_q27,f_q9,d_q9,f_q23,d_q23,f_q4,d_q4,f_q3,d_q3,f_q20,d_q20,f_q21,d_q21,f_q12,d_q12,f_q8,d_q8,f_q2,d_q2,f_q16,d_q16,f_q6,d_q6,f_q15,d_q15,f_q25,d_q25,f_q0,d_q0,f_q11,d_q11,f_q18,d_q18,f_q24,d_q24,f_q10,d_q10,f_q1,d_q1,f_q7,d_q7,f_q22,d_q22,f_q19,d_q19,f_q13,d_q13,f_q5,d_q5,f_q17,d_q17,f_q14,d_q14,fa,_,C_DraftError,C_NoBuilt,C_NoPaper,C_NoRow,C_NoText,C_NOTES,C_CHOICES,C_DEEDS,v_DEEDS_put,v_DEEDS_take,v_DEEDS_move,v_DEEDS_write,v_DEEDS_part,v_DEEDS_join,v_DEEDS_carry,C_SHAPES,v_SHAPES_begin,v_SHAPES_put,v_SHAPES_take,v_SHAPES_move,v_SHAPES_write,v_SHAPES_part,v_SHAPES_join,v_SHAPES_carry,v_SHAPES_undo,v_SHAPES_again,v_SHAPES_reload,v_SHAPES_save,v_SHAPES_back,v_SHAPES_settle,v_SHAPES_piece,v_SHAPES_clash,C_LEAST,v_LEAST_beat,v_LEAST_window,v_LEAST_clash,v_LEAST_save,v_LEAST_count⟩:=⟨F_q26,(W.mg_of X G a_q26),F_q26.kp,(F_q26.binds λ _ _ _ _ _ _ us hl=>by obtain ⟨a0,rfl⟩:=ln_1 hl;rfl),F_q27,(W.mg_of X G a_q27),F_q27.kp,(F_q27.binds λ _ _ _ _ _ _ us hl=>by obtain ⟨a0,a1,rfl⟩:=ln_2 hl;rfl),F_q9,(W.mg_of X G a_q9),F_q9.kp,(F_q9.binds λ _ _ _ _ _ _ us hl=>by obtain ⟨a0,rfl⟩:=ln_1 hl;rfl),F_q23,(W.mg_of X G a_q23),F_q23.kp,(F_q23.binds λ _ _ _ _ _ _ us hl=>by obtain ⟨a0,a1,rfl⟩:=ln_2 hl;rfl),F_q4,(W.mg_of X G a_q4),F_q4.kp,(F_q4.binds λ _ _ _ _ _ _ us hl=>by obtain ⟨a0,a1,rfl⟩:=ln_2 hl;rfl),F_q3,(W.mg_of X G a_q3),F_q3.kp,(F_q3.binds λ _ _ _ _ _ _ us hl=>by obtain ⟨a0,a1,rfl⟩:=ln_2 hl;rfl),F_q20,(W.mg_of X G a_q20),F_q20.kp,(F_q20.binds λ _ _ _ _ _ _ us hl=>by obtain ⟨a0,rfl⟩:=ln_1 hl;rfl),F_q21,(W.mg_of X G a_q21),F_q21.kp,(F_q21.binds λ _ _ _ _ _ _ us hl=>by obtain ⟨a0,rfl⟩:=ln_1 hl;rfl),F_q12,(W.mg_of X G a_q12),F_q12.kp,(F_q12.binds λ _ _ _ _ _ _ us hl=>by obtain ⟨a0,rfl⟩:=ln_1 hl;rfl),F_q8,(W.mg_of X G a_q8),F_q8.kp,(F_q8.binds λ _ _ _ _ _ _ us hl=>by obtain ⟨a0,rfl⟩:=ln_1 hl;rfl),F_q2,(W.mg_of X G a_q2),F_q2.kp,(F_q2.binds λ _ _ _ _ _ _ us hl=>by obtain ⟨a0,rfl⟩:=ln_1 hl;rfl),F_q16,(W.mg_of X G a_q16),F_q16.kp,(F_q16.binds λ _ _ _ _ _ _ us hl=>by obtain ⟨a0,rfl⟩:=ln_1 hl;rfl),F_q6,(W.mg_of X G a_q6),F_q6.kp,(F_q6.binds λ _ _ _ _ _ _ us hl=>by obtain ⟨a0,rfl⟩:=ln_1 hl;rfl),F_q15,(W.mg_of X G a_q15),F_q15.kp,(F_q15.binds λ _ _ _ _ _ _ us hl=>by obtain ⟨a0,a1,rfl⟩:=ln_2 hl;rfl),F_q25,(W.mg_of X G a_q25),F_q25.kp,(F_q25.binds λ _ _ _ _ _ _ us hl=>by obtain ⟨a0,rfl⟩:=ln_1 hl;rfl),F_q0,(W.mg_of X G a_q0),F_q0.kp,(F_q0.binds λ _ _ _ _ _ _ us hl=>by obtain ⟨a0,rfl⟩:=ln_1 hl;rfl),F_q11,(W.mg_of X G a_q11),F_q11.kp,(F_q11.binds λ _ _ _ _ _ _ us hl=>match us,hl with | [],_=>rfl),F_q18,(W.mg_of X G a_q18),F_q18.kp,(F_q18.binds λ _ _ _ _ _ _ us hl=>by obtain ⟨a0,rfl⟩:=ln_1 hl;rfl),F_q24,(W.mg_of X G a_q24),F_q24.kp,(F_q24.binds λ _ _ _ _ _ _ us hl=>by obtain ⟨a0,rfl⟩:=ln_1 hl;rfl),F_q10,(W.mg_of X G a_q10),F_q10.kp,(F_q10.binds λ _ _ _ _ _ _ us hl=>by obtain ⟨a0,a1,rfl⟩:=ln_2 hl;rfl),F_q1,(W.mg_of X G a_q1),F_q1.kp,(F_q1.binds λ _ _ _ _ _ _ us hl=>by obtain ⟨a0,a1,rfl⟩:=ln_2 hl;rfl),F_q7,(W.mg_of X G a_q7),F_q7.kp,(F_q7.binds λ _ _ _ _ _ _ us hl=>by obtain ⟨a0,a1,rfl⟩:=ln_2 hl;rfl),F_q22,(W.mg_of X G a_q22),F_q22.kp,(F_q22.binds λ _ _ _ _ _ _ us hl=>by obtain ⟨a0,rfl⟩:=ln_1 hl;rfl),F_q19,(W.mg_of X G a_q19),F_q19.kp,(F_q19.binds λ _ _ _ _ _ _ us hl=>by obtain ⟨a0,a1,rfl⟩:=ln_2 hl;rfl),F_q13,(W.mg_of X G a_q13),F_q13.kp,(F_q13.binds λ _ _ _ _ _ _ us hl=>by obtain ⟨a0,rfl⟩:=ln_1 hl;rfl),F_q5,(W.mg_of X G a_q5),F_q5.kp,(F_q5.binds λ _ _ _ _ _ _ us hl=>by obtain ⟨a0,rfl⟩:=ln_1 hl;rfl),F_q17,(W.mg_of X G a_q17),F_q17.kp,(F_q17.binds λ _ _ _ _ _ _ us hl=>by obtain ⟨a0,rfl⟩:=ln_1 hl;rfl),F_q14,(W.mg_of X G a_q14),F_q14.kp,(F_q14.binds λ _ _ _ _ _ _ us hl=>by obtain ⟨a0,a1,rfl⟩:=ln_2 hl;rfl),F_law,(W.mg_of X G a_law),F_law.kp,(F_law.binds λ _ _ _ _ _ _ us hl=>match us,hl with | [_],_=>rfl),⟨t_FIGURES,W.mg_of X G u_FIGURES⟩,⟨t_HEAD_OF_ALL,W.mg_of X G u_HEAD_OF_ALL⟩,⟨t_MOST_FIGURES,W.mg_of X G u_MOST_FIGURES⟩,⟨t_OUT,W.mg_of X G u_OUT⟩,(W.mg_of X G q_DraftError),x_DraftError,(W.mg_of X G q_NoBuilt),x_NoBuilt,(W.mg_of X G q_NoPaper),x_NoPaper,(W.mg_of X G q_NoRow),x_NoRow,(W.mg_of X G q_NoText),x_NoText,(W.mg_of X G g_NOTES),(λ H=>.inr ⟨_,_,_,t_NOTES,rfl,rfl,sz_4,(.cons ⟨_,rfl⟩ (.cons ⟨_,rfl⟩ (.cons ⟨_,rfl⟩ (.cons ⟨_,rfl⟩ .nil))))⟩),(W.mg_of X G g_CHOICES),(λ H=>.inr ⟨_,_,_,t_CHOICES,rfl,rfl,sz_3,(.cons ⟨_,rfl⟩ (.cons ⟨_,rfl⟩ (.cons ⟨_,rfl⟩ .nil)))⟩),(W.mg_of X G g_DEEDS),⟨_,_,t_DEEDS,e_DEEDS,(show List.Nodup (["put", "take", "move", "write", "part", "join", "carry"]:List Str) by decide +kernel)⟩,(W.mg_of X G g_SHAPES),y_SHAPES,⟨_,_,t_SHAPES,e_SHAPES,(show List.Nodup (["begin", "put", "take", "move", "write", "part", "join", "carry", "undo", "again", "reload", "save", "back", "settle", "piece", "clash"]:List Str) by decide +kernel)⟩,(λ H=>.inr ⟨_,_,_,q_SHAPES_begin,rfl,rfl,sz_3,(.cons ⟨_,rfl⟩ (.cons ⟨_,rfl⟩ (.cons ⟨_,rfl⟩ .nil)))⟩),(λ H=>.inr ⟨_,_,_,q_SHAPES_put,rfl,rfl,sz_3,(.cons ⟨_,rfl⟩ (.cons ⟨_,rfl⟩ (.cons ⟨_,rfl⟩ .nil)))⟩),(λ H=>.inr ⟨_,_,_,q_SHAPES_take,rfl,rfl,sz_2,(.cons ⟨_,rfl⟩ (.cons ⟨_,rfl⟩ .nil))⟩),(λ H=>.inr ⟨_,_,_,q_SHAPES_move,rfl,rfl,sz_3,(.cons ⟨_,rfl⟩ (.cons ⟨_,rfl⟩ (.cons ⟨_,rfl⟩ .nil)))⟩),(λ H=>.inr ⟨_,_,_,q_SHAPES_write,rfl,rfl,sz_3,(.cons ⟨_,rfl⟩ (.cons ⟨_,rfl⟩ (.cons ⟨_,rfl⟩ .nil)))⟩),(λ H=>.inr ⟨_,_,_,q_SHAPES_part,rfl,rfl,sz_3,(.cons ⟨_,rfl⟩ (.cons ⟨_,rfl⟩ (.cons ⟨_,rfl⟩ .nil)))⟩),(λ H=>.inr ⟨_,_,_,q_SHAPES_join,rfl,rfl,sz_2,(.cons ⟨_,rfl⟩ (.cons ⟨_,rfl⟩ .nil))⟩),(λ H=>.inr ⟨_,_,_,q_SHAPES_carry,rfl,rfl,sz_4,(.cons ⟨_,rfl⟩ (.cons ⟨_,rfl⟩ (.cons ⟨_,rfl⟩ (.cons ⟨_,rfl⟩ .nil))))⟩),(λ H=>.inr ⟨_,_,_,q_SHAPES_undo,rfl,rfl,sz_1,(.cons ⟨_,rfl⟩ .nil)⟩),(λ H=>.inr ⟨_,_,_,q_SHAPES_again,rfl,rfl,sz_1,(.cons ⟨_,rfl⟩ .nil)⟩),(λ H=>.inr ⟨_,_,_,q_SHAPES_reload,rfl,rfl,sz_2,(.cons ⟨_,rfl⟩ (.cons ⟨_,rfl⟩ .nil))⟩),(λ H=>.inr ⟨_,_,_,q_SHAPES_save,rfl,rfl,sz_3,(.cons ⟨_,rfl⟩ (.cons ⟨_,rfl⟩ (.cons ⟨_,rfl⟩ .nil)))⟩),(λ H=>.inr ⟨_,_,_,q_SHAPES_back,rfl,rfl,sz_2,(.cons ⟨_,rfl⟩ (.cons ⟨_,rfl⟩ .nil))⟩),(λ H=>.inr ⟨_,_,_,q_SHAPES_settle,rfl,rfl,sz_3,(.cons ⟨_,rfl⟩ (.cons ⟨_,rfl⟩ (.cons ⟨_,rfl⟩ .nil)))⟩),(λ H=>.inr ⟨_,_,_,q_SHAPES_piece,rfl,rfl,sz_2,(.cons ⟨_,rfl⟩ (.cons ⟨_,rfl⟩ .nil))⟩),(λ H=>.inr ⟨_,_,_,q_SHAPES_clash,rfl,rfl,sz_2,(.cons ⟨_,rfl⟩ (.cons ⟨_,rfl⟩ .nil))⟩),(W.mg_of X G g_LEAST),y_LEAST,⟨_,_,t_LEAST,e_LEAST,(show List.Nodup (["beat", "window", "clash", "save", "count"]:List Str) by decide +kernel)⟩,m_nd,kv,kt,y_DEEDS,(W.mg_none_of X G n_ValueError),(W.mg_none_of X G n_all),(W.mg_none_of X G n_enumerate),(W.mg_none_of X G n_int),(W.mg_none_of X G n_isinstance),(W.mg_none_of X G n_len),(W.mg_none_of X G n_str),(W.mg_none_of X G n_tuple),(W.mg_none_of X G n_zip)⟩
 refine ⟨W.fnOf "law" "law" (zof znn) (zae znn) (zja znn) .none kV_law dc_law pm_law an_law cd_law ct_law,λ s v=>.of_eq rfl,λ B _ _=>?_⟩
 have G_q26:=zvs (P:=l.prog) (w:=w) (B:=B) T
 have G_q27:=znr (P:=l.prog) (w:=w) (B:=B) T
 have G_q9:=zuu (P:=l.prog) (w:=w) (B:=B) T G_q27
 have G_q23:=zer (P:=l.prog) (w:=w) (B:=B) T G_q9
 have G_q4:=zkw (P:=l.prog) (w:=w) (B:=B) T
 have G_q3:=zow (P:=l.prog) (w:=w) (B:=B) T G_q9
 have G_q20:=zpq (P:=l.prog) (w:=w) (B:=B) T G_q4 G_q3
 have G_q21:=zgt (P:=l.prog) (w:=w) (B:=B) T G_q4 G_q3
 have G_q12:=zqt (P:=l.prog) (w:=w) (B:=B) T G_q21
 have G_q8:=zjw (P:=l.prog) (w:=w) (B:=B) T
 have G_q2:=ztv (P:=l.prog) (w:=w) (B:=B) T G_q26 G_q23 G_q12 G_q8
 have G_q16:=zuq (P:=l.prog) (w:=w) (B:=B) T G_q26
 have G_q6:=zyv (P:=l.prog) (w:=w) (B:=B) T
 have G_q15:=zmr (P:=l.prog) (w:=w) (B:=B) T G_q9 G_q23 G_q20 G_q2 G_q16 G_q6
 have G_q25:=zes (P:=l.prog) (w:=w) (B:=B) T G_q15
 have G_q0:=zew (P:=l.prog) (w:=w) (B:=B) T G_q25
 have G_q11:=zws (P:=l.prog) (w:=w) (B:=B) T
 have G_q18:=zat (P:=l.prog) (w:=w) (B:=B) T
 have G_q24:=zps (P:=l.prog) (w:=w) (B:=B) T
 have G_q10:=zit (P:=l.prog) (w:=w) (B:=B) T G_q24
 have G_q1:=zgv (P:=l.prog) (w:=w) (B:=B) T G_q11 G_q10
 have G_q7:=zru (P:=l.prog) (w:=w) (B:=B) T
 have G_q22:=zzt (P:=l.prog) (w:=w) (B:=B) T G_q7
 have G_q19:=zjr (P:=l.prog) (w:=w) (B:=B) T G_q7 G_q22
 have G_q13:=zrr (P:=l.prog) (w:=w) (B:=B) T
 have G_q5:=zsu (P:=l.prog) (w:=w) (B:=B) T G_q19 G_q13
 have G_q17:=zst (P:=l.prog) (w:=w) (B:=B) T G_q0 G_q5
 have G_q14:=zks (P:=l.prog) (w:=w) (B:=B) T
 have G_law:=zhs (P:=l.prog) (w:=w) (B:=B) T G_q18 G_q10 G_q1 G_q17 G_q14
 exact G_law
theorem walk {l:W.OpenLaw} {q:Program} {loose:List Str} {XP:(Str→Option Value)→Heap→Prop} {YP:World→Heap→Prop} {d:DefRec} {K:Params→W.Frag} (hn:l.most=some 63) (hdf:d.params.defaults=[])
  (hY:∀ (w:World) (h:Heap),YP w h→(K w.params).In h)
  (F:∀ (w:World) (mg:Str→Option Value) (fa:Addr) (h:Heap),(K w.params).In h→h.Ns mainGlobals mg→mg d.name=some (.ref fa) →
   ∃ fd:FuncData,(∀ (s:Shared) (u:Value),BindsTo s fd ⟨[u],[]⟩ [("_law_script",u)])∧∀ B:Heap,(K w.params).In B→B.Ns mainGlobals mg→FnOk l.prog w (K w.params) mg B (CX1 l.prog w B) 14 fa fd ["_law_script"] (sp_law (K w.params))) :
  W.WalkO q loose XP YP l.row.toRowW d [] (λ f vs=>PySem.call f vs) :=
 zgm (n:=63) (k:=14) (x := "_law_script") (sp:=λ w=>sp_law (K w.params)) hn (by decide) hdf ⟨rfl,by decide,by decide⟩ hY F (λ _ _ a ns hl hO hS=>⟨a,ns,rfl,hS,hl,λ _=>rfl,hO.plain⟩)
end My
open PySem PySem.W PyProof.Rows
open Lean in
local macro_rules
 | `(tactic| o_head $H)=>do
  let (hl,hw,hc):=(mkIdent `hl,mkIdent `hw,mkIdent `hc)
  `(tactic| refine PySem.W.holds_open (q:=My.viewQ) (loose:=["DEEDS", "SHAPES", "LEAST"]) (Xt:=λ s=>xlAt My.viewQ [] s && recOk (RowW.records PySem.Challenge.rw_twotabs_k48_slip_rows_spoiled.row.toRowW) s) (XP:=XL My.viewQ []) (Yf:=Hook.obs $H) (Ya:=Hook.val $H) (YP:=Hook.says $H) (N:=8438) ?$hl (Hook.of $H) (Hook.keeps $H) (λ s e=>xl_of s (Bool.and_eq_true_iff.mp e).1) XL.keeps (by rfl) (by rfl) (by rfl) (λ s e=>recFacts_of (Bool.and_eq_true_iff.mp e).2) (by rfl) (by assumption) (by decide +kernel) ⟨rfl,rfl,rfl,rfl,rfl,by decide +kernel⟩ ?$hw ?$hc)
local macro_rules | `(tactic| walk_at "fn") => `(tactic| (refine' L2.fun_mk ?l ?c ?k; (case l=>k_is); (case c=>k_is); (case k=>k_is)))
set_option maxRecDepth 100000 in
set_option maxHeartbeats 0 in
theorem PySem.Challenge.cw_twotabs_k48_slip_rows_spoiled_holds : PySem.Challenge.rw_twotabs_k48_slip_rows_spoiled.Holds := by
 w_on;o_law;k_head; (case hw=>w_witness2); (case hl=>exact My.hlQ)
 k_fill
 refine My.walk (l:=PySem.Challenge.rw_twotabs_k48_slip_rows_spoiled) rfl rfl (λ w h Y=>PySem.W.kIn_of Y) ?F
 case F =>
  intro w mg fa h KX G hmg
  refine' My.all_mk KX G hmg ?a_q26 ?F_q26 ?a_q27 ?F_q27 ?a_q9 ?F_q9 ?a_q23 ?F_q23 ?a_q4 ?F_q4 ?a_q3 ?F_q3 ?a_q20 ?F_q20 ?a_q21 ?F_q21 ?a_q12 ?F_q12 ?a_q8 ?F_q8 ?a_q2 ?F_q2 ?a_q16 ?F_q16 ?a_q6 ?F_q6 ?a_q15 ?F_q15 ?a_q25 ?F_q25 ?a_q0 ?F_q0 ?a_q11 ?F_q11 ?a_q18 ?F_q18 ?a_q24 ?F_q24 ?a_q10 ?F_q10 ?a_q1 ?F_q1 ?a_q7 ?F_q7 ?a_q22 ?F_q22 ?a_q19 ?F_q19 ?a_q13 ?F_q13 ?a_q5 ?F_q5 ?a_q17 ?F_q17 ?a_q14 ?F_q14 ?a_law ?F_law ?u_FIGURES ?u_HEAD_OF_ALL ?u_MOST_FIGURES ?u_OUT ?q_DraftError ?x_DraftError ?q_NoBuilt ?x_NoBuilt ?q_NoPaper ?x_NoPaper ?q_NoRow ?x_NoRow ?q_NoText ?x_NoText ?g_NOTES ?t_NOTES ?g_CHOICES ?t_CHOICES ?g_DEEDS ?t_DEEDS ?e_DEEDS ?g_SHAPES ?y_SHAPES ?t_SHAPES ?e_SHAPES ?q_SHAPES_begin ?q_SHAPES_put ?q_SHAPES_take ?q_SHAPES_move ?q_SHAPES_write ?q_SHAPES_part ?q_SHAPES_join ?q_SHAPES_carry ?q_SHAPES_undo ?q_SHAPES_again ?q_SHAPES_reload ?q_SHAPES_save ?q_SHAPES_back ?q_SHAPES_settle ?q_SHAPES_piece ?q_SHAPES_clash ?g_LEAST ?y_LEAST ?t_LEAST ?e_LEAST ?m_nd ?kv ?kt ?y_DEEDS ?n_ValueError ?n_all ?n_enumerate ?n_int ?n_isinstance ?n_len ?n_str ?n_tuple ?n_zip
  (case a_q26=>k_is)
  (case F_q26=>walk_at "fn")
  (case a_q27=>k_is)
  (case F_q27=>walk_at "fn")
  (case a_q9=>k_is)
  (case F_q9=>walk_at "fn")
  (case a_q23=>k_is)
  (case F_q23=>walk_at "fn")
  (case a_q4=>k_is)
  (case F_q4=>walk_at "fn")
  (case a_q3=>k_is)
  (case F_q3=>walk_at "fn")
  (case a_q20=>k_is)
  (case F_q20=>walk_at "fn")
  (case a_q21=>k_is)
  (case F_q21=>walk_at "fn")
  (case a_q12=>k_is)
  (case F_q12=>walk_at "fn")
  (case a_q8=>k_is)
  (case F_q8=>walk_at "fn")
  (case a_q2=>k_is)
  (case F_q2=>walk_at "fn")
  (case a_q16=>k_is)
  (case F_q16=>walk_at "fn")
  (case a_q6=>k_is)
  (case F_q6=>walk_at "fn")
  (case a_q15=>k_is)
  (case F_q15=>walk_at "fn")
  (case a_q25=>k_is)
  (case F_q25=>walk_at "fn")
  (case a_q0=>k_is)
  (case F_q0=>walk_at "fn")
  (case a_q11=>k_is)
  (case F_q11=>walk_at "fn")
  (case a_q18=>k_is)
  (case F_q18=>walk_at "fn")
  (case a_q24=>k_is)
  (case F_q24=>walk_at "fn")
  (case a_q10=>k_is)
  (case F_q10=>walk_at "fn")
  (case a_q1=>k_is)
  (case F_q1=>walk_at "fn")
  (case a_q7=>k_is)
  (case F_q7=>walk_at "fn")
  (case a_q22=>k_is)
  (case F_q22=>walk_at "fn")
  (case a_q19=>k_is)
  (case F_q19=>walk_at "fn")
  (case a_q13=>k_is)
  (case F_q13=>walk_at "fn")
  (case a_q5=>k_is)
  (case F_q5=>walk_at "fn")
  (case a_q17=>k_is)
  (case F_q17=>walk_at "fn")
  (case a_q14=>k_is)
  (case F_q14=>walk_at "fn")
  (case a_law=>k_is)
  (case F_law=>walk_at "fn")
  (case u_FIGURES=>k_is)
  (case u_HEAD_OF_ALL=>k_is)
  (case u_MOST_FIGURES=>k_is)
  (case u_OUT=>k_is)
  (case q_DraftError=>k_is)
  (case x_DraftError=>refine' L2.XCls.mk ?_ ?_ ?_ ?_ ?_ ?_ ?_ ?_ ?_;all_goals (first | k_is | k_exc))
  (case q_NoBuilt=>k_is)
  (case x_NoBuilt=>refine' L2.XCls.mk ?_ ?_ ?_ ?_ ?_ ?_ ?_ ?_ ?_;all_goals (first | k_is | k_exc))
  (case q_NoPaper=>k_is)
  (case x_NoPaper=>refine' L2.XCls.mk ?_ ?_ ?_ ?_ ?_ ?_ ?_ ?_ ?_;all_goals (first | k_is | k_exc))
  (case q_NoRow=>k_is)
  (case x_NoRow=>refine' L2.XCls.mk ?_ ?_ ?_ ?_ ?_ ?_ ?_ ?_ ?_;all_goals (first | k_is | k_exc))
  (case q_NoText=>k_is)
  (case x_NoText=>refine' L2.XCls.mk ?_ ?_ ?_ ?_ ?_ ?_ ?_ ?_ ?_;all_goals (first | k_is | k_exc))
  (case g_NOTES=>k_is)
  (case t_NOTES=>k_is)
  (case g_CHOICES=>k_is)
  (case t_CHOICES=>k_is)
  (case g_DEEDS=>k_is)
  (case t_DEEDS=>k_is)
  (case e_DEEDS=>exact ⟨rfl,⟨_,rfl⟩,rfl,rfl,⟨_,rfl⟩,rfl,rfl,⟨_,rfl⟩,rfl,rfl,⟨_,rfl⟩,rfl,rfl,⟨_,rfl⟩,rfl,rfl,⟨_,rfl⟩,rfl,rfl,⟨_,rfl⟩,rfl,True.intro⟩)
  (case g_SHAPES=>k_is)
  (case y_SHAPES=>decide)
  (case t_SHAPES=>k_is)
  (case e_SHAPES=>exact ⟨rfl,⟨_,rfl⟩,rfl,rfl,⟨_,rfl⟩,rfl,rfl,⟨_,rfl⟩,rfl,rfl,⟨_,rfl⟩,rfl,rfl,⟨_,rfl⟩,rfl,rfl,⟨_,rfl⟩,rfl,rfl,⟨_,rfl⟩,rfl,rfl,⟨_,rfl⟩,rfl,rfl,⟨_,rfl⟩,rfl,rfl,⟨_,rfl⟩,rfl,rfl,⟨_,rfl⟩,rfl,rfl,⟨_,rfl⟩,rfl,rfl,⟨_,rfl⟩,rfl,rfl,⟨_,rfl⟩,rfl,rfl,⟨_,rfl⟩,rfl,rfl,⟨_,rfl⟩,rfl,True.intro⟩)
  (case q_SHAPES_begin=>k_is)
  (case q_SHAPES_put=>k_is)
  (case q_SHAPES_take=>k_is)
  (case q_SHAPES_move=>k_is)
  (case q_SHAPES_write=>k_is)
  (case q_SHAPES_part=>k_is)
  (case q_SHAPES_join=>k_is)
  (case q_SHAPES_carry=>k_is)
  (case q_SHAPES_undo=>k_is)
  (case q_SHAPES_again=>k_is)
  (case q_SHAPES_reload=>k_is)
  (case q_SHAPES_save=>k_is)
  (case q_SHAPES_back=>k_is)
  (case q_SHAPES_settle=>k_is)
  (case q_SHAPES_piece=>k_is)
  (case q_SHAPES_clash=>k_is)
  (case g_LEAST=>k_is)
  (case y_LEAST=>decide)
  (case t_LEAST=>k_is)
  (case e_LEAST=>exact ⟨rfl,⟨_,rfl⟩,rfl,rfl,⟨_,rfl⟩,rfl,rfl,⟨_,rfl⟩,rfl,rfl,⟨_,rfl⟩,rfl,rfl,⟨_,rfl⟩,rfl,True.intro⟩)
  (case m_nd=>first | k_is | kit_is)
  (case kv=>first | k_is | kit_is)
  (case kt=>first | k_is | kit_is)
  (case y_DEEDS=>decide)
  (case n_ValueError=>k_is)
  (case n_all=>k_is)
  (case n_enumerate=>k_is)
  (case n_int=>k_is)
  (case n_isinstance=>k_is)
  (case n_len=>k_is)
  (case n_str=>k_is)
  (case n_tuple=>k_is)
  (case n_zip=>k_is)
