import PyProof.Rows.All
import PySem.Challenge.RW_thinslopes_k71_all_errors_side_by_side
import Wide.All
import OpenK.AllK
import Wide.FinOn
import KE.KStateDown
import HandS.Base
import HandS.Call
import HandS.Defaults
import HandS.Words
import HandS.Head0
import HandS.Head1
import HandS.Head2
import HandS.HeadHook1
import HandS.HeadHook2
import HandS.ForMost
import HandS.ForExc
import HandS.EndBits
import HandS.Wide
import HandS.ExcInit
import HandS.ExcIs
import HandS.IsInst
import HandS.Flow
import HandS.Style
import KE.KExcIs
import HandS.TryMany
import HandS.ExcValue
import PyProof.ReprBulk
import HandS.Evl
import HandS.TryOnly
set_option Elab.async false
set_option linter.all false
set_option maxRecDepth 100000
set_option maxHeartbeats 2000000
/-! the head: what is asked of the objects behind the top, and the run -/
namespace Hx
open PySem PySem.Spec PyProof.Rows L2 He
def top (i : Nat) : Stmt := PySem.Challenge.pw_thinslopes_k71_all_errors_side_by_side.main.body.getD i (.Pass ⟨0, 0, 0, 0⟩)
def bm (S : Addr) : List Value := [.ref S, .type "ValueError", .type "Exception", .type "BaseException", .type "object"]
def rowB (K : PySem.W.Frag) (S C : Addr) (nm : Str) : Bool := match K.lookup C with
  | some ⟨.type t, _, .cls cd, sl⟩ => decide (t = "type") && (decide (cd.name = nm) && (decide (cd.mro = .ref C :: bm S) && (cd.hasDict && (!cd.hasDel && (match sl.toList with
    | [_, _, _, _, some (.builtin n), _] => decide (n = "ValueError.__new__")
    | _ => false)))))
  | _ => false
def findB (K : PySem.W.Frag) (C : Addr) (f : Str) (r : Option Value) : Bool := eqO (PySem.W.findIn K (.ref C) f) (some r)
def clsB (K : PySem.W.Frag) (nm : Str) : Bool := rowB K (ga K "SlopeError") (ga K nm) nm && (findB K (ga K nm) "__setattr__" (some (.builtin "object.__setattr__")) && (findB K (ga K nm) "__getattribute__" (some (.builtin "BaseException.__getattribute__")) &&
  (findB K (ga K nm) "__getattr__" none && (findB K (ga K nm) "__class__" (some (.builtin "object.__class__")) && PySem.W.keepIn K (.ref (ga K nm))))))
def iniB (K : PySem.W.Frag) (nm : Str) : Bool := findB K (ga K nm) "__init__" (some (.ref (ma K (ga K nm) "__init__"))) && decide (PySem.W.typeIn K (.ref (ma K (ga K nm) "__init__")) = some (.type "function"))
def oneB (K : PySem.W.Frag) (x : Str × Str) : Bool := clsB K x.1 && (findB K (ga K x.1) x.2 none && iniB K x.1)
def twoB (K : PySem.W.Frag) (x : Str × Str × Str) : Bool := clsB K x.1 && (findB K (ga K x.1) x.2.1 none && (findB K (ga K x.1) x.2.2 none && iniB K x.1))
def nulB (K : PySem.W.Frag) (x : Str) : Bool := clsB K x && PySem.W.excIn K (ga K x) veBase "ValueError.__new__"
def nms : List Str := [("BadRatio" : Str), ("BadMould" : Str), ("BadLetter" : Str), ("BadNumbers" : Str), ("BadCell" : Str), ("BadOrder" : Str), ("BadWeb" : Str), ("BadPoint" : Str), ("BadTie" : Str), ("BadGrouping" : Str), ("BadCount" : Str), ("BadAsk" : Str), ("BadText" : Str), ("BadAnswers" : Str), ("BadModulus" : Str), ("NotFree" : Str), ("NotColumns" : Str), ("NoGroup" : Str), ("BadWalk" : Str), ("NoAnswer" : Str), ("CantTake" : Str), ("BadMost" : Str), ("TooMany" : Str), ("BadBudget" : Str), ("BadLines" : Str), ("BadBlock" : Str), ("BadWay" : Str), ("BadPoints" : Str), ("BadPlan" : Str), ("BadPath" : Str), ("BadStranger" : Str), ("BadPoly" : Str), ("UnlikePolys" : Str), ("BadValues" : Str), ("NoEntry" : Str), ("NoResult" : Str), ("BadProgram" : Str), ("BadChain" : Str), ("BadAlong" : Str), ("TooGreat" : Str), ("BadShape" : Str), ("BadEdit" : Str), ("BadGoal" : Str), ("BadBench" : Str), ("Clashing" : Str), ("NoAnswers" : Str), ("NothingDone" : Str)]
def wrldB (K : PySem.W.Frag) : Bool := eqO (PySem.W.specialIn K (.builtin "object.__class__") "__get__") (some (some (.builtin "getset_descriptor.__get__"))) && (decide (PySem.W.takesIn K (.builtin "object.__class__") = some true) &&
  (nms.all (fun x => !Nat.beq (ga K "SlopeError") (ga K x)) && (PySem.W.isClsIn K (ga K "SlopeError") && (decide (PySem.W.typeIn K (.ref (ga K "SlopeError")) = some (.type "type")) && decide (PySem.W.subIn K (.ref (ga K "SlopeError")) (.type "BaseException") = some true)))))
def x1 : List (Str × Str) := [(("BadRatio" : Str), ("what" : Str)), (("BadLetter" : Str), ("letter" : Str)), (("BadNumbers" : Str), ("index" : Str)), (("BadCell" : Str), ("cell" : Str)), (("BadOrder" : Str), ("what" : Str)), (("BadPoint" : Str), ("point" : Str)), (("BadTie" : Str), ("tie" : Str)), (("BadGrouping" : Str), ("index" : Str)), (("BadCount" : Str), ("count" : Str)), (("BadText" : Str), ("index" : Str)), (("BadModulus" : Str), ("modulus" : Str)), (("NotColumns" : Str), ("index" : Str)), (("NoGroup" : Str), ("group" : Str)), (("BadWalk" : Str), ("what" : Str)), (("NoAnswer" : Str), ("answer" : Str)), (("CantTake" : Str), ("letter" : Str)), (("BadMost" : Str), ("most" : Str)), (("TooMany" : Str), ("count" : Str)), (("BadBudget" : Str), ("what" : Str)), (("BadLines" : Str), ("index" : Str)), (("BadBlock" : Str), ("what" : Str)), (("BadWay" : Str), ("way" : Str)), (("BadPoints" : Str), ("index" : Str)), (("BadStranger" : Str), ("index" : Str)), (("BadValues" : Str), ("index" : Str)), (("NoEntry" : Str), ("entry" : Str)), (("NoResult" : Str), ("result" : Str)), (("BadAlong" : Str), ("index" : Str)), (("TooGreat" : Str), ("many" : Str)), (("BadGoal" : Str), ("what" : Str)), (("Clashing" : Str), ("weights" : Str))]
def x2 : List (Str × Str × Str) := [(("BadMould" : Str), ("what" : Str), ("index" : Str)), (("BadWeb" : Str), ("what" : Str), ("index" : Str)), (("BadAsk" : Str), ("index" : Str), ("what" : Str)), (("BadAnswers" : Str), ("index" : Str), ("what" : Str)), (("BadPlan" : Str), ("path" : Str), ("what" : Str)), (("BadPoly" : Str), ("what" : Str), ("index" : Str)), (("BadProgram" : Str), ("what" : Str), ("index" : Str)), (("BadEdit" : Str), ("index" : Str), ("what" : Str))]
def x0 : List Str := [("NotFree" : Str), ("BadPath" : Str), ("UnlikePolys" : Str), ("BadChain" : Str), ("BadShape" : Str), ("BadBench" : Str), ("NoAnswers" : Str), ("NothingDone" : Str)]
def exB (K : PySem.W.Frag) : Bool := wrldB K && (x1.all (oneB K) && (x2.all (twoB K) && x0.all (nulB K)))
def dFn (x : Str) (i : Nat) : DefD := ⟨(x, none), x, x, defArgs (top i), defBody (top i), defScope (top i), [], []⟩
def dIn (x ql : Str) (i : Nat) : DefD := ⟨(x, some "__init__"), "__init__", ql, defArgs (inClass (top i) 0), defBody (inClass (top i) 0), defScope (inClass (top i) 0), [], []⟩
def fn : List DefD := [dFn "_law_mixed" 51, dFn "_law_hand" 50, dFn "_law_take" 52, dFn "_law_first" 53, dFn "_law_second" 54, dFn "_law_all" 55, dFn "_law_couples" 56, dFn "_law_single" 57, dFn "_law_caught" 58, dFn "law" 59, dIn "BadRatio" "BadRatio.__init__" 2, dIn "BadLetter" "BadLetter.__init__" 4, dIn "BadNumbers" "BadNumbers.__init__" 5, dIn "BadCell" "BadCell.__init__" 6, dIn "BadOrder" "BadOrder.__init__" 7, dIn "BadPoint" "BadPoint.__init__" 9, dIn "BadTie" "BadTie.__init__" 10, dIn "BadGrouping" "BadGrouping.__init__" 11, dIn "BadCount" "BadCount.__init__" 12, dIn "BadText" "BadText.__init__" 14, dIn "BadModulus" "BadModulus.__init__" 16, dIn "NotColumns" "NotColumns.__init__" 18, dIn "NoGroup" "NoGroup.__init__" 19, dIn "BadWalk" "BadWalk.__init__" 20, dIn "NoAnswer" "NoAnswer.__init__" 21, dIn "CantTake" "CantTake.__init__" 22, dIn "BadMost" "BadMost.__init__" 23, dIn "TooMany" "TooMany.__init__" 24, dIn "BadBudget" "BadBudget.__init__" 25, dIn "BadLines" "BadLines.__init__" 26, dIn "BadBlock" "BadBlock.__init__" 27, dIn "BadWay" "BadWay.__init__" 28, dIn "BadPoints" "BadPoints.__init__" 29, dIn "BadStranger" "BadStranger.__init__" 32, dIn "BadValues" "BadValues.__init__" 35, dIn "NoEntry" "NoEntry.__init__" 36, dIn "NoResult" "NoResult.__init__" 37, dIn "BadAlong" "BadAlong.__init__" 40, dIn "TooGreat" "TooGreat.__init__" 41, dIn "BadGoal" "BadGoal.__init__" 44, dIn "Clashing" "Clashing.__init__" 46, dIn "BadMould" "BadMould.__init__" 3, dIn "BadWeb" "BadWeb.__init__" 8, dIn "BadAsk" "BadAsk.__init__" 13, dIn "BadAnswers" "BadAnswers.__init__" 15, dIn "BadPlan" "BadPlan.__init__" 30, dIn "BadPoly" "BadPoly.__init__" 33, dIn "BadProgram" "BadProgram.__init__" 38, dIn "BadEdit" "BadEdit.__init__" 43]
def fa : List Fa := [.glo "SlopeError", .glo "BadRatio", .glo "BadLetter", .glo "BadNumbers", .glo "BadCell", .glo "BadOrder", .glo "BadPoint", .glo "BadTie", .glo "BadGrouping", .glo "BadCount", .glo "BadText", .glo "BadModulus", .glo "NotColumns", .glo "NoGroup", .glo "BadWalk", .glo "NoAnswer", .glo "CantTake", .glo "BadMost", .glo "TooMany", .glo "BadBudget", .glo "BadLines", .glo "BadBlock", .glo "BadWay", .glo "BadPoints", .glo "BadStranger", .glo "BadValues", .glo "NoEntry", .glo "NoResult", .glo "BadAlong", .glo "TooGreat", .glo "BadGoal", .glo "Clashing", .glo "BadMould", .glo "BadWeb", .glo "BadAsk", .glo "BadAnswers", .glo "BadPlan", .glo "BadPoly", .glo "BadProgram", .glo "BadEdit", .glo "NotFree", .glo "BadPath", .glo "UnlikePolys", .glo "BadChain", .glo "BadShape", .glo "BadBench", .glo "NoAnswers", .glo "NothingDone", .glo "_law_mixed", .glo "_law_hand", .glo "_law_take", .glo "_law_first", .glo "_law_second", .glo "_law_all", .glo "_law_couples", .glo "_law_single", .glo "_law_caught", .glo "law", .free "len", .free "int", .free "abs", .free "isinstance", .free "ValueError", .free "repr", .free "range", .free "KeyError", .free "IndexError", .free "LookupError", .free "TypeError", .free "ArithmeticError"]
def adr : List Addr := [3, 24, 23, 44, 43, 41, 40, 63, 62, 60, 59, 82, 81, 79, 78, 101, 100, 98, 97, 120, 119, 117, 116, 139, 138, 136, 135, 158, 157, 155, 154, 177, 176, 174, 173, 196, 195, 193, 192, 215, 214, 212, 211, 234, 233, 231, 230, 253, 252, 250, 249, 272, 271, 269, 268, 291, 290, 288, 287, 310, 309, 307, 306, 322, 321, 341, 340, 338, 337, 360, 359, 357, 356, 379, 378, 376, 375, 398, 397, 395, 394, 417, 416, 414, 413, 436, 435, 433, 432, 455, 454, 452, 451, 474, 473, 471, 470, 493, 492, 490, 489, 512, 511, 509, 508, 531, 530, 528, 527, 550, 549, 547, 546, 569, 568, 566, 565, 581, 580, 600, 599, 597, 596, 619, 618, 616, 615, 631, 630, 650, 649, 647, 646, 669, 668, 666, 665, 688, 687, 685, 684, 707, 706, 704, 703, 719, 718, 738, 737, 735, 734, 757, 756, 754, 753, 769, 768, 788, 787, 785, 784, 807, 806, 804, 803, 819, 818, 838, 837, 835, 834, 850, 849, 862, 861, 871, 870, 878, 877, 885, 884, 892, 891, 899, 898, 906, 905, 911, 910, 916, 915, 923, 922, 928, 927]
abbrev AlH : Type := AlD × Bool
def obsH (g : Addr → Option Obj) : AlH := (obsD fa fn (frG g adr), exB (frG g adr))
def SaysH (K : PySem.W.Frag) : Prop := SaysD fa fn K ∧ exB K = true
def hk : PySem.W.Hook where
  α := AlH
  obs := fun s => obsH s.heap.get?
  val := fun _ => (valD fn, true)
  says := fun _ h => ∃ K : PySem.W.Frag, K.In h ∧ SaysH K
  of := fun _ _ e => ⟨_, frG_in, congrArg (fun z : AlH => z.1) e, congrArg (fun z : AlH => z.2) e⟩
  keeps := fun _ _ _ ⟨K, hK, c⟩ k => ⟨K, PySem.W.Frag.In.keeps hK k, c⟩
def ob (s : PySem.W.SharedT) : AlH := obsH (HandSHeadRun.getT s)
theorem ob_eq (s : PySem.W.SharedT) : ob s = hk.obs s.abs := by
  have e : HandSHeadRun.getT s = s.abs.heap.get? := funext (HandSHeadRun.getT_eq s)
  unfold ob
  rw [e]
  rfl
abbrev R : PySem.W.OpenRow := PySem.W.OpenLaw.row PySem.Challenge.rw_thinslopes_k71_all_errors_side_by_side
def keep : List Nat := [1, 2, 3, 4, 5, 6, 7, 8, 9, 10, 11, 12, 13, 14, 15, 16, 17, 18, 19, 20, 21, 22, 23, 24, 25, 26, 27, 28, 29, 30, 31, 32, 33, 34, 35, 36, 37, 38, 39, 40, 41, 42, 43, 44, 45, 46, 47, 48, 50, 51, 52, 53, 54, 55, 56, 57, 58, 59]
end Hx
namespace HandSHeadRun
open PySem PySem.W PySem.Calls PyProof.Rows Hx
/-- the state behind the top -/
noncomputable def endR (w : World) (os : OsState) : Option SharedT := endF (stepQ (denQ tabQ) R.prog w) 23678 R.prog w os
abbrev qR : Program := view R.prog keep
noncomputable def seenR (s : SharedT) := seenQ qR [] (importedModules R.prog.main.body) (fun s => xlAt qR [] s && recOk R.toRowW.records s) s.abs
abbrev goodR := openGood qR []
theorem runA (w : World) (os : OsState) : (endR w os).map (fun s => (looksF R.prog (boot_heap w.params) s.abs, seenR s)) = some (true, goodR) := by kernel_rfl
theorem runB (w : World) (os : OsState) : (endR w os).map (fun s => He.obsD fa fn (He.frG (getT s) adr)) = some (He.valD fn) := by kernel_rfl
theorem runC (w : World) (os : OsState) : (endR w os).map (fun s => exB (He.frG (getT s) adr)) = some true := by kernel_rfl
section
variable {α F G Y : Type} {o : Option α} {f : α → F} {l : F} {S : α → G} {g : G} {p : α → Y} {y : Y} {q : α → Bool}
theorem joinR (h1 : o.map (fun s => (f s, S s)) = some (l, g)) (h3 : o.map p = some y) (h4 : o.map q = some true) : o.map (fun s => (f s, S s, p s, q s)) = some (l, g, y, true) := by
  cases o with
  | none => cases h1
  | some s =>
    have e1 : (f s, S s) = (l, g) := Option.some.inj h1
    have e3 : p s = y := Option.some.inj h3
    have e4 : q s = true := Option.some.inj h4
    simp only [Prod.mk.injEq] at e1
    obtain ⟨a, b⟩ := e1
    show some (f s, S s, p s, q s) = some (l, g, y, true)
    rw [a, b, e3, e4]
end
theorem runR (w : World) : RunEq R qR hk ob 23678 [] w := by
  intro os
  show (endR w os).map (fun s => (looksF R.prog (boot_heap w.params) s.abs, seenR s, He.obsD fa fn (He.frG (getT s) adr), exB (He.frG (getT s) adr))) = some (true, goodR, He.valD fn, true)
  exact joinR (runA w os) (runB w os) (runC w os)
end HandSHeadRun
set_option Elab.async false
set_option linter.all false
set_option maxRecDepth 100000
set_option maxHeartbeats 4000000
/-! A def's promise where no display is being shown around it, so that repr of data may be called within. -/
namespace Gk
open PySem PySem.Spec PyProof.Rows L2
/-- nothing is being shown -/
def Quiet (A : Around) : Prop := A.guards = some []
theorem Quiet.dp {A : Around} {en : Env} (q : Quiet A) : Quiet (A.deeper en) := q
structure GOk (P : Program) (w : World) (K : PySem.W.Frag) (mg : Str → Option Value) (base : Heap)
    (CX : CXT) (k : Nat) (f : Addr) (fd : FuncData) (ps : List Str) (sp : Sp) : Prop where
  ln : ∀ xs H Q E, sp xs H Q E → xs.length = ps.length
  go : ∀ (A : Around) (ou : List Env) (st : Shared) (H : Hp) (ar : Args) (vs : List Value) (xs : List V) (Q : VK) (E : XK),
    Quiet A → Room k A → Env0 P w K mg base A ou st H → BindsTo st fd ar (ps.zip vs) → Vals xs vs → sp xs H Q E →
    codeAny (model P w) A (.call (.ref f) ar) (CR CX ou P w H st Q E) st
section
variable {P : Program} {w : World} {K : PySem.W.Frag} {mg : Str → Option Value} {base : Heap} {CX : CXT}
theorem GOk.up {j k : Nat} {f : Addr} {fd : FuncData} {ps : List Str} {sp : Sp}
    (G : GOk P w K mg base CX j f fd ps sp) (h : j ≤ k) : GOk P w K mg base CX k f fd ps sp :=
  ⟨G.ln, fun A ou st H ar vs xs Q E q r => G.go A ou st H ar vs xs Q E q (r.mono h)⟩
theorem GOk.ofF {k : Nat} {f : Addr} {fd : FuncData} {ps : List Str} {sp : Sp}
    (F : FnOk P w K mg base CX k f fd ps sp) : GOk P w K mg base CX k f fd ps sp :=
  ⟨F.len, fun A ou st H ar vs xs Q E _ r => F.run A ou st H ar vs xs Q E r⟩
/-- the body of a def, read where nothing is being shown -/
theorem g_body {nm ql : Str} {stm : Stmt} {f : Addr} {fd : FuncData} {N ps : List Str} {k : Nat} {sp : Sp}
    (F : ∃ (oc : Value) (od : Option Addr) (dV kV dc pm : Value) (an : Option Addr) (cv ct : Value) (sl : Array (Option Value)),
      fd = PySem.W.fnOf nm ql (defArgs stm) (defBody stm) (defScope stm) dV kV dc pm an cv ct ∧
      K.lookup f = some ⟨oc, od, .func fd, sl⟩ ∧ PySem.W.codeIn K cv ql = true)
    (S : FnScope N ps (defScope stm)) (ln : ∀ xs H Q E, sp xs H Q E → xs.length = ps.length)
    (hb : ∀ (cv : Value) (A : Around) (ou : List Env) (st : Shared) (H : Hp) (xs : List V) (Q : VK) (E : XK),
      Quiet A → Room k (A.deeper (envOfC ql (defScope stm) st.heap.objs.size f cv)) → sp xs H Q E →
      ∃ t, PSs (cxOf CX P w K mg base N ql (defScope stm) f cv A ou st H E) (defBody stm) t ∧
        t { nx := fun _ H' => Q .non H', rt := Q } (start N xs) H) :
    GOk P w K mg base CX (k + 1) f fd ps sp := by
  obtain ⟨oc, od, dV, kV, dc, pm, an, cv, ct, sl, ef, lk, hc⟩ := F
  subst ef
  refine ⟨ln, fun A ou st H ar vs xs Q E qa rm e0 bd rv hs => ?_⟩
  have e1 := ln _ _ _ _ hs
  have kin : K.In st.heap := e0.mod.kin.keeps fun b o z => (e0.bs b o z).1
  have nol : st.heap.NoLimit := e0.mod.nolimit.keeps fun b o z => (e0.bs b o z).1
  have knd : ∀ y ∈ ps.zip vs, (defScope stm).names.lookup y.1 = some .local ∨
      ((defScope stm).names.lookup y.1 = some .cell ∧
        ((cellsFrom (st.heap.objs.size + 1) (defScope stm).names []).lookup y.1).isSome = true) := by
    rintro ⟨n, v⟩ hy
    cases S.par n (List.of_mem_zip hy).1 with
    | inl z => exact Or.inl z
    | inr z => exact Or.inr ⟨z, PySem.W.cellsFrom_some _ _ _ (Or.inl z)⟩
  refine codeAny_call_function rm.depth (kin _ _ lk) rfl S.co S.gen rfl (PySem.W.codeRec_of kin hc) (bd _ _ _ _ ?_)
  refine wpAny_newFunctionEnv_cells S.kind knd fun en hen s1 ic => ?_
  subst hen
  refine ⟨nol.keeps ic.toInCall.keep, codeAny_func ?_⟩
  obtain ⟨t, pt, ht⟩ := hb cv A ou st H xs Q E qa (rm.deeper _) hs
  have J := inv_start (CX := CX) (E := E) S rm.hd e0 e1 rv ic
  refine wpAny_mono (pt.run [] s1 (start N xs) H _ J ht) (fun fl s2 z => ?_) fun _ _ z => z
  cases fl with
  | ret u =>
    obtain ⟨v, σ2, H2, J2, rr, q2⟩ := z
    exact ⟨v, H2, J2.os, J2.bare, J2.base, J2.hok, rr, q2⟩
  | next =>
    obtain ⟨σ2, H2, J2, q2⟩ := z
    exact ⟨V.non, H2, J2.os, J2.bare, J2.base, J2.hok, rfl, q2⟩
  | brk => exact z.elim fun _ z => z.elim fun _ z => z.2.elim
  | cont => exact z.elim fun _ z => z.elim fun _ z => z.2.elim
theorem fun_ex {nm ql : Str} {stm : Stmt} {f : Addr} {fd : FuncData} (F : Fun K nm ql stm f fd) :
    ∃ (oc : Value) (od : Option Addr) (dV kV dc pm : Value) (an : Option Addr) (cv ct : Value) (sl : Array (Option Value)),
      fd = PySem.W.fnOf nm ql (defArgs stm) (defBody stm) (defScope stm) dV kV dc pm an cv ct ∧
      K.lookup f = some ⟨oc, od, .func fd, sl⟩ ∧ PySem.W.codeIn K cv ql = true := by
  obtain ⟨oc, od, kV, dc, pm, an, cv, ct, sl, a, b, c⟩ := F.ex
  exact ⟨oc, od, .none, kV, dc, pm, an, cv, ct, sl, a, b, c⟩
end
section
variable {X : Cx} {CX : CXT} {k : Nat} {f : Addr} {fd : FuncData} {ps : List Str} {sp : Sp} {dvs : List V} {ds : List Value} {E : XK}
theorem g_run {pins : List (Addr × Obj)} {σ : L2.St} {H : Hp} {st : Shared} {Q : VK} {vs : List Value} {xs : List V}
    (G : GOk X.prog X.w X.K X.mg X.base CX k f fd ps sp) (qa : Quiet X.A) (rm : Room k X.A) (hb : Binds X.K fd ps ds)
    (hd : Vals dvs ds) (hx : Passes CX X E) (I : Inv X pins σ H st) (r : Vals xs vs) (h : sp (xs ++ dvs) H Q E) :
    wpAny (model X.prog X.w) X.A (call (.ref f) vs) (EP X pins σ Q) X.xe st := by
  have rr : Vals (xs ++ dvs) (vs ++ ds) := Vals.append r hd
  have el : (vs ++ ds).length = ps.length := (Vals.length rr).symm.trans (G.ln _ _ _ _ h)
  have c := G.go X.A X.stack st H ⟨vs, []⟩ (vs ++ ds) (xs ++ dvs) Q E qa rm I.env0 (hb st vs I.kIn el) rr h
  refine wpAny_call (codeAny_mono c fun res s2 z => ?_)
  cases res with
  | error e => exact hx pins σ H st e s2 I z
  | ok fl => cases fl <;> first | exact I.after z | exact False.elim z
theorem pe_g {x : Str} {p pos : Pos} {e : Expr} {es : List Expr} {t : TA}
    (G : GOk X.prog X.w X.K X.mg X.base CX k f fd ps sp) (qa : Quiet X.A) (rm : Room k X.A) (hg : Gl X x)
    (hm : X.mg x = some (.ref f)) (hk : PySem.W.keepIn X.K (.ref f) = true) (hb : Binds X.K fd ps ds) (hd : Vals dvs ds)
    (hx : Passes CX X E) (ha : PA X (e :: es) t) (hdb : (x == ("__debug__" : Str)) = false := by decide)
    (he : starEach (e :: es) X.env = (false, eval e X.env) :: starEach es X.env := by rfl)
    (hpl : (backTo pos (starEach es X.env)).any (·.1) = false := by rfl) :
    PE X (.Call (.Name x p) (e :: es) [] pos) (tCall sp dvs E t) := by
  constructor
  intro pins s σ H Q I h
  refine wpAny_Call_Name_kw (ld_glob I hg hm ?_ hdb)
  refine PySem.W.callWith_K (h₀ := X.base) I.ok.mod.kin hk ?_ he hpl
  refine thn (ha.run pos pins s σ H _ I h) fun us s1 z => ?_
  obtain ⟨xs, H1, I1, r, q⟩ := z
  exact ⟨I1.kIn, g_run G qa rm hb hd hx I1 r q⟩
end
/-! ### repr of data -/
/-- repr(x): x a whole of data without dicts -/
def rRepr (K : PySem.W.Frag) : List V → Hp → VK → Prop := fun xs H Q => ∃ (x : V) (d : PyData), xs = [x] ∧ Dp K H x d ∧
  d.showable = true ∧ d.hasDict = false ∧ d.depth ≤ 50 ∧ d.shown.length ≤ sizeLine ∧ Q (.str d.shown) H
theorem call_repr {X : Cx} (qa : Quiet X.A) (hu : X.A.units + 64 < cLine) : CallR X (.builtin "repr") (rRepr X.K) := by
  intro pins s σ H xs us Q I r h
  obtain ⟨x, d, rfl, hd, sh, nd, dp, sz, q⟩ := h
  obtain ⟨u, rfl, ru⟩ := vals1 r
  obtain ⟨as, rd⟩ := Dp.reads I d x u hd ru
  have keep : ∀ (h' : Heap) (t : Tok) (tk : Nat), (∀ b o, s.heap.get? b = some o → h'.get? b = some o) →
      EP X pins σ Q (.str d.shown t) { s with heap := h', toks := tk } :=
    fun h' t tk k => ⟨.str d.shown, H, I.kept (t' := tk) k, ⟨t, rfl⟩, q⟩
  have flat : ∀ (t : Tok) (tk : Nat), EP X pins σ Q (.str d.shown t) { s with toks := tk } :=
    fun t tk => ⟨.str d.shown, H, I.tok tk, ⟨t, rfl⟩, q⟩
  cases d with
  | none => cases rd; exact PySem.P.repr_of_none (flat _ _)
  | bool b => cases rd; exact PySem.P.repr_of_bool (flat _ _)
  | int i =>
    cases rd
    exact PySem.P.repr_of_int (of_decide_eq_true (by simpa only [PyData.showable] using sh)) (flat _ _)
  | str y => cases rd; exact PySem.P.repr_of_str (flat _ _) sz
  | list ds =>
    cases rd with
    | list a1 a2 a3 a4 => exact repr_of_reads' (.list a1 a2 a3 a4) sh (PyData.noDict_hsm nd) qa (by omega) (fun _ _ z => z) (fun h' t tk k => keep h' t tk k) sz
  | tuple ds =>
    cases rd with
    | tuple a1 a2 a3 a4 => exact repr_of_reads' (.tuple a1 a2 a3 a4) sh (PyData.noDict_hsm nd) qa (by omega) (fun _ _ z => z) (fun h' t tk k => keep h' t tk k) sz
  | dict kv => simp only [PyData.hasDict] at nd; cases nd
/-! ### the end of a law's row, the law's def being quiet -/
/-- the law's call, from a heap in which at most the script is tracked -/
theorem end_core {P : Program} {w : World} {K : PySem.W.Frag} {mg mb : Str → Option Value} {CX : CXT} {k : Nat} {fa a : Addr} {fd : FuncData}
    {x : Str} {sp : Sp} {st : Shared} {vs : List Value} {H : Hp}
    (KX : K.In st.heap) (hn : st.heap.Ns mainGlobals mg) (hb : st.heap.Ns builtinsNs mb)
    (hbb : ∀ y : Str, y ≠ "__name__" → mb y = bootBuiltins y) (hlim : st.heap.NoLimit) (hg : st.gens = #[])
    (ha : st.heap.get? a = some { cls := .type "list", data := .seq vs.toArray }) (rm : Room k callerA)
    (G : ∀ base : Heap, K.In base → base.Ns mainGlobals mg → GOk P w K mg base CX k fa fd [x] sp)
    (hbind : ∀ (s : Shared) (u : Value), BindsTo s fd ⟨[u], []⟩ [(x, u)])
    (hsp : sp [.ref a] H (fun v _ => v = .bl true) fun _ _ _ => False)
    (hCX : ∀ e s', CX [] H st (fun _ _ _ => False) e s' → False)
    (hO : Only H) (hok : HOk P w H st.heap) (hA : ∀ b, H b ≠ none → b = a) (hK : H a ≠ none → K.lookup a = none) :
    codeAny (model P w) callerA (.call (.ref fa) ⟨[.ref a], []⟩)
      (fun r s' => r = .ok (.ret (.bool true)) ∧ OldK st.heap s'.heap ∧ s'.os = st.os ∧ AllBare s'.gens) st := by
  have only : ∀ {b : Addr} {u : HO}, H b = some u → b = a := fun {b u} q => hA b (by rw [q]; exact fun z => nomatch z)
  have under : ∀ {b : Addr} {o : Obj}, st.heap.get? b = some o → H b = none → (hidT st.heap H).get? b = some o :=
    fun z n => hidT_get z n
  have free : ∀ {b : Addr} {o : Obj} {es : Array DictEntry} {ep : Nat}, st.heap.get? b = some o → o.data = .dict es ep → H b = none := by
    intro b o es ep z d
    cases q : H b with
    | none => rfl
    | some u =>
      have z2 := z
      rw [only q, ha] at z2
      have z3 := Option.some.inj z2
      rw [← z3] at d
      exact nomatch d
  have ns' : ∀ {b : Addr} {m : Str → Option Value}, st.heap.Ns b m → (hidT st.heap H).Ns b m := by
    rintro b m ⟨o, es, ep, z, d, r⟩
    exact ⟨o, es, ep, under z (free z d), d, r⟩
  have kin : K.In (hidT st.heap H) := by
    intro b o z
    refine under (KX b o z) ?_
    cases q : H b with
    | none => rfl
    | some u =>
      have e1 := only q
      rw [e1] at z q
      rw [hK (by rw [q]; exact fun z => nomatch z)] at z
      exact nomatch z
  obtain ⟨mc, l1, l2⟩ := hlim
  have md : Mod K mg (hidT st.heap H) := ⟨kin, ns' hn, ⟨mb, ns' hb, hbb⟩, ⟨mc, ns' l1, l2⟩⟩
  have e0 : Env0 P w K mg (hidT st.heap H) callerA [] st H :=
    ⟨rfl, md, fun b o z => of_hidT z, Nat.le_of_eq (hidT_size _ _), trivial, fun b z => absurd (show b ∈ ([] : List Addr) from z) List.not_mem_nil, hok, .of_eq hg⟩
  have c := (G _ kin (ns' hn)).go callerA [] st H ⟨[.ref a], []⟩ [.ref a] [.ref a] _ _ rfl rm e0 (hbind st (.ref a)) (.cons rfl .nil) hsp
  refine codeAny_mono c fun r s' z => ?_
  cases r with
  | error e => exact (hCX e s' z).elim
  | ok fl =>
    cases fl with
    | next => exact False.elim z
    | brk => exact False.elim z
    | cont => exact False.elim z
    | ret u =>
      obtain ⟨v, H2, os, br, un, ok2, rv, q⟩ := z
      have q2 : v = .bl true := q
      rw [q2] at rv
      have rv2 : u = Value.bool true := rv
      rw [rv2]
      refine ⟨rfl, OldK.of_keep fun b o y => ?_, os, br⟩
      cases q3 : H b with
      | none => exact un.keep b o y q3 (fun z => absurd (show b ∈ ([] : List Addr) from z) List.not_mem_nil) List.not_mem_nil
      | some u2 =>
        rcases hO b with z | ⟨ob, ys, z⟩
        · rw [q3] at z
          exact nomatch z
        · obtain ⟨y1, _⟩ := hok b _ z
          obtain ⟨y2, _⟩ := ok2 b _ (un.frzs b ob _ z)
          rw [y] at y1
          rw [Option.some.inj y1]
          exact y2
theorem end_call {P : Program} {w : World} {K : PySem.W.Frag} {mg mb : Str → Option Value} {CX : CXT} {k : Nat} {fa a : Addr} {fd : FuncData}
    {x : Str} {sp : Sp} {st : Shared} {vs : List Value} {ns : List Int}
    (KX : K.In st.heap) (hn : st.heap.Ns mainGlobals mg) (hb : st.heap.Ns builtinsNs mb)
    (hbb : ∀ y : Str, y ≠ "__name__" → mb y = bootBuiltins y) (hlim : st.heap.NoLimit) (hg : st.gens = #[])
    (ha : st.heap.get? a = some { cls := .type "list", data := .seq vs.toArray }) (hi : IntsAre vs ns) (hl : ns.length ≤ sizeLine) (rm : Room k callerA)
    (G : ∀ base : Heap, K.In base → base.Ns mainGlobals mg → GOk P w K mg base CX k fa fd [x] sp)
    (hbind : ∀ (s : Shared) (u : Value), BindsTo s fd ⟨[u], []⟩ [(x, u)])
    (hsp : ∀ H : Hp, Only H → SqL K H a (ns.map V.int) → sp [.ref a] H (fun v _ => v = .bl true) fun _ _ _ => False)
    (hCX : ∀ H e s', CX [] H st (fun _ _ _ => False) e s' → False) :
    codeAny (model P w) callerA (.call (.ref fa) ⟨[.ref a], []⟩)
      (fun r s' => r = .ok (.ret (.bool true)) ∧ OldK st.heap s'.heap ∧ s'.os = st.os ∧ AllBare s'.gens) st := by
  have rv := vals_ints hi
  have ln := hi.length
  cases hk : K.lookup a with
  | some o =>
    have z := KX a o hk
    rw [ha] at z
    have z2 := (Option.some.inj z).symm
    subst z2
    let H0 : Hp := fun _ => none
    have S0 : SqL K H0 a (ns.map V.int) := .inr ⟨_, vs.toArray, _, hk, rfl, rfl, rfl, by rw [List.size_toArray, ln]; exact hl, by simpa using rv⟩
    have O0 : Only H0 := fun _ => .inl rfl
    exact end_core KX hn hb hbb hlim hg ha rm G hbind (hsp H0 O0 S0) (hCX H0) O0 (fun b u z => nomatch (show (none : Option HO) = some u from z))
      (fun b z => absurd rfl z) (fun z => absurd rfl z)
  | none =>
    let fz : HO := .frz { cls := .type "list", data := .seq vs.toArray } (.lst (ns.map V.int))
    let H1 : Hp := fun b => if b = a then some fz else none
    have at_a : H1 a = some fz := if_pos rfl
    have off : ∀ b, b ≠ a → H1 b = none := fun b hb => if_neg hb
    have O1 : Only H1 := by
      intro b
      by_cases e : b = a
      · exact .inr ⟨_, _, by rw [e]; exact at_a⟩
      · exact .inl (off b e)
    have on : ∀ b, H1 b ≠ none → b = a := by
      intro b z
      by_cases e : b = a
      · exact e
      · exact absurd (off b e) z
    refine end_core KX hn hb hbb hlim hg ha rm G hbind (hsp H1 O1 (.inl (.inr ⟨_, at_a⟩))) (hCX H1) O1 (fun b u z => ?_) on fun _ => hk
    have e : b = a := on b (by rw [z]; exact fun z => nomatch z)
    subst e
    rw [at_a] at z
    have z2 := Option.some.inj z
    subst z2
    exact ⟨ha, by rw [List.length_map]; exact hl, vs, _, rv, ha⟩
theorem walk_G {l : PySem.W.OpenLaw} {n k : Nat} {q : Program} {loose : List Str} {XP : (Str → Option Value) → Heap → Prop} {YP : World → Heap → Prop}
    {d : DefRec} {K : Params → PySem.W.Frag} {CX : World → CXT} {sp : World → Sp} {x : Str}
    (hn : l.most = some n) (hn2 : n ≤ sizeLine) (hdf : d.params.defaults = []) (rm : Room k callerA)
    (hY : ∀ (w : World) (h : Heap), YP w h → (K w.params).In h)
    (F : ∀ (w : World) (mg : Str → Option Value) (fa : Addr) (h : Heap), (K w.params).In h → h.Ns mainGlobals mg → mg d.name = some (.ref fa) →
      ∃ fd : FuncData, (∀ (s : Shared) (u : Value), BindsTo s fd ⟨[u], []⟩ [(x, u)]) ∧
        ∀ base : Heap, (K w.params).In base → base.Ns mainGlobals mg → GOk l.prog w (K w.params) mg base (CX w) k fa fd [x] (sp w))
    (hsp : ∀ (w : World) (H : Hp) (a : Addr) (ns : List Int), ns.length ≤ n → (∀ z ∈ ns, Builtin.Int.intBits z ≤ 1048576) → Only H →
      SqL (K w.params) H a (ns.map V.int) → sp w [.ref a] H (fun v _ => v = .bl true) fun _ _ _ => False)
    (hCX : ∀ (w : World) (H : Hp) (s : Shared) (e : Value) (s' : Shared), CX w [] H s (fun _ _ _ => False) e s' → False) :
    PySem.W.WalkO q loose XP YP l.row.toRowW d [] (fun f vs => PySem.call f vs) := by
  refine Att.attach_callB hn hdf ?_
  intro w s0 s1 mg mb fa o pm cd doc a vs ns Gr Y ho hd hcd hmg hobj hints hlen hbits hg
  have KX := hY w _ Y
  obtain ⟨fd, hb, hF⟩ := F w mg fa _ KX Gr.T.g hmg
  exact end_call KX Gr.T.g Gr.T.b Gr.T.builtins Gr.T.nolimit hg hobj hints (Nat.le_trans hlen hn2) rm hF hb
    (fun H hO hS => hsp w H a ns hlen hbits hO hS) (fun H e s' => hCX w H s1 e s')
end Gk
set_option Elab.async false
set_option linter.all false
set_option maxRecDepth 100000
set_option maxHeartbeats 4000000
/-! Exceptions of the program's own classes held as values: made, asked for their class, their fields read. -/
namespace Gk
open PySem PySem.Spec PyProof.Rows L2
/-- the chain behind a class that stands directly under the class at S -/
def XM (S : Addr) : List Value := [.ref S, .type "ValueError", .type "Exception", .type "BaseException", .type "object"]
/-- what stands of every class of errors -/
structure XG (K : PySem.W.Frag) : Prop where
  gt : PySem.W.specialIn K (.builtin "object.__class__") "__get__" = some (some (.builtin "getset_descriptor.__get__"))
  tk : PySem.W.takesIn K (.builtin "object.__class__") = some true
/-- an error class under the class at S -/
structure XC (K : PySem.W.Frag) (S C : Addr) (nm : Str) : Prop where
  row : ∃ q N bs sn sub ab col dd k0 k1 k2 k3 k5, K.lookup C = some (excClassObj nm q C N bs (XM S) true sn sub ab col dd k0 k1 k2 k3 k5 "ValueError.__new__")
  sa : PySem.W.findIn K (.ref C) "__setattr__" = some (some (.builtin "object.__setattr__"))
  ga : PySem.W.findIn K (.ref C) "__getattribute__" = some (some (.builtin "BaseException.__getattribute__"))
  gg : PySem.W.findIn K (.ref C) "__getattr__" = some none
  cl : PySem.W.findIn K (.ref C) "__class__" = some (some (.builtin "object.__class__"))
  kp : PySem.W.keepIn K (.ref C) = true
section
variable {K : PySem.W.Frag} {S C D : Addr} {nm nm' : Str}
theorem XC.cls (x : XC K S C nm) : ∃ cd, PySem.W.clsIn K C = some cd ∧ cd.mro = .ref C :: XM S ∧ cd.hasDict = true := by
  obtain ⟨q, N, bs, sn, sub, ab, col, dd, k0, k1, k2, k3, k5, e⟩ := x.row
  refine ⟨_, by unfold PySem.W.clsIn; rw [e], rfl, rfl⟩
theorem XC.mro (x : XC K S C nm) (b : Value) : PySem.W.mroIn K C b = some ((Value.ref C :: XM S).contains b) := by
  obtain ⟨cd, e, m, _⟩ := x.cls
  unfold PySem.W.mroIn
  rw [e, Option.bind_some, m, if_neg (by intro z; exact nomatch z)]
theorem XC.dct (x : XC K S C nm) : PySem.W.hasDictIn K C = true := by
  obtain ⟨cd, e, _, h⟩ := x.cls
  unfold PySem.W.hasDictIn
  rw [e]
  exact h
theorem XC.typ (x : XC K S C nm) : PySem.W.typeIn K (.ref C) = some (.type "type") := by
  obtain ⟨q, N, bs, sn, sub, ab, col, dd, k0, k1, k2, k3, k5, e⟩ := x.row
  show (K.lookup C).map (·.cls) = _
  rw [e]
  rfl
theorem XC.bex (x : XC K S C nm) : PySem.W.subIn K (.ref C) (.type "BaseException") = some true := x.mro _
theorem XC.obj (x : XC K S C nm) : PySem.W.mroIn K C (.type "object") = some true := x.mro _
theorem refs_XM : PySem.HandSPX.refsVE (XM S) = true := by
  show (([.type "ValueError", .type "Exception", .type "BaseException", .type "object"] : List Value) == PySem.HandSPX.veTail) = true
  decide +kernel
theorem XC.oex (x : XC K S C nm) : OexC K C := by
  obtain ⟨q, N, bs, sn, sub, ab, col, dd, k0, k1, k2, k3, k5, e⟩ := x.row
  exact ⟨⟨nm, q, N, bs, XM S, sn, sub, ab, col, dd, k0, k1, k2, k3, k5, e, refs_XM⟩, x.sa, x.bex, x.typ, x.kp⟩
/-- classes of unlike names stand apart -/
theorem XC.ne (x : XC K S C nm) (y : XC K S D nm') (h : nm ≠ nm') : C ≠ D := by
  rintro rfl
  obtain ⟨q, N, bs, sn, sub, ab, col, dd, k0, k1, k2, k3, k5, e⟩ := x.row
  obtain ⟨q', N', bs', sn', sub', ab', col', dd', l0, l1, l2, l3, l5, e'⟩ := y.row
  rw [e] at e'
  have z := Option.some.inj e'
  injection z with _ _ z2 _
  injection z2 with z3
  injection z3 with z4
  exact h z4
theorem beq_ref (a b : Addr) : (Value.ref a == Value.ref b) = decide (a = b) := by
  by_cases h : a = b
  · subst h
    simp
  · rw [decide_eq_false h]
    exact beq_eq_false_iff_ne.mpr fun e => h (Value.ref.inj e)
theorem XC.kitSame (x : XC K S C nm) : PySem.W.kitOne K (.ref C) (.ref C) = some true := by
  unfold PySem.W.kitOne
  rw [if_pos (by simp)]
theorem XC.kitNe (x : XC K S C nm) (y : XC K S D nm') (h : C ≠ D) (hS : S ≠ D) : PySem.W.kitOne K (.ref C) (.ref D) = some false := by
  obtain ⟨cd, e, _⟩ := y.cls
  have e1 : (Value.ref C == Value.ref D) = false := by rw [beq_ref, decide_eq_false h]
  have e2 : (Value.ref S == Value.ref D) = false := by rw [beq_ref, decide_eq_false hS]
  unfold PySem.W.kitOne
  rw [e1, if_neg Bool.false_ne_true]
  unfold PySem.W.kitCls
  simp only [e, y.typ, Option.isSome_some, Bool.true_and, beq_self_eq_true, if_true]
  show PySem.W.mroIn K C (.ref D) = some false
  rw [x.mro]
  have e1' : (Value.ref D == Value.ref C) = false := by rw [beq_ref, decide_eq_false (Ne.symm h)]
  have e2' : (Value.ref D == Value.ref S) = false := by rw [beq_ref, decide_eq_false (Ne.symm hS)]
  simp only [XM, List.contains_cons, e1', e2', Bool.false_or, List.contains_nil, Bool.or_false]
  rfl
theorem XC.kitTy (x : XC K S C nm) {T : String} {b : Bool} (hm : PySem.W.kitMeta T = true) (h : ([.type "ValueError", .type "Exception", .type "BaseException", .type "object"] : List Value).contains (.type T) = b) :
    PySem.W.kitOne K (.ref C) (.type T) = some b := by
  unfold PySem.W.kitOne
  rw [if_neg (by intro z; cases (beq_iff_eq.mp z))]
  unfold PySem.W.kitCls
  simp only [hm, if_true]
  show PySem.W.mroIn K C (.type T) = some b
  rw [x.mro]
  have e1 : (Value.type T == Value.ref C) = false := beq_eq_false_iff_ne.mpr fun z => nomatch z
  have e2 : (Value.type T == Value.ref S) = false := beq_eq_false_iff_ne.mpr fun z => nomatch z
  rw [← h]
  simp only [XM, List.contains_cons, e1, e2, Bool.false_or]
/-- the class S itself -/
structure XB (K : PySem.W.Frag) (S : Addr) : Prop where
  ic : PySem.W.isClsIn K S = true
  ty : PySem.W.typeIn K (.ref S) = some (.type "type")
  bx : PySem.W.subIn K (.ref S) (.type "BaseException") = some true
theorem XC.kitBase (x : XC K S C nm) (y : XB K S) : PySem.W.kitOne K (.ref C) (.ref S) = some true := by
  unfold PySem.W.kitOne
  by_cases h : (Value.ref C == Value.ref S) = true
  · rw [if_pos h]
  · rw [if_neg h]
    unfold PySem.W.kitCls
    have i : (PySem.W.clsIn K S).isSome = true := y.ic
    simp only [i, y.ty, Bool.true_and, beq_self_eq_true, if_true]
    show PySem.W.mroIn K C (.ref S) = some true
    rw [x.mro]
    simp [XM]
theorem XC.exm (x : XC K S C nm) (y : XB K S) (h : C ≠ S) : PySem.W.exmOne K (.ref C) (.ref S) = some true := by
  have k := x.kitBase y
  unfold PySem.W.kitOne at k
  rw [if_neg (by rw [beq_ref, decide_eq_false h]; exact Bool.false_ne_true)] at k
  unfold PySem.W.exmOne
  rw [if_pos (by rw [y.bx] <;> rfl)]
  exact k
end
/-- an error of the class at C at e, its dict at d | none -/
def XAt (H : Hp) (e C : Addr) (fs : List (Str × V)) : Prop :=
  (fs = [] ∧ H e = some (exo e C none)) ∨ ∃ d, d ≠ e ∧ H e = some (exo e C (some d)) ∧ H d = some (exd d fs)
section
variable {X : Cx} {pins : List (Addr × Obj)} {σ : L2.St} {H : Hp} {st : Shared} {e C S : Addr} {fs : List (Str × V)} {nm : Str}
theorem XAt.keep {H' : Hp} (x : XAt H e C fs) (k : ∀ b o, H b = some o → H' b = some o) : XAt H' e C fs := by
  rcases x with ⟨a, b⟩ | ⟨d, n, a, b⟩
  · exact .inl ⟨a, k _ _ b⟩
  · exact .inr ⟨d, n, k _ _ a, k _ _ b⟩
theorem XAt.inst (x : XAt H e C fs) (I : Inv X pins σ H st) : ∃ ox od, PySem.W.InstAt st.heap e ox C od := by
  rcases x with ⟨_, a⟩ | ⟨d, _, a, b⟩
  · obtain ⟨t, h⟩ := exo_at I.hok a
    exact ⟨_, none, h, rfl, rfl, trivial⟩
  · obtain ⟨t, h⟩ := exo_at I.hok a
    obtain ⟨mA, ⟨o, es, ep, g, _⟩, _⟩ := exd_at I.hok b
    exact ⟨_, some o, h, rfl, rfl, g⟩
/-- isinstance(e, c) -/
def rIsX (K : PySem.W.Frag) (S : Addr) : List V → Hp → VK → Prop := fun xs H Q => ∃ (e C : Addr) (fs : List (Str × V)) (nm : Str) (c : V) (u : Value) (b : Bool),
  xs = [.ref e, c] ∧ ClsV c u ∧ XAt H e C fs ∧ XC K S C nm ∧ PySem.W.kitOne K (.ref C) u = some b ∧ Q (.bl b) H
def rIsXT (K : PySem.W.Frag) (S : Addr) : List V → Hp → VK → Prop := fun xs H Q => ∃ (e C tp : Addr) (fs : List (Str × V)) (nm : Str) (cs : List V) (us : List Value) (b : Bool),
  xs = [.ref e, .ref tp] ∧ H tp = some (.tup cs) ∧ Paired ClsV cs us ∧ XAt H e C fs ∧ XC K S C nm ∧ PySem.W.kitAny K (.ref C) us = some b ∧ Q (.bl b) H
theorem XC.kitx (x : XC X.K S C nm) (g : XG X.K) {ox : Obj} {od : Option Obj} : PySem.W.KitX X.K (.ref e) (.ref C) (fun h => PySem.W.InstAt h e ox C od) := by
  obtain ⟨cd, z, _⟩ := x.cls
  exact PySem.W.kitx_exc (by rw [z]; rfl) x.ga x.gg x.bex x.cl g.gt g.tk x.obj
theorem call_isX (g : XG X.K) : CallR X (.builtin "isinstance") (rIsX X.K S) := by
  intro pins s σ H xs us Q I r h
  obtain ⟨e, C, fs, nm, c, u, b, rfl, hc, hx, x, hk, q⟩ := h
  obtain ⟨u1, u2, rfl, r1, r2⟩ := vals2 r
  cases (show u1 = Value.ref e from r1)
  cases hc.eq r2
  obtain ⟨ox, od, J⟩ := hx.inst I
  exact PySem.W.kia_one (x.kitx g) I.kIn J hk (fun z => nomatch z) fun tk => ⟨.bl b, H, I.tok tk, rfl, q⟩
theorem call_isXT (g : XG X.K) : CallR X (.builtin "isinstance") (rIsXT X.K S) := by
  intro pins s σ H xs us Q I r h
  obtain ⟨e, C, tp, fs, nm, cs, ws, b, rfl, ht, hc, hx, x, hk, q⟩ := h
  obtain ⟨u1, u2, rfl, r1, r2⟩ := vals2 r
  cases (show u1 = Value.ref e from r1)
  cases (show u2 = Value.ref tp from r2)
  obtain ⟨ox, od, J⟩ := hx.inst I
  obtain ⟨_, its, rv, o, h1, h2, n, h3⟩ := (show ObjOk X.prog X.w H s.heap tp (.tup cs) from I.hok tp _ ht)
  cases ClsV.all hc rv
  obtain ⟨oc, odd, dt, sl⟩ := o
  dsimp only at h2 h3
  cases h2
  cases h3
  exact PySem.W.kia_tup (x.kitx g) I.kIn J h1 hk (fun z => nomatch z) fun tk => ⟨.bl b, H, I.tok tk, rfl, q⟩
/-- e.f -/
def tXf (K : PySem.W.Frag) (S : Addr) (f : Str) (te : TE) : TE := fun σ H Q => te σ H fun x H1 => ∃ (e C d : Addr) (fs : List (Str × V)) (nm : Str) (v : V),
  x = .ref e ∧ H1 e = some (exo e C (some d)) ∧ H1 d = some (exd d fs) ∧ XC K S C nm ∧ PySem.W.findIn K (.ref C) f = some none ∧ fs.lookup f = some v ∧ Q v H1
theorem pe_xf {o : Expr} {f : Str} {te : TE} {pos : Pos} (he : PE X o te) (hb : attributeBase o f X.env (eval o X.env) = eval o X.env := by rfl) :
    PE X (.Attribute o f pos) (tXf X.K S f te) := by
  refine ⟨fun pins s σ H Q I h => ?_⟩
  refine attr_of hb (thn (he.run pins s σ H _ I h) fun u s1 z => ?_)
  obtain ⟨y, H1, I1, ry, e, C, d, fs, nm, v, rfl, ea, ed, x, hno, hl, q⟩ := z
  cases (show u = Value.ref e from ry)
  obtain ⟨t1, ho⟩ := exo_at I1.hok ea
  obtain ⟨mA, hns, rel⟩ := exd_at I1.hok ed
  obtain ⟨od, hod, hlook⟩ := lookIn_ns hns
  have J : PySem.W.InstAt s1.heap e _ C (some od) := ⟨ho, rfl, rfl, hod⟩
  have rr := rel f
  rw [hl] at rr
  obtain ⟨w, hw, rw'⟩ := RelO.some_of rr
  exact HandSPX.exc_get I1.kIn J x.ga x.gg x.bex (PySem.W.findObj_own x.dct hno rfl (by rw [hlook, hw])) (handed_of rw') ⟨v, H1, I1.tok _, rw', q⟩
end
end Gk
set_option Elab.async false
set_option linter.all false
set_option maxRecDepth 100000
set_option maxHeartbeats 4000000
namespace Gk
open PySem PySem.Spec PyProof.Rows L2
/-- C(e, ..) as a value, C an error class with an __init__ of its own that keeps sp -/
def tMkV (C : Addr) (sp : Sp) (dvs : List V) (ta : TA) : TE := fun σ H Q => ta σ H fun vs H1 => vs.length ≤ 1000 ∧
  ∀ a, H1 a = none → sp (.ref a :: (vs ++ dvs)) (upd H1 a (exo a C none)) (fun v H2 => v = .non ∧ Q (.ref a) H2) fun _ _ _ => False
section
variable {X : Cx} {CX : CXT} {k : Nat} {C fI : Addr} {fd : FuncData} {ps : List Str} {sp : Sp} {dvs : List V} {ds : List Value}
theorem run_mkx {pins : List (Addr × Obj)} {σ : L2.St} {H : Hp} {st : Shared} {Q : VK} {us : List Value} {vs : List V} (T : OexC X.K C)
    (iC : PySem.W.findIn X.K (.ref C) "__init__" = some (some (.ref fI))) (tI : PySem.W.typeIn X.K (.ref fI) = some (.type "function"))
    (F : FnOk X.prog X.w X.K X.mg X.base CX k fI fd ps sp) (rm : Room (k + 1) X.A) (hb : Binds X.K fd ps ds) (hd : Vals dvs ds)
    (hx : Passes CX X fun _ _ _ => False) (I : Inv X pins σ H st) (r : Vals vs us) (hz : vs.length ≤ 1000)
    (h : ∀ a, H a = none → sp (.ref a :: (vs ++ dvs)) (upd H a (exo a C none)) (fun v H2 => v = .non ∧ Q (.ref a) H2) fun _ _ _ => False) :
    wpAny (model X.prog X.w) X.A (call (.ref C) us) (EP X pins σ Q) X.xe st := by
  obtain ⟨nm, q, N, bs, bm, sn, sub, ab, col, dd, k0, k1, k2, k3, k5, hC, hbm⟩ := T.cls
  obtain ⟨hp, g, dr, tk, os⟩ := st
  have up : hp.objs.size ≤ hp.objs.size + 1 := Nat.le_succ _
  have old : ∀ b o, hp.get? b = some o → ((hp.push (PySem.W.kdv_tup us)).push (PySem.HandSPX.excO C hp.objs.size)).get? b = some o :=
    fun b o z => Heap.get?_push_of_some _ (Heap.get?_push_of_some _ z)
  have new : ((hp.push (PySem.W.kdv_tup us)).push (PySem.HandSPX.excO C hp.objs.size)).get? (hp.objs.size + 1) = some (PySem.HandSPX.excO C hp.objs.size) := by heap_get
  have J : Inv X pins σ (upd H (hp.objs.size + 1) (exo (hp.objs.size + 1) C none)) ⟨(hp.push (PySem.W.kdv_tup us)).push (PySem.HandSPX.excO C hp.objs.size), g, dr, tk, os⟩ :=
    I.laid (t' := tk) old up (exo_ok new)
  have hq := h (hp.objs.size + 1) (I.hok.fresh up)
  have rr : Vals (V.ref (hp.objs.size + 1) :: (vs ++ dvs)) (Value.ref (hp.objs.size + 1) :: (us ++ ds)) := .cons rfl (Vals.append r hd)
  have el : (Value.ref (hp.objs.size + 1) :: us ++ ds).length = ps.length := (Vals.length rr).symm.trans (F.len _ _ _ _ hq)
  have sz : us.length ≤ sizeLine := by
    have z := Vals.length r
    rw [sizeLine_eq]
    omega
  have run := F.run _ X.stack _ _ ⟨Value.ref (hp.objs.size + 1) :: us, []⟩ (Value.ref (hp.objs.size + 1) :: (us ++ ds)) _ _ (fun _ _ _ => False) (rm.make C us []) (J.env0.make C us [])
    (hb _ (Value.ref (hp.objs.size + 1) :: us) J.kIn el) rr hq
  refine wpAny_call (PySem.HandSPX.call_own PySem.F.excBase_ValueError (fun Y => PySem.HandSPX.refsVE_contains Y bm hbm) (I.kIn _ _ hC) (PySem.W.looks_findIn I.kIn iC)
    (fun self => PySem.W.bind_fn I.kIn self tI) sz (codeAny_mono run fun res s2 z => ?_))
  cases res with
  | error er => exact hx pins σ _ _ er s2 J z
  | ok fl =>
    cases fl with
    | ret u =>
      obtain ⟨v, H2, J2, rv, ev, q2⟩ := J.after z
      subst ev
      exact ⟨rv, V.ref (hp.objs.size + 1), H2, J2, rfl, q2⟩
    | next => exact False.elim z
    | brk => exact False.elim z
    | cont => exact False.elim z
theorem pe_mkx {x : Str} {p pos : Pos} {e : Expr} {es : List Expr} {ta : TA} (T : OexC X.K C)
    (iC : PySem.W.findIn X.K (.ref C) "__init__" = some (some (.ref fI))) (tI : PySem.W.typeIn X.K (.ref fI) = some (.type "function"))
    (F : FnOk X.prog X.w X.K X.mg X.base CX k fI fd ps sp) (rm : Room (k + 1) X.A) (hb : Binds X.K fd ps ds) (hd : Vals dvs ds)
    (hx : Passes CX X fun _ _ _ => False) (hg : Gl X x) (hm : X.mg x = some (.ref C)) (ha : PA X (e :: es) ta)
    (hdb : (x == ("__debug__" : Str)) = false := by decide) (he : starEach (e :: es) X.env = (false, eval e X.env) :: starEach es X.env := by rfl)
    (hpl : (backTo pos (starEach es X.env)).any (·.1) = false := by rfl) :
    PE X (.Call (.Name x p) (e :: es) [] pos) (tMkV C sp dvs ta) := by
  constructor
  intro pins s σ H Q I h
  refine wpAny_Call_Name_kw (ld_glob I hg hm ?_ hdb)
  refine PySem.W.callWith_K (h₀ := X.base) I.ok.mod.kin T.kC ?_ he hpl
  refine thn (ha.run pos pins s σ H _ I h) fun us s1 z => ?_
  obtain ⟨vs, H1, I1, r, hz, q⟩ := z
  exact ⟨I1.kIn, run_mkx T iC tI F rm hb hd hx I1 r hz q⟩
end
end Gk
set_option Elab.async false
set_option linter.all false
set_option maxRecDepth 100000
set_option maxHeartbeats 4000000
namespace PySem
namespace KwMake
open PySem.W PySem.Calls PyProof.Rows PySem.HandSPX
section
variable {prog : Program} {w : World} {M : Model} {A : Around} {E : Value → Shared → Prop} {R : Result → Shared → Prop} {h : Heap} {g : Array GenState} {d : Drawn} {t : Nat} {os : OsState}
variable {nm q : Str} {C N : Addr} {bs bm bmB : List Value} {hdct : Bool} {sn : List Str} {sub : List Value} {ab : Bool} {col : Option Bool} {dd : Option Addr} {k0 k1 k2 k3 k5 : Option Value} {B newId initId : String}
theorem new_check (F : ExcBaseFacts B newId initId bmB) (hT : ∀ X : String, bm.contains (.type X) = bmB.contains (.type X)) {rest : List Value} {kw : List (Str × Value)} {Q : Unit → Shared → Prop}
    (hC : h.get? C = some (excClassObj nm q C N bs bm hdct sn sub ab col dd k0 k1 k2 k3 k5 newId))
    (hq : Q () ⟨h, g, d, t, os⟩) : wpAny M A (checkBuiltinCall newId ⟨.ref C :: rest, kw⟩) Q E ⟨h, g, d, t, os⟩ := by
  have ct : (Value.ref C :: bm).contains (.type B) = true := by rw [List.contains_cons, hT, F.hasB, Bool.or_true]
  have ns := F.noStar
  simp only [checkBuiltinCall, F.newKind, F.newSplit, F.newRow]
  repeat (first
    | refine wpAny_loadPart_at hC ?_
    | (refine wpAny_isSubtype_exc hC ?_; rw [ct])
    | refine wpAny_staticBase_exc hC ?_
    | refine wpAny_madeBy_exc hC ?_
    | simp only [bne_self_eq_false, Bool.false_eq_true, if_false]
    | wp_step)
  exact hq
theorem new_go (F : ExcBaseFacts B newId initId bmB) (hT : ∀ X : String, bm.contains (.type X) = bmB.contains (.type X)) {rest : List Value} {kw : List (Str × Value)}
    (hC : h.get? C = some (excClassObj nm q C N bs bm hdct sn sub ab col dd k0 k1 k2 k3 k5 newId))
    (hq : R (.ok (.ret (.ref (h.objs.size + 1)))) ⟨(h.push (PySem.W.kdv_tup rest)).push (excO C h.objs.size), g, d, t, os⟩) (hz : rest.length ≤ sizeLine) :
    codeAny (model prog w) A (.builtin newId ⟨.ref C :: rest, kw⟩) R ⟨h, g, d, t, os⟩ := by
  have en := F.ends
  have cB : (Value.ref C :: bm).contains (.type B) = true := by rw [List.contains_cons, hT, F.hasB, Bool.or_true]
  have cA : (Value.ref C :: bm).contains (.type "AttributeError") = false := by rw [List.contains_cons, hT, F.noAttr]; rfl
  have cN : (Value.ref C :: bm).contains (.type "NameError") = false := by rw [List.contains_cons, hT, F.noName]; rfl
  refine codeAny_builtinAt F.entry ?_
  unfold Builtin.«BaseException.__new__»
  refine wpAt_bind ?_
  show wpAt _ _ _ (stack >>= _) _ _ _
  refine wpAt_bind (wpAt_stack fun p below => wpAt_of_wpAny ?_)
  wp_walk
  refine wpAt_of_wpAny ?_
  rw [F.owner]
  repeat (first
    | with_reducible refine wpAny_madeHere_exc F.canon hC ?_
    | with_reducible refine wpAny_loadPart_at hC ?_
    | (with_reducible refine wpAny_isSubtype_exc hC ?_; first | rw [cB] | rw [cA] | rw [cN])
    | wp_step)
  show R _ _
  rw [Heap.size_push]
  exact hq
theorem type_go (F : ExcBaseFacts B newId initId bmB) (hT : ∀ X : String, bm.contains (.type X) = bmB.contains (.type X)) {rest : List Value} {kw : List (Str × Value)} {fI : Addr} {Q : Fin → Shared → Prop}
    (hC : h.get? C = some (excClassObj nm q C N bs bm hdct sn sub ab col dd k0 k1 k2 k3 k5 newId))
    (hi : W.Looks (model prog w) h (typeLookup (.ref C) "__init__") (some (.ref fI)))
    (hb : ∀ self, W.Looks (model prog w) h (bindSpecial (.ref fI) self) (.ref fI, [self])) (hz : rest.length ≤ sizeLine)
    (hq : codeAny (model prog w) A (.call (.ref fI) ⟨.ref (h.objs.size + 1) :: rest, kw⟩)
      (fun r s' => match r with | .ok (.ret v) => v = .none ∧ Q (.done (.ret (.ref (h.objs.size + 1)))) s' | .ok _ => False | .error e => E e s')
      ⟨(h.push (W.kdv_tup rest)).push (excO C h.objs.size), g, d, t, os⟩) :
    wpAny (model prog w) A (Builtin.«type.__call__» ⟨.ref C :: rest, kw⟩) Q E ⟨h, g, d, t, os⟩ := by
  repeat (first
    | with_reducible refine wpAny_loadPart_at hC ?_
    | with_reducible refine wpAny_madeBy_exc hC ?_
    | wp_step)
  refine codeAny_call_builtin_code (Code.quiet_builtin _ F.quiet) (new_check F hT hC ?_)
  refine new_go F hT hC ?_ hz
  show wpAny _ _ _ _ _ _
  have old : ∀ b o, h.get? b = some o → ((h.push (W.kdv_tup rest)).push (excO C h.objs.size)).get? b = some o :=
    fun b o z => Heap.get?_push_of_some _ (Heap.get?_push_of_some _ z)
  have hC1 := old _ _ hC
  have at1 : ((h.push (W.kdv_tup rest)).push (excO C h.objs.size)).get? (h.objs.size + 1) = some (excO C h.objs.size) := by heap_get
  have cC : (Value.ref C :: bm).contains (.ref C) = true := by simp
  have i1 := hi.keeps old
  have b1 := (hb (.ref (h.objs.size + 1))).keeps old
  unfold isInstance
  repeat (first
    | with_reducible refine wpAny_loadPart_at at1 ?_
    | (with_reducible refine wpAny_isSubtype_exc hC1 ?_; rw [cC])
    | wp_step)
  show wpAny _ _ (typeLookup (.ref C) _) _ _ _
  refine i1.at ?_
  refine wpAny_holding (wpAny_bind (b1.at ?_))
  refine wpAny_bind (wpAny_call (codeAny_mono hq fun r s2 z => ?_))
  rcases r with er | (v | _ | _ | _) <;> first | exact z | exact z.elim | skip
  obtain ⟨e0, z⟩ := z
  subst e0
  first
    | exact wpAny_pure (wpAny_pure z)
    | (wp_walk; exact z)
theorem type_check {rest : List Value} {kw : List (Str × Value)} {Q : Unit → Shared → Prop} (hC : h.get? C = some (excClassObj nm q C N bs bm hdct sn sub ab col dd k0 k1 k2 k3 k5 newId))
    (hq : Q () ⟨h, g, d, t, os⟩) : wpAny M A (checkBuiltinCall "type.__call__" ⟨.ref C :: rest, kw⟩) Q E ⟨h, g, d, t, os⟩ := by
  have f3 := tc_sub
  have ty : (⟨h, g, d, t, os⟩ : Shared).TypeIs (.ref C) "type" := ⟨_, hC, rfl⟩
  simp only [checkBuiltinCall, tc_kind, tc_split]
  repeat (any_goals (first
    | assumption
    | with_reducible refine wpAny_loadPart_at hC ?_
    | with_reducible refine wpAny_onRaise ?_
    | with_reducible refine wpAny_map ?_
    | wp_step))
theorem call_go (F : ExcBaseFacts B newId initId bmB) (hT : ∀ X : String, bm.contains (.type X) = bmB.contains (.type X)) {rest : List Value} {kw : List (Str × Value)} {fI : Addr}
    (hC : h.get? C = some (excClassObj nm q C N bs bm hdct sn sub ab col dd k0 k1 k2 k3 k5 newId))
    (hi : W.Looks (model prog w) h (typeLookup (.ref C) "__init__") (some (.ref fI)))
    (hb : ∀ self, W.Looks (model prog w) h (bindSpecial (.ref fI) self) (.ref fI, [self])) (hz : rest.length ≤ sizeLine)
    (hq : codeAny (model prog w) (A.under (.builtin "type.__call__" ⟨.ref C :: rest, kw⟩)) (.call (.ref fI) ⟨.ref (h.objs.size + 1) :: rest, kw⟩) (W.InitBack (h.objs.size + 1) R)
      ⟨(h.push (W.kdv_tup rest)).push (excO C h.objs.size), g, d, t, os⟩) :
    codeAny (model prog w) A (.call (.ref C) ⟨rest, kw⟩) R ⟨h, g, d, t, os⟩ := by
  have f1 := tc_lookup
  have f2 := tc_bind (.ref C)
  have ty : (⟨h, g, d, t, os⟩ : Shared).TypeIs (.ref C) "type" := ⟨_, hC, rfl⟩
  refine codeAny_of_tree ?_
  show wpAny _ _ (callAny (.ref C) _) _ _ _
  repeat (any_goals (first
    | assumption
    | with_reducible refine wpAny_loadPart_at hC ?_
    | wp_step))
  refine ⟨rfl, ?_⟩
  refine codeAny_call_builtin_at (Code.quiet_builtin _ (by decide +kernel)) entry_typeCall (type_check hC (type_go F hT hC hi hb hz ?_))
  refine codeAny_mono hq fun r s2 z => ?_
  rcases r with er | (v | _ | _ | _) <;> exact z
end
end KwMake
end PySem
set_option Elab.async false
set_option linter.all false
set_option maxRecDepth 100000
set_option maxHeartbeats 4000000
namespace Gk
open PySem PySem.Spec PyProof.Rows L2
/-- C(k = v, ..) as a value: g sets the values by the keywords behind the new object into the parameters' order -/
def tMkK (C : Addr) (sp : Sp) (gV : List V → List V) (m : Nat) (tk : TA) : TE := fun σ H Q => tk σ H fun zs H1 => zs.length = m ∧
  ∀ a, H1 a = none → sp (.ref a :: gV zs) (upd H1 a (exo a C none)) (fun v H2 => v = .non ∧ Q (.ref a) H2) fun _ _ _ => False
/-- how keywords alone are bound behind self -/
structure KB (fd : FuncData) (ps ks : List Str) (g : List Value → List Value) (gV : List V → List V) : Prop where
  to : ∀ (s : Shared) (u : Value) (ws : List Value), ws.length = ks.length → BindsTo s fd ⟨[u], ks.zip ws⟩ (ps.zip (u :: g ws))
  rel : ∀ {zs : List V} {ws : List Value}, Vals zs ws → Vals (gV zs) (g ws)
section
variable {X : Cx} {CX : CXT} {k : Nat} {C fI : Addr} {fd : FuncData} {ps ks : List Str} {sp : Sp} {g : List Value → List Value} {gV : List V → List V}
theorem run_mkk {pins : List (Addr × Obj)} {σ : L2.St} {H : Hp} {st : Shared} {Q : VK} {ws : List Value} {zs : List V} (T : OexC X.K C)
    (iC : PySem.W.findIn X.K (.ref C) "__init__" = some (some (.ref fI))) (tI : PySem.W.typeIn X.K (.ref fI) = some (.type "function"))
    (F : FnOk X.prog X.w X.K X.mg X.base CX k fI fd ps sp) (rm : Room (k + 1) X.A) (hb : KB fd ps ks g gV)
    (hx : Passes CX X fun _ _ _ => False) (I : Inv X pins σ H st) (r : Vals zs ws) (hz : zs.length = ks.length)
    (h : ∀ a, H a = none → sp (.ref a :: gV zs) (upd H a (exo a C none)) (fun v H2 => v = .non ∧ Q (.ref a) H2) fun _ _ _ => False) :
    wpAny (model X.prog X.w) X.A (call (.ref C) [] (ks.zip ws)) (EP X pins σ Q) X.xe st := by
  obtain ⟨nm, q, N, bs, bm, sn, sub, ab, col, dd, k0, k1, k2, k3, k5, hC, hbm⟩ := T.cls
  obtain ⟨hp, g0, dr, tk, os⟩ := st
  have up : hp.objs.size ≤ hp.objs.size + 1 := Nat.le_succ _
  have old : ∀ b o, hp.get? b = some o → ((hp.push (PySem.W.kdv_tup [])).push (PySem.HandSPX.excO C hp.objs.size)).get? b = some o :=
    fun b o z => Heap.get?_push_of_some _ (Heap.get?_push_of_some _ z)
  have new : ((hp.push (PySem.W.kdv_tup [])).push (PySem.HandSPX.excO C hp.objs.size)).get? (hp.objs.size + 1) = some (PySem.HandSPX.excO C hp.objs.size) := by heap_get
  have J : Inv X pins σ (upd H (hp.objs.size + 1) (exo (hp.objs.size + 1) C none)) ⟨(hp.push (PySem.W.kdv_tup [])).push (PySem.HandSPX.excO C hp.objs.size), g0, dr, tk, os⟩ :=
    I.laid (t' := tk) old up (exo_ok new)
  have hq := h (hp.objs.size + 1) (I.hok.fresh up)
  have rr : Vals (V.ref (hp.objs.size + 1) :: gV zs) (Value.ref (hp.objs.size + 1) :: g ws) := .cons rfl (hb.rel r)
  have run := F.run _ X.stack _ _ ⟨[Value.ref (hp.objs.size + 1)], ks.zip ws⟩ (Value.ref (hp.objs.size + 1) :: g ws) _ _ (fun _ _ _ => False)
    (rm.make C [] (ks.zip ws)) (J.env0.make C [] (ks.zip ws)) (hb.to _ _ ws ((Vals.length r).symm.trans hz)) rr hq
  refine wpAny_call (PySem.KwMake.call_go PySem.F.excBase_ValueError (fun Y => PySem.HandSPX.refsVE_contains Y bm hbm) (I.kIn _ _ hC) (PySem.W.looks_findIn I.kIn iC)
    (fun self => PySem.W.bind_fn I.kIn self tI) (Nat.zero_le _) (codeAny_mono run fun res s2 z => ?_))
  cases res with
  | error er => exact hx pins σ _ _ er s2 J z
  | ok fl =>
    cases fl with
    | ret u =>
      obtain ⟨v, H2, J2, rv, ev, q2⟩ := J.after z
      subst ev
      exact ⟨rv, V.ref (hp.objs.size + 1), H2, J2, rfl, q2⟩
    | next => exact False.elim z
    | brk => exact False.elim z
    | cont => exact False.elim z
theorem pe_mkk {x : Str} {p pos : Pos} {kws : List Keyword} {tk : TA} (T : OexC X.K C)
    (iC : PySem.W.findIn X.K (.ref C) "__init__" = some (some (.ref fI))) (tI : PySem.W.typeIn X.K (.ref fI) = some (.type "function"))
    (F : FnOk X.prog X.w X.K X.mg X.base CX k fI fd ps sp) (rm : Room (k + 1) X.A) (hb : KB fd ps ks g gV)
    (hx : Passes CX X fun _ _ _ => False) (hg : Gl X x) (hm : X.mg x = some (.ref C)) (hkw : PK X kws tk)
    (hall : (backToKw pos (keywordEach kws X.env)).all (·.1.isSome) = true := by rfl)
    (hks : (backToKw pos (keywordEach kws X.env)).filterMap (·.1) = ks := by rfl)
    (hdb : (x == ("__debug__" : Str)) = false := by decide)
    (hpl : ((backTo pos (starEach [] X.env)).any (·.1) || (backToKw pos (keywordEach kws X.env)).any (·.1.isNone)) = false := by rfl) :
    PE X (.Call (.Name x p) [] kws pos) (tMkK C sp gV ks.length tk) := by
  constructor
  intro pins s σ H Q I h
  refine wpAny_Call_Name_kw (ld_glob I hg hm ?_ hdb)
  refine PySem.W.callWith_KW0 (h₀ := X.base) I.ok.mod.kin T.kC hall ?_ hpl
  refine thn (hkw.run pos pins s σ H _ I h) fun us s1 z => ?_
  obtain ⟨vs, H1, I1, r, hz, q⟩ := z
  refine ⟨I1.kIn, ?_⟩
  rw [hks]
  exact run_mkk T iC tI F rm hb hx I1 r hz q
/-- C(): an error class without an __init__ of its own -/
theorem pe_mk0 {x : Str} {p pos : Pos} {bmB : List Value} {B newId initId : String} (F : ExcBaseFacts B newId initId bmB) (T : OexC X.K C)
    (q : PySem.W.excIn X.K C bmB newId = true) (hg : Gl X x) (hm : X.mg x = some (.ref C)) (hdb : (x == ("__debug__" : Str)) = false := by decide) :
    PE X (.Call (.Name x p) [] [] pos) (fun σ H Q => ∀ a, H a = none → Q (.ref a) (upd H a (exo a C none))) := by
  constructor
  intro pins s σ H Q I h
  refine wpAny_Call_Name_kw (ld_glob I hg hm ?_ hdb)
  refine PySem.W.callWith_K0 I.kIn T.kC ?_
  show wpAny _ _ (call (.ref C) []) _ _ _
  obtain ⟨bm, N, nm, qn, bs, hdct, sn, sub, ab, col, dd, k0, k1, k2, k3, k5, mN, hC, hN, hni, TT⟩ := exc_obj I.kIn q
  refine wpAny_call_exc_subT F TT hC hN hni (fun h' a hm => ?_) (Nat.zero_le _)
  have hn : H a = none := I.hok.gone hm.new
  obtain ⟨t, ht, _, _⟩ := hm.there
  exact ⟨.ref a, upd H a (exo a C none), I.laidN hm.keeps hm.new hn (exo_ok ht), rfl, h a hn⟩
end
end Gk
set_option Elab.async false
set_option linter.all false
set_option maxRecDepth 100000
set_option maxHeartbeats 4000000
namespace Gk
open PySem PySem.Spec PyProof.Rows L2
/-- self.f = v behind the making of an error of the class at C -/
def spI1 (K : PySem.W.Frag) (C : Addr) (f : Str) : Sp := fun vs H Q _ => ∃ (a : Addr) (v : V), vs = [.ref a, v] ∧ H a = some (exo a C none) ∧
  ∀ d, H d = none → d ≠ a → Q .non (upd (upd H d (exd d [(f, v)])) a (exo a C (some d)))
def spI2 (K : PySem.W.Frag) (C : Addr) (f g : Str) : Sp := fun vs H Q _ => ∃ (a : Addr) (v u : V), vs = [.ref a, v, u] ∧ H a = some (exo a C none) ∧
  ∀ d, H d = none → d ≠ a → Q .non (upd (upd (upd H d (exd d [(f, v)])) a (exo a C (some d))) d (exd d [(g, u), (f, v)]))
section
variable {P : Program} {w : World} {K : PySem.W.Frag} {mg : Str → Option Value} {base : Heap} {S C fI : Addr} {fd : FuncData} {nm ql f g : Str} {stm : Stmt}
theorem ok_init1 (F : Fun K "__init__" ql stm fI fd) (x : XC K S C nm) (no : PySem.W.findIn K (.ref C) f = some none)
    (hb : ∃ p1 p2 p3 p4, defBody stm = [.Assign [.Attribute (.Name "self" p1) f p2] (.Name f p3) p4]) (sc : FnScope ["self", f] ["self", f] (defScope stm))
    (h1 : (f == ("__debug__" : Str)) = false) (h2 : (f == ("__classdict__" : Str)) = false) : FnOk P w K mg base CX0 1 fI fd ["self", f] (spI1 K C f) := by
  refine F.ok sc (fun vs H Q E h => ?_) (fun cdv A outer s H vs Q E hr h => ?_)
  · obtain ⟨a, v, rfl, _⟩ := h
    rfl
  · obtain ⟨a, v, rfl, ha, q⟩ := h
    obtain ⟨p1, p2, p3, p4, eb⟩ := hb
    rw [eb]
    have vis : ∀ y ∈ (["self", f] : List Str), Vis (defScope stm) y := fun y hy => by
      rcases sc.par y hy with z | z
      · exact .inl z
      · exact .inr (.inl z)
    refine ⟨_, pss_one (ps_ost (pv 0 rfl (vis _ (by simp))) (pv 1 rfl (vis _ (by simp)) h1 h2)), ?_⟩
    exact ⟨v, rfl, .ref a, rfl, a, C, rfl, x.oex, no, .inl ⟨ha, fun d hd hne => q d hd hne⟩⟩
theorem ok_init2 (F : Fun K "__init__" ql stm fI fd) (x : XC K S C nm) (no : PySem.W.findIn K (.ref C) f = some none) (no2 : PySem.W.findIn K (.ref C) g = some none)
    (hb : ∃ p1 p2 p3 p4 q1 q2 q3 q4, defBody stm = [.Assign [.Attribute (.Name "self" p1) f p2] (.Name f p3) p4, .Assign [.Attribute (.Name "self" q1) g q2] (.Name g q3) q4])
    (sc : FnScope ["self", f, g] ["self", f, g] (defScope stm))
    (h1 : (f == ("__debug__" : Str)) = false) (h2 : (f == ("__classdict__" : Str)) = false) (k1 : (g == ("__debug__" : Str)) = false) (k2 : (g == ("__classdict__" : Str)) = false) :
    FnOk P w K mg base CX0 1 fI fd ["self", f, g] (spI2 K C f g) := by
  refine F.ok sc (fun vs H Q E h => ?_) (fun cdv A outer s H vs Q E hr h => ?_)
  · obtain ⟨a, v, u, rfl, _⟩ := h
    rfl
  · obtain ⟨a, v, u, rfl, ha, q⟩ := h
    obtain ⟨p1, p2, p3, p4, q1, q2, q3, q4, eb⟩ := hb
    rw [eb]
    have vis : ∀ y ∈ (["self", f, g] : List Str), Vis (defScope stm) y := fun y hy => by
      rcases sc.par y hy with z | z
      · exact .inl z
      · exact .inr (.inl z)
    refine ⟨_, pss_cons (ps_ost (pv 0 rfl (vis _ (by simp))) (pv 1 rfl (vis _ (by simp)) h1 h2)) (pss_one (ps_ost (pv 0 rfl (vis _ (by simp))) (pv 2 rfl (vis _ (by simp)) k1 k2))), ?_⟩
    refine ⟨v, rfl, .ref a, rfl, a, C, rfl, x.oex, no, .inl ⟨ha, fun d hd hne => ?_⟩⟩
    refine ⟨u, rfl, .ref a, rfl, a, C, rfl, x.oex, no2, .inr ⟨d, [(f, v)], upd_same, ?_, (by show 1 ≤ 900; decide), q d hd hne⟩⟩
    rw [upd_ne hne, upd_same]
end
/-- an error class of the text with one field | two fields | none -/
structure E1 (K : PySem.W.Frag) (mg : Str → Option Value) (S C : Addr) (nm f : Str) : Prop where
  xc : XC K S C nm
  gm : mg nm = some (.ref C)
  no : PySem.W.findIn K (.ref C) f = some none
  fi : ∃ (fI : Addr) (fd : FuncData), PySem.W.findIn K (.ref C) "__init__" = some (some (.ref fI)) ∧ PySem.W.typeIn K (.ref fI) = some (.type "function") ∧
    Binds K fd ["self", f] [] ∧ ∀ (P : Program) (w : World) (base : Heap), FnOk P w K mg base CX0 1 fI fd ["self", f] (spI1 K C f)
structure E2 (K : PySem.W.Frag) (mg : Str → Option Value) (S C : Addr) (nm f g : Str) : Prop where
  xc : XC K S C nm
  gm : mg nm = some (.ref C)
  no : PySem.W.findIn K (.ref C) f = some none
  no2 : PySem.W.findIn K (.ref C) g = some none
  fi : ∃ (fI : Addr) (fd : FuncData), PySem.W.findIn K (.ref C) "__init__" = some (some (.ref fI)) ∧ PySem.W.typeIn K (.ref fI) = some (.type "function") ∧
    Binds K fd ["self", f, g] [] ∧ KB fd ["self", f, g] [g, f] List.reverse List.reverse ∧
    ∀ (P : Program) (w : World) (base : Heap), FnOk P w K mg base CX0 1 fI fd ["self", f, g] (spI2 K C f g)
structure E0 (K : PySem.W.Frag) (mg : Str → Option Value) (S C : Addr) (nm : Str) : Prop where
  xc : XC K S C nm
  gm : mg nm = some (.ref C)
  ex : PySem.W.excIn K C [.type "ValueError", .type "Exception", .type "BaseException", .type "object"] "ValueError.__new__" = true
/-- a new error -/
def newX (C : Addr) (fs : List (Str × V)) (H : Hp) (Q : VK) : Prop := ∀ a H2, H a = none → Same H H2 → XAt H2 a C fs → Q (.ref a) H2
def tX1 (C : Addr) (f : Str) (ta : TA) : TE := fun σ H Q => ta σ H fun vs H1 => ∃ v, vs = [v] ∧ newX C [(f, v)] H1 Q
def tX2 (C : Addr) (f g : Str) (ta : TA) : TE := fun σ H Q => ta σ H fun vs H1 => ∃ v u, vs = [v, u] ∧ newX C [(g, u), (f, v)] H1 Q
def tX2k (C : Addr) (f g : Str) (tk : TA) : TE := fun σ H Q => tk σ H fun zs H1 => ∃ v u, zs = [u, v] ∧ newX C [(g, u), (f, v)] H1 Q
def tX0 (C : Addr) : TE := fun σ H Q => newX C [] H Q
theorem same_upd' {H : Hp} {p : Addr} {o : HO} (h : H p = none) : Same H (upd H p o) := fun b z e => by
  rw [upd_ne (ne_of_none e h)]
  exact e
theorem pe_imp {X : Cx} {e : Expr} {t t' : TE} (h : PE X e t) (k : ∀ σ H Q, t' σ H Q → t σ H Q) : PE X e t' :=
  ⟨fun pins s σ H Q I z => h.run pins s σ H Q I (k σ H Q z)⟩
section
variable {X : Cx} {S C : Addr} {nm f g : Str} {e e2 : Expr} {p pos : Pos} {kws : List Keyword} {ta tk : TA}
theorem upd_comm {H : Hp} {a d : Addr} {o u v : HO} (h : d ≠ a) : upd (upd (upd H a o) d u) a v = upd (upd H d u) a v := by
  funext b
  by_cases e : b = a
  · rw [e, upd_same, upd_same]
  · rw [upd_ne e, upd_ne e]
    by_cases e2 : b = d
    · rw [e2, upd_same, upd_same]
    · rw [upd_ne e2, upd_ne e2, upd_ne e]
theorem Same.new2 {H : Hp} {a d : Addr} {o u : HO} (ha : H a = none) (hd : H d = none) : Same H (upd (upd H d u) a o) := fun b z e => by
  rw [upd_ne (ne_of_none e ha), upd_ne (ne_of_none e hd)]
  exact e
theorem newX.mk1 {H : Hp} {Q : VK} {v : V} (h : newX C [(f, v)] H Q) : ∀ a, H a = none → spI1 X.K C f [.ref a, v] (upd H a (exo a C none)) (fun r H2 => r = .non ∧ Q (.ref a) H2) fun _ _ _ => False := fun a ha => by
  refine ⟨a, v, rfl, upd_same, fun d hd hne => ⟨rfl, ?_⟩⟩
  have hd' : H d = none := by rw [upd_ne hne] at hd; exact hd
  rw [upd_comm hne]
  exact h a _ ha (Same.new2 ha hd') (.inr ⟨d, hne, upd_same, by rw [upd_ne hne, upd_same]⟩)
theorem newX.mk2 {H : Hp} {Q : VK} {v u : V} (h : newX C [(g, u), (f, v)] H Q) : ∀ a, H a = none → spI2 X.K C f g [.ref a, v, u] (upd H a (exo a C none)) (fun r H2 => r = .non ∧ Q (.ref a) H2) fun _ _ _ => False := fun a ha => by
  refine ⟨a, v, u, rfl, upd_same, fun d hd hne => ⟨rfl, ?_⟩⟩
  have hd' : H d = none := by rw [upd_ne hne] at hd; exact hd
  rw [upd_comm hne]
  refine h a _ ha (fun b z e => ?_) (.inr ⟨d, hne, ?_, upd_same⟩)
  · rw [upd_ne (ne_of_none e hd')]
    exact Same.new2 ha hd' b z e
  · rw [upd_ne (Ne.symm hne), upd_same]
theorem E1.pe (E : E1 X.K X.mg S C nm f) (rm : Room 2 X.A) (hg : Gl X nm) (ha : PA X [e] ta) (hdb : (nm == ("__debug__" : Str)) = false := by decide)
    (hs : starEach [e] X.env = (false, eval e X.env) :: starEach [] X.env := by rfl) : PE X (.Call (.Name nm p) [e] [] pos) (tX1 C f ta) := by
  obtain ⟨fI, fd, iC, tI, hb, F⟩ := E.fi
  constructor
  intro pins s σ H Q I h
  refine wpAny_Call_Name_kw (ld_glob I hg E.gm ?_ hdb)
  refine PySem.W.callWith_K (h₀ := X.base) I.ok.mod.kin E.xc.kp ?_ hs rfl
  refine thn (ha.run pos pins s σ H _ I h) fun us s1 z => ?_
  obtain ⟨vs, H1, I1, r, v, rfl, q⟩ := z
  exact ⟨I1.kIn, run_mkx E.xc.oex iC tI (F _ _ _) rm hb .nil pass0 I1 r (by show 1 ≤ 1000; decide) q.mk1⟩
theorem E2.pe (E : E2 X.K X.mg S C nm f g) (rm : Room 2 X.A) (hg : Gl X nm) (ha : PA X [e, e2] ta) (hdb : (nm == ("__debug__" : Str)) = false := by decide)
    (hs : starEach [e, e2] X.env = (false, eval e X.env) :: starEach [e2] X.env := by rfl) (hpl : (backTo pos (starEach [e2] X.env)).any (·.1) = false := by rfl) :
    PE X (.Call (.Name nm p) [e, e2] [] pos) (tX2 C f g ta) := by
  obtain ⟨fI, fd, iC, tI, hb, _, F⟩ := E.fi
  constructor
  intro pins s σ H Q I h
  refine wpAny_Call_Name_kw (ld_glob I hg E.gm ?_ hdb)
  refine PySem.W.callWith_K (h₀ := X.base) I.ok.mod.kin E.xc.kp ?_ hs hpl
  refine thn (ha.run pos pins s σ H _ I h) fun us s1 z => ?_
  obtain ⟨vs, H1, I1, r, v, u, rfl, q⟩ := z
  exact ⟨I1.kIn, run_mkx E.xc.oex iC tI (F _ _ _) rm hb .nil pass0 I1 r (by show 2 ≤ 1000; decide) q.mk2⟩
theorem E2.pek (E : E2 X.K X.mg S C nm f g) (rm : Room 2 X.A) (hg : Gl X nm) (hkw : PK X kws tk)
    (hall : (backToKw pos (keywordEach kws X.env)).all (·.1.isSome) = true := by rfl)
    (hks : (backToKw pos (keywordEach kws X.env)).filterMap (·.1) = [g, f] := by rfl)
    (hdb : (nm == ("__debug__" : Str)) = false := by decide)
    (hpl : ((backTo pos (starEach [] X.env)).any (·.1) || (backToKw pos (keywordEach kws X.env)).any (·.1.isNone)) = false := by rfl) :
    PE X (.Call (.Name nm p) [] kws pos) (tX2k C f g tk) := by
  obtain ⟨fI, fd, iC, tI, _, hb, F⟩ := E.fi
  constructor
  intro pins s σ H Q I h
  refine wpAny_Call_Name_kw (ld_glob I hg E.gm ?_ hdb)
  refine PySem.W.callWith_KW0 (h₀ := X.base) I.ok.mod.kin E.xc.kp hall ?_ hpl
  refine thn (hkw.run pos pins s σ H _ I h) fun us s1 z => ?_
  obtain ⟨vs, H1, I1, r, v, u, rfl, q⟩ := z
  refine ⟨I1.kIn, ?_⟩
  rw [hks]
  exact run_mkk E.xc.oex iC tI (F _ _ _) rm hb pass0 I1 r rfl q.mk2
theorem E0.pe (E : E0 X.K X.mg S C nm) (hg : Gl X nm) (hdb : (nm == ("__debug__" : Str)) = false := by decide) : PE X (.Call (.Name nm p) [] [] pos) (tX0 C) := by
  refine pe_imp (pe_mk0 PySem.F.excBase_ValueError E.xc.oex E.ex hg E.gm hdb) fun σ H Q h a ha => ?_
  exact h a _ ha (same_upd' ha) (.inl ⟨rfl, upd_same⟩)
end
end Gk
set_option Elab.async false
set_option linter.all false
set_option maxRecDepth 100000
set_option maxHeartbeats 4000000
namespace Gk
open PySem PySem.Spec PyProof.Rows L2
theorem sqT_same {K : PySem.W.Frag} {H H' : Hp} {a : Addr} {xs : List V} (e : Same H H') (h : SqT K H a xs) : SqT K H' a xs := by
  rcases h with (h | ⟨o, h⟩) | h
  · exact .inl (.inl (e _ _ h))
  · exact .inl (.inr ⟨o, e _ _ h⟩)
  · exact .inr h
mutual
theorem dp_same {K : PySem.W.Frag} {H H' : Hp} (e : Same H H') : ∀ (d : PyData) (v : V), Dp K H v d → Dp K H' v d
  | .none, _, h => by cases h; exact .non
  | .bool b, _, h => by cases h; exact .bl b
  | .int i, _, h => by cases h; exact .int i
  | .str x, _, h => by cases h; exact .str x
  | .list ds, _, h => by
    cases h with
    | lst a b => exact .lst (Same.seq e a) (dpAll_same e ds _ b)
  | .tuple ds, _, h => by
    cases h with
    | tup a b => exact .tup (sqT_same e a) (dpAll_same e ds _ b)
  | .dict _, _, h => by cases h
theorem dpAll_same {K : PySem.W.Frag} {H H' : Hp} (e : Same H H') : ∀ (ds : List PyData) (vs : List V), DpAll K H vs ds → DpAll K H' vs ds
  | [], _, h => by cases h; exact .nil
  | d :: ds, _, h => by
    cases h with
    | cons a b => exact .cons (dp_same e d _ a) (dpAll_same e ds _ b)
end
/-- data that is shown in short -/
structure Showy (n k : Nat) (d : PyData) : Prop where
  sh : d.showable = true
  nd : d.hasDict = false
  dp : d.depth ≤ n
  lf : d.leavesShort 13 = true
  bk : d.bulk ≤ k
theorem Showy.fits {n k : Nat} {d : PyData} (s : Showy n k d) (hk : k ≤ 1000) : d.shown.length ≤ sizeLine :=
  PyData.shown_fits_bulk (B := 13) (by decide) (by decide) s.lf (Nat.le_trans s.bk (Nat.le_trans hk (by decide)))
theorem Showy.up {n k m j : Nat} {d : PyData} (s : Showy n k d) (h1 : n ≤ m) (h2 : k ≤ j) : Showy m j d := ⟨s.sh, s.nd, Nat.le_trans s.dp h1, s.lf, Nat.le_trans s.bk h2⟩
theorem Showy.pair {n k j : Nat} {d e : PyData} (a : Showy n k d) (b : Showy n j e) : Showy (n + 1) (k + j + 10) (.tuple [d, e]) where
  sh := by simp only [PyData.showable, PyData.showableAll, a.sh, b.sh, Bool.and_self]
  nd := by simp only [PyData.hasDict, PyData.hasDictAll, a.nd, b.nd, Bool.or_self]
  dp := by
    have h1 := a.dp
    have h2 := b.dp
    simp only [PyData.depth, PyData.depthAll]
    omega
  lf := by simp only [PyData.leavesShort, PyData.leavesShortAll, a.lf, b.lf, Bool.and_self]
  bk := by
    have h1 := a.bk
    have h2 := b.bk
    simp only [PyData.bulk, PyData.bulkAll]
    omega
/-- repr(x), x short -/
def rRep (K : PySem.W.Frag) : List V → Hp → VK → Prop := fun xs H Q => ∃ (x : V) (d : PyData), xs = [x] ∧ Dp K H x d ∧ Showy 8 1000 d ∧ Q (.str d.shown) H
theorem call_rep {X : Cx} (qa : Quiet X.A) (hu : X.A.units + 64 < cLine) : CallR X (.builtin "repr") (rRep X.K) := fun pins s σ H xs us Q I r h => by
  obtain ⟨x, d, e, hd, z, q⟩ := h
  exact call_repr qa hu pins s σ H xs us Q I r ⟨x, d, e, hd, z.sh, z.nd, Nat.le_trans z.dp (by decide), z.fits (Nat.le_refl _), q⟩
/-! ### comprehensions over a list -/
/-- what stands but the growing list D -/
def ButD (D : Addr) (H H' : Hp) : Prop := ∀ b o, b ≠ D → H b = some o → H' b = some o
/-- every item gives one item: G says what of the i-th one -/
theorem lc_map {K : PySem.W.Frag} {a : Addr} {xs : List V} {te : TE} {vs : List Nat} {j : Nat} {σ : L2.St} {H1 : Hp} {Q : VK} (G : Hp → Nat → V → Prop)
    (hw : ∀ x, wipe ((wipe σ vs).set j (some x)) vs = wipe σ vs) (ha : SqL K H1 a xs) (hl : xs.length ≤ 1000)
    (stab : ∀ (D : Addr) (acc : List V) (H4 H5 : Hp) (i : Nat) (y : V), H4 D = some (.lst acc) → ButD D H4 H5 → G H4 i y → G H5 i y)
    (he : ∀ (i : Nat) (x : V) (H' : Hp) (R : VK), xs[i]? = some x → Same H1 H' → (∀ y H4, Same H' H4 → G H4 i y → R y H4) → te ((wipe σ vs).set j (some x)) H' R)
    (k : ∀ (D : Addr) (ys : List V) (H' : Hp), Same H1 H' → H1 D = none → H' D = some (.lst ys) → ys.length = xs.length → (∀ (i : Nat) (y : V), ys[i]? = some y → G H' i y) → Q (.ref D) H')
    (D : Addr) (hD : H1 D = none) : ∃ W : Nat → Nat → Hp → Prop, (∃ m, W 0 m (upd H1 D (.lst []))) ∧ ∀ i m H, W i m H →
      ((Itl K a).stop i H ∧ Q (.ref D) H) ∨ ((Itl K a).go i H ∧ ∃ Nx : Hp → Prop, (∀ H', Nx H' → ∃ m', m' < m ∧ W (i + 1) m' H') ∧ ∀ x H', (Itl K a).yld i H x H' → gName j x (wipe σ vs) H' fun σ2 H2 => wipe σ2 vs = wipe σ vs ∧ tYes σ2 H2 fun b H3 =>
        if b = true then te σ2 H3 fun y H4 => ∃ acc, H4 D = some (.lst acc) ∧ acc.length < sizeLine ∧ Nx (upd H4 D (.lst (acc ++ [y]))) else Nx H3) := by
  refine lc_list (fun i H => ∃ ys : List V, Same H1 H ∧ H D = some (.lst ys) ∧ ys.length = i ∧ ∀ (n : Nat) (y : V), ys[n]? = some y → G H n y)
    ⟨[], same_upd' hD, upd_same, rfl, fun n y h => by simp at h⟩ (fun i H _ ⟨_, s, _⟩ => s.seq ha) ?_ ?_
  · rintro i x H hx ⟨ys, s, hd, ln, g⟩
    refine ⟨hw x, ?_⟩
    refine he i x H _ hx s fun y H4 s4 g4 => ?_
    have hd4 := s4 _ _ hd
    have hi : i < xs.length := (List.getElem?_eq_some_iff.mp hx).1
    refine ⟨ys, hd4, small1000 (by omega), ys ++ [y], fun b o e => ?_, upd_same, by rw [List.length_append, ln]; rfl, fun n z hz => ?_⟩
    · rw [upd_ne (ne_of_none e hD)]
      exact s4 b o (s b o e)
    · have bd : ButD D H4 (upd H4 D (.lst (ys ++ [y]))) := fun b o hb e => by rw [upd_ne hb]; exact e
      rcases Nat.lt_or_ge n ys.length with h | h
      · rw [List.getElem?_append_left h] at hz
        have g0 := g n z hz
        refine stab D ys H4 _ n z hd4 bd (stab D ys H _ n z hd (fun b o _ e => s4 b o e) g0)
      · rw [List.getElem?_append_right h] at hz
        have e0 : n - ys.length = 0 := by
          rcases Nat.eq_zero_or_pos (n - ys.length) with q | q
          · exact q
          · rw [List.getElem?_eq_none (by simp; omega)] at hz
            cases hz
        rw [e0] at hz
        have ez : y = z := Option.some.inj hz
        have en : n = i := by omega
        subst ez en
        exact stab D ys H4 _ n y hd4 bd g4
  · rintro H ⟨ys, s, hd, ln, g⟩
    exact k D ys H s hD hd ln g
/-- no item passes the test -/
theorem lc_empty {K : PySem.W.Frag} {a : Addr} {xs : List V} {te : TE} {tt : TT} {vs : List Nat} {j : Nat} {σ : L2.St} {H1 : Hp} {Q : VK}
    (hw : ∀ x, wipe ((wipe σ vs).set j (some x)) vs = wipe σ vs) (ha : SqL K H1 a xs)
    (ht : ∀ (i : Nat) (x : V) (H' : Hp) (R : Bool → Hp → Prop), xs[i]? = some x → Same H1 H' → (∀ H4, Same H' H4 → R false H4) → tt ((wipe σ vs).set j (some x)) H' R)
    (k : ∀ (D : Addr) (H' : Hp), Same H1 H' → H1 D = none → H' D = some (.lst []) → Q (.ref D) H')
    (D : Addr) (hD : H1 D = none) : ∃ W : Nat → Nat → Hp → Prop, (∃ m, W 0 m (upd H1 D (.lst []))) ∧ ∀ i m H, W i m H →
      ((Itl K a).stop i H ∧ Q (.ref D) H) ∨ ((Itl K a).go i H ∧ ∃ Nx : Hp → Prop, (∀ H', Nx H' → ∃ m', m' < m ∧ W (i + 1) m' H') ∧ ∀ x H', (Itl K a).yld i H x H' → gName j x (wipe σ vs) H' fun σ2 H2 => wipe σ2 vs = wipe σ vs ∧ tt σ2 H2 fun b H3 =>
        if b = true then te σ2 H3 fun y H4 => ∃ acc, H4 D = some (.lst acc) ∧ acc.length < sizeLine ∧ Nx (upd H4 D (.lst (acc ++ [y]))) else Nx H3) := by
  refine lc_list (fun i H => Same H1 H ∧ H D = some (.lst [])) ⟨same_upd' hD, upd_same⟩ (fun i H _ z => z.1.seq ha) ?_ fun H z => k D H z.1 hD z.2
  rintro i x H hx ⟨s, hd⟩
  refine ⟨hw x, ht i x H _ hx s fun H4 s4 => ?_⟩
  rw [if_neg Bool.false_ne_true]
  exact ⟨s.trans s4, s4 _ _ hd⟩
end Gk
set_option Elab.async false
set_option linter.all false
set_option maxRecDepth 100000
set_option maxHeartbeats 4000000
namespace Hd
open PySem PySem.Spec PyProof.Rows L2 Gk
/-! ### the text -/
def topS (i : Nat) : Stmt := PySem.Challenge.pw_thinslopes_k71_all_errors_side_by_side.main.body.getD i (.Pass ⟨0, 0, 0, 0⟩)
abbrev sHand : Stmt := topS 50
abbrev sMixed : Stmt := topS 51
abbrev sTake : Stmt := topS 52
theorem scHand : FnScope ["_law_script", "_law_total", "_law_cells", "_law_cell"] ["_law_script"] (defScope sHand) :=
  ⟨rfl, rfl, rfl, by decide +kernel, rfl, by decide +kernel, by decide +kernel⟩
theorem scMixed : FnScope ["_law_number", "_law_turn", "_law_once", "_law_twice"] ["_law_number", "_law_turn"] (defScope sMixed) :=
  ⟨rfl, rfl, rfl, by decide +kernel, rfl, by decide +kernel, by decide +kernel⟩
theorem scTake : FnScope ["_law_hand_here", "_law_many", "_law_cell", "_law_rest"] ["_law_hand_here", "_law_many"] (defScope sTake) :=
  ⟨rfl, rfl, rfl, by decide +kernel, rfl, by decide +kernel, by decide +kernel⟩
/-- names of built-in things that the text leaves alone -/
structure TB (mg : Str → Option Value) : Prop where
  len : mg "len" = none
  int : mg "int" = none
  abs : mg "abs" = none
/-! ### the hand: the script's numbers without signs, how far they are read, the rest of a great one, a running sum -/
/-- the hand at a, its numbers at c -/
def HandAt (H : Hp) (a c : Addr) : Prop := ∃ (cs : List Int) (i r t : Int), H a = some (.lst [.ref c, .int i, .int r, .int t]) ∧ H c = some (.lst (cs.map V.int)) ∧
  c ≠ a ∧ (∀ z ∈ cs, 0 ≤ z) ∧ 0 ≤ i ∧ 0 ≤ r ∧ cs.length ≤ 63
/-- all but the hand stands as it stood -/
def But (a : Addr) (H H' : Hp) : Prop := ∀ b o, b ≠ a → H b = some o → H' b = some o
theorem But.refl (a : Addr) (H : Hp) : But a H H := fun _ _ _ h => h
theorem But.trans {a : Addr} {H H1 H2 : Hp} (x : But a H H1) (y : But a H1 H2) : But a H H2 := fun b o h z => y b o h (x b o h z)
theorem But.of {a : Addr} {H H' : Hp} (x : Same H H') : But a H H' := fun b o _ z => x b o z
def spHand (K : PySem.W.Frag) : Sp := fun vs H Q _ => ∃ (s : Addr) (ns : List Int), vs = [.ref s] ∧ SqL K H s (ns.map V.int) ∧ ns.length ≤ 63 ∧
  ∀ (H' : Hp) (a c : Addr), Same H H' → H a = none → HandAt H' a c → Q (.ref a) H'
def spMixed : Sp := fun vs H Q _ => ∃ n t : Int, vs = [.int n, .int t] ∧ ∀ r : Int, 0 ≤ r → Q (.int r) H
def spTake : Sp := fun vs H Q _ => ∃ (a c : Addr) (m : Int), vs = [.ref a, .int m] ∧ HandAt H a c ∧ 0 < m ∧ m < 2 ^ 4000 ∧
  ∀ (n : Int) (H' : Hp), 0 ≤ n → n < m → HandAt H' a c → But a H H' → Q (.int n) H'
/-- int(e) of an int -/
theorem call_intI {X : Cx} : CallR X (.type "int") (fun xs H Q => ∃ i, xs = [.int i] ∧ Q (.int i) H) := fun pins s σ H xs us Q I r h => by
  obtain ⟨i, e, q⟩ := h
  exact call_int1 pins s σ H xs us Q I r (.inl ⟨i, e, q⟩)
section
variable {P : Program} {w : World} {K : PySem.W.Frag} {mg : Str → Option Value} {base : Heap}
theorem ok_mixed {f : Addr} {fd : FuncData} (F : Fun K "_law_mixed" "_law_mixed" sMixed f fd) (T : TB mg) : FnOk P w K mg base CX0 1 f fd ["_law_number", "_law_turn"] spMixed := by
  refine F.ok scMixed (fun vs H Q E h => ?_) (fun cdv A outer s H vs Q E hr h => ?_)
  · obtain ⟨n, t, rfl, _⟩ := h
    rfl
  · obtain ⟨n, t, rfl, q⟩ := h
    refine ⟨_, pss_cons (ps_set (i := 2) scMixed.nd rfl (.inl rfl) (pe_op op_mod (pe_callTy call_intI (by rfl) T.int boot_int (pa_cons (pe_op op_add (pe_op op_add (pe_op op_mul (pv 0) pe_int) (pe_op op_mul (pv 1) pe_int)) pe_int) pa_nil)) pe_int))
      (pss_cons (ps_set (i := 3) scMixed.nd rfl (.inl rfl) (pe_op op_mod (pe_callTy call_intI (by rfl) T.int boot_int (pa_cons (pe_op op_add (pe_op op_add (pe_op op_mul (pv 2) (pv 2)) (pe_op op_mul (pv 1) pe_int)) (pe_op op_fdiv (pv 2) pe_int)) pa_nil)) pe_int))
      (pss_one (ps_ret (pe_op op_fdiv (pe_callTy call_intI (by rfl) T.int boot_int (pa_cons (pe_op op_mod (pe_callTy call_intI (by rfl) T.int boot_int (pa_cons (pe_op op_add (pe_op op_mul (pv 3) pe_int) (pe_op op_fdiv (pv 2) pe_int)) pa_nil)) pe_int) pa_nil)) pe_int)))), ?_⟩
    refine ⟨_, rfl, _, _, rfl, rfl, .inr ⟨by decide, by decide⟩, _, rfl, _, _, rfl, rfl, .inr ⟨by decide, by decide⟩, _, _, rfl, rfl, _, _, rfl, rfl, _, rfl, _, _, rfl, rfl, (by decide : (0 : Int) < 2147483399), ?_⟩
    have b1 := Int.emod_nonneg (n * 48271 + t * 7919 + 30011) (by decide : (2147483399 : Int) ≠ 0)
    have b2 := Int.emod_lt_of_pos (n * 48271 + t * 7919 + 30011) (by decide : (0 : Int) < 2147483399)
    generalize (n * 48271 + t * 7919 + 30011) % 2147483399 = once at b1 b2
    refine ⟨_, rfl, _, rfl, _, _, rfl, rfl, .inl ⟨by omega, by omega⟩, _, rfl, _, _, rfl, rfl, .inr ⟨by decide, by decide⟩, _, _, rfl, rfl, _, rfl, _, _, rfl, rfl, ⟨by decide, by decide⟩, _, _, rfl, rfl, _, rfl, _, _, rfl, rfl, (by decide : (0 : Int) < 2147483629), ?_⟩
    refine ⟨_, rfl, _, _, rfl, rfl, .inr ⟨by decide, by decide⟩, _, rfl, _, _, rfl, rfl, ⟨by decide, by decide⟩, _, _, rfl, rfl, _, rfl, _, _, rfl, rfl, (by decide : (0 : Int) < 2147483587), _, rfl, _, _, rfl, rfl, ⟨by decide, by decide⟩, ?_⟩
    exact q _ (Int.ediv_nonneg (Int.emod_nonneg _ (by decide)) (by decide))
theorem ok_hand {f : Addr} {fd : FuncData} (F : Fun K "_law_hand" "_law_hand" sHand f fd) (T : TB mg) : FnOk P w K mg base CX0 1 f fd ["_law_script"] (spHand K) := by
  refine F.ok scHand (fun vs H Q E h => ?_) (fun cdv A outer s H vs Q E hr h => ?_)
  · obtain ⟨n, t, rfl, _⟩ := h
    rfl
  · obtain ⟨sa, ns, rfl, hS, hlen, q⟩ := h
    refine ⟨_, pss_cons (ps_set (i := 1) scHand.nd rfl (.inl rfl) (pe_op op_add (pe_callB call_len_seq (by rfl) T.len boot_len (pa_cons (pv 0) pa_nil)) pe_int))
      (pss_cons (ps_set (i := 2) scHand.nd rfl (.inl rfl) (pe_lst pa_nil))
      (pss_cons (ps_for PassesOwn.never rfl (pi_list (pv 0)) (pg_name (i := 3) scHand.nd rfl (.inl rfl))
        (pss_cons (ps_set (i := 1) scHand.nd rfl (.inl rfl) (pe_op op_mod (pe_callTy call_intI (by rfl) T.int boot_int (pa_cons (pe_op op_add (pe_op op_mul (pv 1) pe_int) (pe_callTy call_intI (by rfl) T.int boot_int (pa_cons (pv 3) pa_nil))) pa_nil)) pe_int))
        (pss_one (ps_expr (pe_bm PySem.F.plainAttrs_list PySem.F.slot_list_append PySem.F.type_list_append mt_append (pv 2)
          (pa_cons (pe_callB call_abs (by rfl) T.abs (by decide +kernel) (pa_cons (pe_callTy call_intI (by rfl) T.int boot_int (pa_cons (pv 3) pa_nil)) pa_nil)) pa_nil))))))
      (pss_one (ps_ret (pe_lst (pa_cons (pv 2) (pa_cons pe_int (pa_cons pe_int (pa_cons (pv 1) pa_nil))))))))), ?_⟩
    refine ⟨_, rfl, sa, _, rfl, .inl hS, _, _, rfl, rfl, Nat.zero_le _, fun c hc => ?_⟩
    have s1 : Same H (upd H c (.lst [])) := fun b o z => by rw [upd_ne (ne_of_none z hc)]; exact z
    have ncs : ∀ H2, Same H H2 → SqL K H2 sa (ns.map V.int) := fun H2 z => z.seq hS
    refine ⟨_, rfl, sa, rfl, ⟨_, ncs _ s1⟩, for_list (K := K) (a := sa) (xs := ns.map V.int)
      (fun i σ H2 => ∃ (t : Int) (v : Option V) (cs : List Int), σ = [some (.ref sa), some (.int t), some (.ref c), v] ∧ -(2 ^ 64) < t ∧ t < 2 ^ 64 ∧ Same H H2 ∧ H2 c = some (.lst (cs.map V.int)) ∧ (∀ z ∈ cs, 0 ≤ z) ∧ cs.length = i)
      ⟨_, none, [], rfl, ?_, ?_, s1, upd_same, fun z hz => absurd hz List.not_mem_nil, rfl⟩ (fun i σ H2 _ ⟨_, _, _, _, _, _, z, _⟩ => ncs _ z) ?_ ?_⟩
    · rw [List.length_map]; omega
    · rw [List.length_map]; omega
    · rintro i y σ H2 hi ⟨t, v, cs, rfl, t1, t2, s2, hcs, nn, ln⟩
      have hil : i < (ns.map V.int).length := (List.getElem?_eq_some_iff.mp hi).1
      rw [List.length_map] at hil
      obtain ⟨z, rfl⟩ : ∃ z, y = V.int z := by
        rw [List.getElem?_map] at hi
        cases e : ns[i]? with
        | none => rw [e] at hi; cases hi
        | some z => rw [e] at hi; exact ⟨z, (Option.some.inj hi).symm⟩
      refine ⟨_, rfl, _, _, rfl, rfl, .inr ⟨by decide, by decide⟩, _, rfl, _, rfl, _, _, rfl, rfl, _, rfl, _, _, rfl, rfl, (by decide : (0 : Int) < 2147483549), ?_⟩
      refine ⟨_, rfl, .inl ⟨rfl, _, SqL.of hcs⟩, _, rfl, _, rfl, _, rfl, c, _, _, rfl, rfl, hcs, ?_, ?_⟩
      · rw [List.length_map, ln]
        exact small1000 (by omega)
      · have b1 := Int.emod_nonneg (t * 1709 + z) (by decide : (2147483549 : Int) ≠ 0)
        have b2 := Int.emod_lt_of_pos (t * 1709 + z) (by decide : (0 : Int) < 2147483549)
        refine ⟨_, some (.int z), cs ++ [if z < 0 then -z else z], rfl, by omega, by omega, fun b o e => ?_, ?_, ?_, ?_⟩
        · rw [upd_ne (ne_of_none e hc)]
          exact s2 b o e
        · rw [upd_same, List.map_append]
          rfl
        · intro x hx
          rcases List.mem_append.mp hx with h1 | h1
          · exact nn x h1
          · rw [List.mem_singleton.mp h1]
            split <;> omega
        · rw [List.length_append, ln]
          rfl
    · rintro σ H2 ⟨t, v, cs, rfl, t1, t2, s2, hcs, nn, ln⟩
      refine ⟨_, rfl, _, rfl, (by show 4 ≤ sizeLine; decide), fun p hp => ?_⟩
      have npc : c ≠ p := ne_of_none hcs hp
      have s3 : Same H (upd H2 p (.lst [.ref c, .int 0, .int 0, .int t])) := fun b o e => by
        rw [upd_ne (ne_of_none (s2 b o e) hp)]
        exact s2 b o e
      refine q _ p c s3 (s2.free hp) ⟨cs, 0, 0, t, upd_same, ?_, npc, nn, by decide, by decide, ?_⟩
      · rw [upd_ne npc]
        exact hcs
      · rw [ln, List.length_map]
        exact hlen

theorem at_item {xs : List V} {i : Int} {v : V} (h0 : 0 ≤ i) (h : xs[i.toNat]? = some v) : atI xs i = some v := by
  have h1 : i.toNat < xs.length := (List.getElem?_eq_some_iff.mp h).1
  have e : (i.toNat : Int) = i := Int.toNat_of_nonneg h0
  rw [← e]
  exact atI_nat h
theorem ok_take {f fM : Addr} {fd fdM : FuncData} (F : Fun K "_law_take" "_law_take" sTake f fd) (T : TB mg) (FM : Fun K "_law_mixed" "_law_mixed" sMixed fM fdM)
    (gM : mg "_law_mixed" = some (.ref fM)) : FnOk P w K mg base CX0 2 f fd ["_law_hand_here", "_law_many"] spTake := by
  have GM : FnOk P w K mg base CX0 1 fM fdM ["_law_number", "_law_turn"] spMixed := ok_mixed FM T
  have bM : Binds K fdM ["_law_number", "_law_turn"] [] := FM.binds fun _ _ _ _ _ _ us hl => match us, hl with | [_, _], _ => rfl
  refine F.ok scTake (fun vs H Q E h => ?_) (fun cdv A outer s H vs Q E hr h => ?_)
  · obtain ⟨a, c, m, rfl, _⟩ := h
    rfl
  · obtain ⟨a, c, m, rfl, hA, m0, m9, q⟩ := h
    refine ⟨_, Evl.pss_cut (ps_if (PW.pt (pw_and (pt_cmpR op_eq (pe_ix ix_list (pv 0) pe_int (fun _ _ => rfl)) pe_int (nomark _))
          (pw_and1 (pt_cmpR op_lt (pe_ix ix_list (pv 0) pe_int (fun _ _ => rfl)) (pe_callB call_len_seq (by rfl) T.len boot_len (pa_cons (pe_ix ix_list (pv 0) pe_int (fun _ _ => rfl)) pa_nil)) (nomark _)))))
        (pss_cons (ps_set (i := 2) scTake.nd rfl (.inl rfl) (pe_ix ix_list (pe_ix ix_list (pv 0) pe_int (fun _ _ => rfl)) (pe_ix ix_list (pv 0) pe_int (fun _ _ => rfl)) (fun _ _ => rfl)))
        (pss_cons (ps_asg (pe_op op_add (pe_ix ix_list (pv 0) pe_int (fun _ _ => rfl)) pe_int) (pg_sub (pv 0) pe_int set_list))
        (pss_cons (ps_if (pt_cmpR op_lt (pv 2) (pe_op op_pow pe_int pe_int) (nomark _))
          (pss_one (ps_ret (pe_op op_mod (pe_callTy call_intI (by rfl) T.int boot_int (pa_cons (pe_call GM hr rfl gM FM.kp bM .nil pass0
            (pa_cons (pe_op op_mod (pe_callTy call_intI (by rfl) T.int boot_int (pa_cons (pv 2) pa_nil)) pe_int) (pa_cons (pe_ix ix_list (pv 0) pe_int (fun _ _ => rfl)) pa_nil))) pa_nil)) (pv 1))))
          pss_nil)
        (pss_one (ps_asg (pv 2) (pg_sub (pv 0) pe_int set_list))))))
        pss_nil)
      (pss_cons (ps_if (pt_cmpR op_gt (pe_ix ix_list (pv 0) pe_int (fun _ _ => rfl)) pe_int (nomark _))
        (pss_cons (ps_set (i := 3) scTake.nd rfl (.inl rfl) (pe_ix ix_list (pv 0) pe_int (fun _ _ => rfl)))
        (pss_cons (ps_asg (pe_op op_fdivW (pe_callTy call_intI (by rfl) T.int boot_int (pa_cons (pv 3) pa_nil)) (pv 1)) (pg_sub (pv 0) pe_int set_list))
        (pss_one (ps_ret (pe_op op_mod (pe_callTy call_intI (by rfl) T.int boot_int (pa_cons (pv 3) pa_nil)) (pv 1))))))
        pss_nil)
      (pss_cons (ps_asg (pe_op op_mod (pe_callTy call_intI (by rfl) T.int boot_int (pa_cons (pe_op op_add (pe_ix ix_list (pv 0) pe_int (fun _ _ => rfl)) pe_int) pa_nil)) pe_int) (pg_sub (pv 0) pe_int set_list))
      (pss_one (ps_ret (pe_op op_mod (pe_callTy call_intI (by rfl) T.int boot_int (pa_cons (pe_call GM hr rfl gM FM.kp bM .nil pass0
        (pa_cons (pe_ix ix_list (pv 0) pe_int (fun _ _ => rfl)) (pa_cons (pe_ix ix_list (pv 0) pe_int (fun _ _ => rfl)) pa_nil))) pa_nil)) (pv 1)))))), ?_⟩
    obtain ⟨cs, i, r, t, ha, hc, nca, nn, i0, r0, l63⟩ := hA
    have fin : ∀ (n i' r' t' : Int), 0 ≤ n → n < m → 0 ≤ i' → 0 ≤ r' → Q (.int n) (upd H a (.lst [.ref c, .int i', .int r', .int t'])) := fun n i' r' t' n0 n1 i1 r1 =>
      q n _ n0 n1 ⟨cs, i', r', t', upd_same, by rw [upd_ne nca]; exact hc, nca, nn, i1, r1, l63⟩ fun b o hb z => by rw [upd_ne hb]; exact z
    have modm : ∀ z : Int, 0 ≤ z % m ∧ z % m < m := fun z => ⟨Int.emod_nonneg _ (by omega), Int.emod_lt_of_pos _ m0⟩
    have wd : ∀ z : Int, CDivW z m := fun z => wide_div (b := 4000) m0 (by omega) (by decide) (by decide)
    have same : upd H a (.lst [.ref c, .int i, .int r, .int t]) = H := by
      funext b
      by_cases e : b = a
      · rw [e, upd_same, ha]
      · rw [upd_ne e]
    have sc : ∀ L, (upd H a L) c = some (.lst (cs.map V.int)) := fun L => by rw [upd_ne nca]; exact hc
    refine ⟨fun σ' H' => ∃ (x2 x3 : Option V) (i' r' t' : Int), σ' = [some (.ref a), some (.int m), x2, x3] ∧ H' = upd H a (.lst [.ref c, .int i', .int r', .int t']) ∧ 0 ≤ i' ∧ 0 ≤ r', ?_, ?_⟩
    · -- the first half
      refine ⟨_, rfl, a, _, 2, _, rfl, rfl, SqL.of ha, rfl, rfl, _, rfl, ?_⟩
      refine ite2 (fun hr0 => ?_) (fun _ => ?_)
      · have er : r = 0 := by simpa using hr0
        refine ⟨_, rfl, a, _, 1, _, rfl, rfl, SqL.of ha, rfl, _, rfl, a, _, 0, _, rfl, rfl, SqL.of ha, rfl, c, _, rfl, .inl (SqL.of hc), _, _, rfl, rfl, _, rfl, ?_⟩
        refine ite2 (fun hlt => ?_) (fun _ => ?_)
        · have hi : i < (cs.length : Int) := by
            have z := of_decide_eq_true hlt
            rwa [List.length_map] at z
          have hx : cs[i.toNat]? = some (cs[i.toNat]'(by omega)) := List.getElem?_eq_getElem _
          generalize (cs[i.toNat]'(by omega)) = x at hx
          have x0 : 0 ≤ x := nn x (List.mem_of_getElem? hx)
          refine ⟨_, rfl, a, _, 0, _, rfl, rfl, SqL.of ha, rfl, _, rfl, a, _, 1, _, rfl, rfl, SqL.of ha, rfl, c, _, i, .int x, rfl, rfl, SqL.of hc, at_item i0 (by rw [List.getElem?_map, hx]; rfl), ?_⟩
          refine ⟨_, rfl, a, _, 1, _, rfl, rfl, SqL.of ha, rfl, _, _, rfl, rfl, _, rfl, a, _, 1, 1, rfl, rfl, ha, rfl, ?_⟩
          refine ⟨_, rfl, _, _, rfl, rfl, ⟨by decide, by decide, by decide⟩, _, _, rfl, rfl, _, rfl, ?_⟩
          refine ite2 (fun _ => ?_) (fun hge => ?_)
          · refine ⟨_, rfl, _, rfl, _, _, rfl, rfl, (by decide : (0 : Int) < 2147483399), _, rfl, a, _, 1, _, rfl, rfl, SqL.of upd_same, rfl, _, _, rfl, fun z hz => ?_⟩
            refine ⟨_, rfl, _, rfl, _, _, rfl, rfl, m0, ?_⟩
            exact fin _ _ _ _ (modm z).1 (modm z).2 (by omega) r0
          · refine ⟨_, rfl, _, rfl, a, _, 2, 2, rfl, rfl, upd_same, rfl, ?_⟩
            refine ⟨_, _, i + 1, x, t, rfl, ?_, by omega, x0⟩
            rw [upd_upd]
            rfl
        · exact ⟨none, none, i, r, t, rfl, same.symm, i0, r0⟩
      · exact ⟨none, none, i, r, t, rfl, same.symm, i0, r0⟩
    · -- the second half
      rintro σ' H' ⟨x2, x3, i', r', t', rfl, rfl, i1, r1⟩
      refine ⟨_, rfl, a, _, 2, _, rfl, rfl, SqL.of upd_same, rfl, _, _, rfl, rfl, _, rfl, ?_⟩
      refine ite2 (fun hpos => ?_) (fun _ => ?_)
      · have rp : 0 < r' := of_decide_eq_true hpos
        refine ⟨_, rfl, a, _, 2, _, rfl, rfl, SqL.of upd_same, rfl, ?_⟩
        refine ⟨_, rfl, _, rfl, _, rfl, _, _, rfl, rfl, wd _, _, rfl, a, _, 2, 2, rfl, rfl, upd_same, rfl, ?_⟩
        refine ⟨_, rfl, _, rfl, _, rfl, _, _, rfl, rfl, m0, ?_⟩
        rw [upd_upd]
        exact fin _ i' (r' / m) t' (modm r').1 (modm r').2 i1 (Int.ediv_nonneg r1 (by omega))
      · refine ⟨_, rfl, a, _, 3, _, rfl, rfl, SqL.of upd_same, rfl, _, _, rfl, rfl, _, rfl, _, _, rfl, rfl, (by decide : (0 : Int) < 2147483549), _, rfl, a, _, 3, 3, rfl, rfl, upd_same, rfl, ?_⟩
        refine ⟨_, rfl, a, _, 3, _, rfl, rfl, SqL.of upd_same, rfl, _, rfl, a, _, 1, _, rfl, rfl, SqL.of upd_same, rfl, _, _, rfl, fun z hz => ?_⟩
        refine ⟨_, rfl, _, rfl, _, _, rfl, rfl, m0, ?_⟩
        rw [upd_upd]
        exact fin _ i' r' _ (modm z).1 (modm z).2 i1 r1
end
end Hd
set_option Elab.async false
set_option linter.all false
set_option maxRecDepth 100000
set_option maxHeartbeats 400000
namespace Hd
open PySem PySem.Spec PyProof.Rows L2 Gk
abbrev sFirst : Stmt := topS 53
abbrev sSecond : Stmt := topS 54
abbrev sAll : Stmt := topS 55
theorem scFirst : FnScope ["_law_e", "_law_told"] ["_law_e"] (defScope sFirst) := ⟨rfl, rfl, rfl, by decide +kernel, rfl, by decide +kernel, by decide +kernel⟩
theorem scSecond : FnScope ["_law_e", "_law_told"] ["_law_e"] (defScope sSecond) := ⟨rfl, rfl, rfl, by decide +kernel, rfl, by decide +kernel, by decide +kernel⟩
theorem scAll : FnScope ["_law_one", "_law_two", "_law_made"] ["_law_one", "_law_two"] (defScope sAll) := ⟨rfl, rfl, rfl, by decide +kernel, rfl, by decide +kernel, by decide +kernel⟩
/-- the classes' names, in the order of the text -/
def nms : List Str := [("BadRatio" : Str), ("BadMould" : Str), ("BadLetter" : Str), ("BadNumbers" : Str), ("BadCell" : Str), ("BadOrder" : Str), ("BadWeb" : Str), ("BadPoint" : Str), ("BadTie" : Str), ("BadGrouping" : Str), ("BadCount" : Str), ("BadAsk" : Str), ("BadText" : Str), ("BadAnswers" : Str), ("BadModulus" : Str), ("NotFree" : Str), ("NotColumns" : Str), ("NoGroup" : Str), ("BadWalk" : Str), ("NoAnswer" : Str), ("CantTake" : Str), ("BadMost" : Str), ("TooMany" : Str), ("BadBudget" : Str), ("BadLines" : Str), ("BadBlock" : Str), ("BadWay" : Str), ("BadPoints" : Str), ("BadPlan" : Str), ("BadPath" : Str), ("BadStranger" : Str), ("BadPoly" : Str), ("UnlikePolys" : Str), ("BadValues" : Str), ("NoEntry" : Str), ("NoResult" : Str), ("BadProgram" : Str), ("BadChain" : Str), ("BadAlong" : Str), ("TooGreat" : Str), ("BadShape" : Str), ("BadEdit" : Str), ("BadGoal" : Str), ("BadBench" : Str), ("Clashing" : Str), ("NoAnswers" : Str), ("NothingDone" : Str)]
def nmAt (i : Nat) : Str := nms.getD i ""
theorem nm_inj : ∀ i, i < 47 → ∀ j, j < 47 → nmAt i = nmAt j → i = j := by decide +kernel
/-- what the top has written: S the base, Cs the classes -/
structure TX (K : PySem.W.Frag) (mg : Str → Option Value) (S : Addr) (Cs : Nat → Addr) : Prop where
  tb : TB mg
  g : XG K
  b : XB K S
  gS : mg "SlopeError" = some (.ref S)
  nS : ∀ i, i < 47 → S ≠ Cs i
  iso : mg "isinstance" = none
  ve : mg "ValueError" = none
  rep : mg "repr" = none
  ran : mg "range" = none
  e0 : E1 K mg S (Cs 0) "BadRatio" "what"
  e1 : E2 K mg S (Cs 1) "BadMould" "what" "index"
  e2 : E1 K mg S (Cs 2) "BadLetter" "letter"
  e3 : E1 K mg S (Cs 3) "BadNumbers" "index"
  e4 : E1 K mg S (Cs 4) "BadCell" "cell"
  e5 : E1 K mg S (Cs 5) "BadOrder" "what"
  e6 : E2 K mg S (Cs 6) "BadWeb" "what" "index"
  e7 : E1 K mg S (Cs 7) "BadPoint" "point"
  e8 : E1 K mg S (Cs 8) "BadTie" "tie"
  e9 : E1 K mg S (Cs 9) "BadGrouping" "index"
  e10 : E1 K mg S (Cs 10) "BadCount" "count"
  e11 : E2 K mg S (Cs 11) "BadAsk" "index" "what"
  e12 : E1 K mg S (Cs 12) "BadText" "index"
  e13 : E2 K mg S (Cs 13) "BadAnswers" "index" "what"
  e14 : E1 K mg S (Cs 14) "BadModulus" "modulus"
  e15 : E0 K mg S (Cs 15) "NotFree"
  e16 : E1 K mg S (Cs 16) "NotColumns" "index"
  e17 : E1 K mg S (Cs 17) "NoGroup" "group"
  e18 : E1 K mg S (Cs 18) "BadWalk" "what"
  e19 : E1 K mg S (Cs 19) "NoAnswer" "answer"
  e20 : E1 K mg S (Cs 20) "CantTake" "letter"
  e21 : E1 K mg S (Cs 21) "BadMost" "most"
  e22 : E1 K mg S (Cs 22) "TooMany" "count"
  e23 : E1 K mg S (Cs 23) "BadBudget" "what"
  e24 : E1 K mg S (Cs 24) "BadLines" "index"
  e25 : E1 K mg S (Cs 25) "BadBlock" "what"
  e26 : E1 K mg S (Cs 26) "BadWay" "way"
  e27 : E1 K mg S (Cs 27) "BadPoints" "index"
  e28 : E2 K mg S (Cs 28) "BadPlan" "path" "what"
  e29 : E0 K mg S (Cs 29) "BadPath"
  e30 : E1 K mg S (Cs 30) "BadStranger" "index"
  e31 : E2 K mg S (Cs 31) "BadPoly" "what" "index"
  e32 : E0 K mg S (Cs 32) "UnlikePolys"
  e33 : E1 K mg S (Cs 33) "BadValues" "index"
  e34 : E1 K mg S (Cs 34) "NoEntry" "entry"
  e35 : E1 K mg S (Cs 35) "NoResult" "result"
  e36 : E2 K mg S (Cs 36) "BadProgram" "what" "index"
  e37 : E0 K mg S (Cs 37) "BadChain"
  e38 : E1 K mg S (Cs 38) "BadAlong" "index"
  e39 : E1 K mg S (Cs 39) "TooGreat" "many"
  e40 : E0 K mg S (Cs 40) "BadShape"
  e41 : E2 K mg S (Cs 41) "BadEdit" "index" "what"
  e42 : E1 K mg S (Cs 42) "BadGoal" "what"
  e43 : E0 K mg S (Cs 43) "BadBench"
  e44 : E1 K mg S (Cs 44) "Clashing" "weights"
  e45 : E0 K mg S (Cs 45) "NoAnswers"
  e46 : E0 K mg S (Cs 46) "NothingDone"
section
variable {P : Program} {w : World} {K : PySem.W.Frag} {mg : Str → Option Value} {base : Heap} {S : Addr} {Cs : Nat → Addr}
theorem TX.xc (T : TX K mg S Cs) : ∀ i, i < 47 → XC K S (Cs i) (nmAt i)
  | 0, _ => T.e0.xc
  | 1, _ => T.e1.xc
  | 2, _ => T.e2.xc
  | 3, _ => T.e3.xc
  | 4, _ => T.e4.xc
  | 5, _ => T.e5.xc
  | 6, _ => T.e6.xc
  | 7, _ => T.e7.xc
  | 8, _ => T.e8.xc
  | 9, _ => T.e9.xc
  | 10, _ => T.e10.xc
  | 11, _ => T.e11.xc
  | 12, _ => T.e12.xc
  | 13, _ => T.e13.xc
  | 14, _ => T.e14.xc
  | 15, _ => T.e15.xc
  | 16, _ => T.e16.xc
  | 17, _ => T.e17.xc
  | 18, _ => T.e18.xc
  | 19, _ => T.e19.xc
  | 20, _ => T.e20.xc
  | 21, _ => T.e21.xc
  | 22, _ => T.e22.xc
  | 23, _ => T.e23.xc
  | 24, _ => T.e24.xc
  | 25, _ => T.e25.xc
  | 26, _ => T.e26.xc
  | 27, _ => T.e27.xc
  | 28, _ => T.e28.xc
  | 29, _ => T.e29.xc
  | 30, _ => T.e30.xc
  | 31, _ => T.e31.xc
  | 32, _ => T.e32.xc
  | 33, _ => T.e33.xc
  | 34, _ => T.e34.xc
  | 35, _ => T.e35.xc
  | 36, _ => T.e36.xc
  | 37, _ => T.e37.xc
  | 38, _ => T.e38.xc
  | 39, _ => T.e39.xc
  | 40, _ => T.e40.xc
  | 41, _ => T.e41.xc
  | 42, _ => T.e42.xc
  | 43, _ => T.e43.xc
  | 44, _ => T.e44.xc
  | 45, _ => T.e45.xc
  | 46, _ => T.e46.xc
  | n + 47, h => absurd h (by omega)
theorem TX.kit (T : TX K mg S Cs) {i j : Nat} (hi : i < 47) (hj : j < 47) : PySem.W.kitOne K (.ref (Cs i)) (.ref (Cs j)) = some (decide (i = j)) := by
  by_cases h : i = j
  · subst h
    rw [decide_eq_true rfl]
    exact (T.xc i hi).kitSame
  · rw [decide_eq_false h]
    exact (T.xc i hi).kitNe (T.xc j hj) ((T.xc i hi).ne (T.xc j hj) fun e => h (nm_inj i hi j hj e)) (T.nS j hj)
/-- isinstance(e, the j-th class), .. -/
theorem ba_nil {σ : L2.St} {H : Hp} : ∀ Q : List V → Hp → Prop, Q (([] : List Bool).map V.bl) H → tNil σ H Q := fun Q h => h
theorem ba_cons (T : TX K mg S Cs) {tr : TA} {σ : L2.St} {H : Hp} {bs : List Bool} {e : Addr} {i j : Nat} {fs : List (Str × V)} (hi : i < 47) (hj : j < 47) (hσ : σ[0]? = some (some (.ref e))) (hx : XAt H e (Cs i) fs)
    (hr : ∀ Q : List V → Hp → Prop, Q (bs.map V.bl) H → tr σ H Q) : ∀ Q : List V → Hp → Prop, Q ((decide (i = j) :: bs).map V.bl) H → tCons (tCB (rIsX K S) (tCons (tVar 0) (tCons (tC (.ref (Cs j))) tNil))) tr σ H Q :=
  fun Q h => ⟨.ref e, hσ, e, Cs i, fs, nmAt i, .ref (Cs j), .ref (Cs j), _, rfl, .own _, hx, T.xc i hi, T.kit hi hj, hr _ h⟩
/-- told + [..] -/
theorem cat_bools {σ : L2.St} {H : Hp} {ta : TA} {bs cs : List Bool} {p : Addr} {Q : VK} (hσ : σ[1]? = some (some (.ref p))) (hp : H p = some (.lst (bs.map V.bl)))
    (ha : ∀ Q : List V → Hp → Prop, Q (cs.map V.bl) H → ta σ H Q) (hl : bs.length + cs.length ≤ 1000)
    (k : ∀ p3 H3, Same H H3 → H p3 = none → H3 p3 = some (.lst ((bs ++ cs).map V.bl)) → Q (.ref p3) H3) : tOp rCat (tVar 1) (tLst ta) σ H Q := by
  refine ⟨_, hσ, ha _ ⟨by rw [List.length_map]; exact Nat.le_of_lt (small1000 (by omega)), fun p2 h2 => ?_⟩⟩
  refine ⟨p, p2, bs.map V.bl, cs.map V.bl, rfl, rfl, by rw [upd_ne (ne_of_none hp h2)]; exact hp, upd_same, by rw [List.length_map, List.length_map]; exact Nat.le_of_lt (small1000 hl), fun p3 h3 => ?_⟩
  have s1 := same_upd' (o := .lst (cs.map V.bl)) h2
  refine k p3 _ (s1.trans (same_upd' h3)) (Same.free s1 h3) ?_
  rw [upd_same, List.map_append]
theorem lst_bools {σ : L2.St} {H : Hp} {ta : TA} {cs : List Bool} {Q : VK} (ha : ∀ Q : List V → Hp → Prop, Q (cs.map V.bl) H → ta σ H Q) (hl : cs.length ≤ 1000)
    (k : ∀ p3 H3, Same H H3 → H p3 = none → H3 p3 = some (.lst (cs.map V.bl)) → Q (.ref p3) H3) : tLst ta σ H Q :=
  ha _ ⟨by rw [List.length_map]; exact Nat.le_of_lt (small1000 hl), fun p hp => k p _ (same_upd' hp) hp upd_same⟩
theorem q_lstB {σ : L2.St} {H : Hp} {D : Ends} {tz : TS} {ta : TA} {cs : List Bool} {n : Nat} (ha : ∀ Q : List V → Hp → Prop, Q (cs.map V.bl) H → ta σ H Q) (hl : cs.length ≤ 1000)
    (k : ∀ p3 H3, Same H H3 → H p3 = none → H3 p3 = some (.lst (cs.map V.bl)) → tz D (σ.set n (some (.ref p3))) H3) : tSeq (tAsg (tLst ta) (gName n)) tz D σ H := lst_bools (Q := fun v H3 => tz D (σ.set n (some v)) H3) ha hl k
theorem q_catB {σ : L2.St} {H : Hp} {D : Ends} {tz : TS} {ta : TA} {bs cs : List Bool} {p : Addr} {n : Nat} (hσ : σ[1]? = some (some (.ref p))) (hp : H p = some (.lst (bs.map V.bl)))
    (ha : ∀ Q : List V → Hp → Prop, Q (cs.map V.bl) H → ta σ H Q) (hl : bs.length + cs.length ≤ 1000)
    (k : ∀ p3 H3, Same H H3 → H p3 = none → H3 p3 = some (.lst ((bs ++ cs).map V.bl)) → tz D (σ.set n (some (.ref p3))) H3) : tSeq (tAsg (tOp rCat (tVar 1) (tLst ta)) (gName n)) tz D σ H := cat_bools hσ hp ha hl k
theorem r_catB {σ : L2.St} {H : Hp} {D : Ends} {ta : TA} {bs cs : List Bool} {p : Addr} (hσ : σ[1]? = some (some (.ref p))) (hp : H p = some (.lst (bs.map V.bl)))
    (ha : ∀ Q : List V → Hp → Prop, Q (cs.map V.bl) H → ta σ H Q) (hl : bs.length + cs.length ≤ 1000)
    (k : ∀ p3 H3, Same H H3 → H p3 = none → H3 p3 = some (.lst ((bs ++ cs).map V.bl)) → D.rt (.ref p3) H3) : tRet (tOp rCat (tVar 1) (tLst ta)) D σ H := cat_bools hσ hp ha hl k

def spFirst (Cs : Nat → Addr) : Sp := fun vs H Q _ => ∃ (e : Addr) (i : Nat) (fs : List (Str × V)), vs = [.ref e] ∧ i < 47 ∧ XAt H e (Cs i) fs ∧
  ∀ p H', Same H H' → H p = none → H' p = some (.lst (([decide (i = 0), decide (i = 1), decide (i = 2), decide (i = 3), decide (i = 4), decide (i = 5), decide (i = 6), decide (i = 7), decide (i = 8), decide (i = 9), decide (i = 10), decide (i = 11), decide (i = 12), decide (i = 13), decide (i = 14), decide (i = 15), decide (i = 16), decide (i = 17), decide (i = 18), decide (i = 19), decide (i = 20), decide (i = 21), decide (i = 22), decide (i = 23)] : List Bool).map V.bl)) → Q (.ref p) H'
theorem ok_spFirst {f : Addr} {fd : FuncData} (F : Fun K "_law_first" "_law_first" sFirst f fd) (T : TX K mg S Cs) : FnOk P w K mg base CX0 1 f fd ["_law_e"] (spFirst Cs) := by
  refine F.ok scFirst (fun vs H Q E h => ?_) (fun cdv A outer s H vs Q E hr h => ?_)
  · obtain ⟨e, i, fs, rfl, _⟩ := h
    rfl
  · obtain ⟨e, i, fs, rfl, hi, hx, q⟩ := h
    refine ⟨_, (pss_cons (ps_set (i := 1) scFirst.nd rfl (.inl rfl) (pe_lst (pa_cons (pe_callB (call_isX (S := S) T.g) (by rfl) T.iso (by decide +kernel) (pa_cons (pv 0) (pa_cons (pe_glob (v := .ref (Cs 0)) (by rfl) T.e0.gm rfl) pa_nil))) (pa_cons (pe_callB (call_isX (S := S) T.g) (by rfl) T.iso (by decide +kernel) (pa_cons (pv 0) (pa_cons (pe_glob (v := .ref (Cs 1)) (by rfl) T.e1.gm rfl) pa_nil))) (pa_cons (pe_callB (call_isX (S := S) T.g) (by rfl) T.iso (by decide +kernel) (pa_cons (pv 0) (pa_cons (pe_glob (v := .ref (Cs 2)) (by rfl) T.e2.gm rfl) pa_nil))) (pa_cons (pe_callB (call_isX (S := S) T.g) (by rfl) T.iso (by decide +kernel) (pa_cons (pv 0) (pa_cons (pe_glob (v := .ref (Cs 3)) (by rfl) T.e3.gm rfl) pa_nil))) pa_nil))))))
      (pss_cons (ps_set (i := 1) scFirst.nd rfl (.inl rfl) (pe_op op_cat (pv 1) (pe_lst (pa_cons (pe_callB (call_isX (S := S) T.g) (by rfl) T.iso (by decide +kernel) (pa_cons (pv 0) (pa_cons (pe_glob (v := .ref (Cs 4)) (by rfl) T.e4.gm rfl) pa_nil))) (pa_cons (pe_callB (call_isX (S := S) T.g) (by rfl) T.iso (by decide +kernel) (pa_cons (pv 0) (pa_cons (pe_glob (v := .ref (Cs 5)) (by rfl) T.e5.gm rfl) pa_nil))) (pa_cons (pe_callB (call_isX (S := S) T.g) (by rfl) T.iso (by decide +kernel) (pa_cons (pv 0) (pa_cons (pe_glob (v := .ref (Cs 6)) (by rfl) T.e6.gm rfl) pa_nil))) (pa_cons (pe_callB (call_isX (S := S) T.g) (by rfl) T.iso (by decide +kernel) (pa_cons (pv 0) (pa_cons (pe_glob (v := .ref (Cs 7)) (by rfl) T.e7.gm rfl) pa_nil))) pa_nil)))))))
      (pss_cons (ps_set (i := 1) scFirst.nd rfl (.inl rfl) (pe_op op_cat (pv 1) (pe_lst (pa_cons (pe_callB (call_isX (S := S) T.g) (by rfl) T.iso (by decide +kernel) (pa_cons (pv 0) (pa_cons (pe_glob (v := .ref (Cs 8)) (by rfl) T.e8.gm rfl) pa_nil))) (pa_cons (pe_callB (call_isX (S := S) T.g) (by rfl) T.iso (by decide +kernel) (pa_cons (pv 0) (pa_cons (pe_glob (v := .ref (Cs 9)) (by rfl) T.e9.gm rfl) pa_nil))) (pa_cons (pe_callB (call_isX (S := S) T.g) (by rfl) T.iso (by decide +kernel) (pa_cons (pv 0) (pa_cons (pe_glob (v := .ref (Cs 10)) (by rfl) T.e10.gm rfl) pa_nil))) (pa_cons (pe_callB (call_isX (S := S) T.g) (by rfl) T.iso (by decide +kernel) (pa_cons (pv 0) (pa_cons (pe_glob (v := .ref (Cs 11)) (by rfl) T.e11.gm rfl) pa_nil))) pa_nil)))))))
      (pss_cons (ps_set (i := 1) scFirst.nd rfl (.inl rfl) (pe_op op_cat (pv 1) (pe_lst (pa_cons (pe_callB (call_isX (S := S) T.g) (by rfl) T.iso (by decide +kernel) (pa_cons (pv 0) (pa_cons (pe_glob (v := .ref (Cs 12)) (by rfl) T.e12.gm rfl) pa_nil))) (pa_cons (pe_callB (call_isX (S := S) T.g) (by rfl) T.iso (by decide +kernel) (pa_cons (pv 0) (pa_cons (pe_glob (v := .ref (Cs 13)) (by rfl) T.e13.gm rfl) pa_nil))) (pa_cons (pe_callB (call_isX (S := S) T.g) (by rfl) T.iso (by decide +kernel) (pa_cons (pv 0) (pa_cons (pe_glob (v := .ref (Cs 14)) (by rfl) T.e14.gm rfl) pa_nil))) (pa_cons (pe_callB (call_isX (S := S) T.g) (by rfl) T.iso (by decide +kernel) (pa_cons (pv 0) (pa_cons (pe_glob (v := .ref (Cs 15)) (by rfl) T.e15.gm rfl) pa_nil))) pa_nil)))))))
      (pss_cons (ps_set (i := 1) scFirst.nd rfl (.inl rfl) (pe_op op_cat (pv 1) (pe_lst (pa_cons (pe_callB (call_isX (S := S) T.g) (by rfl) T.iso (by decide +kernel) (pa_cons (pv 0) (pa_cons (pe_glob (v := .ref (Cs 16)) (by rfl) T.e16.gm rfl) pa_nil))) (pa_cons (pe_callB (call_isX (S := S) T.g) (by rfl) T.iso (by decide +kernel) (pa_cons (pv 0) (pa_cons (pe_glob (v := .ref (Cs 17)) (by rfl) T.e17.gm rfl) pa_nil))) (pa_cons (pe_callB (call_isX (S := S) T.g) (by rfl) T.iso (by decide +kernel) (pa_cons (pv 0) (pa_cons (pe_glob (v := .ref (Cs 18)) (by rfl) T.e18.gm rfl) pa_nil))) (pa_cons (pe_callB (call_isX (S := S) T.g) (by rfl) T.iso (by decide +kernel) (pa_cons (pv 0) (pa_cons (pe_glob (v := .ref (Cs 19)) (by rfl) T.e19.gm rfl) pa_nil))) pa_nil)))))))
      (pss_one (ps_ret (pe_op op_cat (pv 1) (pe_lst (pa_cons (pe_callB (call_isX (S := S) T.g) (by rfl) T.iso (by decide +kernel) (pa_cons (pv 0) (pa_cons (pe_glob (v := .ref (Cs 20)) (by rfl) T.e20.gm rfl) pa_nil))) (pa_cons (pe_callB (call_isX (S := S) T.g) (by rfl) T.iso (by decide +kernel) (pa_cons (pv 0) (pa_cons (pe_glob (v := .ref (Cs 21)) (by rfl) T.e21.gm rfl) pa_nil))) (pa_cons (pe_callB (call_isX (S := S) T.g) (by rfl) T.iso (by decide +kernel) (pa_cons (pv 0) (pa_cons (pe_glob (v := .ref (Cs 22)) (by rfl) T.e22.gm rfl) pa_nil))) (pa_cons (pe_callB (call_isX (S := S) T.g) (by rfl) T.iso (by decide +kernel) (pa_cons (pv 0) (pa_cons (pe_glob (v := .ref (Cs 23)) (by rfl) T.e23.gm rfl) pa_nil))) pa_nil))))))))))))), ?_⟩
    refine q_lstB (ba_cons T hi (j := 0) (by decide) rfl (hx) (ba_cons T hi (j := 1) (by decide) rfl (hx) (ba_cons T hi (j := 2) (by decide) rfl (hx) (ba_cons T hi (j := 3) (by decide) rfl (hx) ba_nil)))) (by simp) fun p0 H0 s0 n0 h0 => ?_
    refine q_catB rfl h0 (ba_cons T hi (j := 4) (by decide) rfl (hx.keep s0) (ba_cons T hi (j := 5) (by decide) rfl (hx.keep s0) (ba_cons T hi (j := 6) (by decide) rfl (hx.keep s0) (ba_cons T hi (j := 7) (by decide) rfl (hx.keep s0) ba_nil)))) (by simp) fun p1 H1 t1 m1 h1 => ?_
    have s1 := s0.trans t1
    have n1 := Same.free s0 m1
    refine q_catB rfl h1 (ba_cons T hi (j := 8) (by decide) rfl (hx.keep s1) (ba_cons T hi (j := 9) (by decide) rfl (hx.keep s1) (ba_cons T hi (j := 10) (by decide) rfl (hx.keep s1) (ba_cons T hi (j := 11) (by decide) rfl (hx.keep s1) ba_nil)))) (by simp) fun p2 H2 t2 m2 h2 => ?_
    have s2 := s1.trans t2
    have n2 := Same.free s1 m2
    refine q_catB rfl h2 (ba_cons T hi (j := 12) (by decide) rfl (hx.keep s2) (ba_cons T hi (j := 13) (by decide) rfl (hx.keep s2) (ba_cons T hi (j := 14) (by decide) rfl (hx.keep s2) (ba_cons T hi (j := 15) (by decide) rfl (hx.keep s2) ba_nil)))) (by simp) fun p3 H3 t3 m3 h3 => ?_
    have s3 := s2.trans t3
    have n3 := Same.free s2 m3
    refine q_catB rfl h3 (ba_cons T hi (j := 16) (by decide) rfl (hx.keep s3) (ba_cons T hi (j := 17) (by decide) rfl (hx.keep s3) (ba_cons T hi (j := 18) (by decide) rfl (hx.keep s3) (ba_cons T hi (j := 19) (by decide) rfl (hx.keep s3) ba_nil)))) (by simp) fun p4 H4 t4 m4 h4 => ?_
    have s4 := s3.trans t4
    have n4 := Same.free s3 m4
    refine r_catB rfl h4 (ba_cons T hi (j := 20) (by decide) rfl (hx.keep s4) (ba_cons T hi (j := 21) (by decide) rfl (hx.keep s4) (ba_cons T hi (j := 22) (by decide) rfl (hx.keep s4) (ba_cons T hi (j := 23) (by decide) rfl (hx.keep s4) ba_nil)))) (by simp) fun p5 H5 t5 m5 h5 => ?_
    have s5 := s4.trans t5
    have n5 := Same.free s4 m5
    exact q p5 H5 s5 n5 h5
def spSecond (Cs : Nat → Addr) : Sp := fun vs H Q _ => ∃ (e : Addr) (i : Nat) (fs : List (Str × V)), vs = [.ref e] ∧ i < 47 ∧ XAt H e (Cs i) fs ∧
  ∀ p H', Same H H' → H p = none → H' p = some (.lst (([decide (i = 24), decide (i = 25), decide (i = 26), decide (i = 27), decide (i = 28), decide (i = 29), decide (i = 30), decide (i = 31), decide (i = 32), decide (i = 33), decide (i = 34), decide (i = 35), decide (i = 36), decide (i = 37), decide (i = 38), decide (i = 39), decide (i = 40), decide (i = 41), decide (i = 42), decide (i = 43), decide (i = 44), decide (i = 45), decide (i = 46)] : List Bool).map V.bl)) → Q (.ref p) H'
theorem ok_spSecond {f : Addr} {fd : FuncData} (F : Fun K "_law_second" "_law_second" sSecond f fd) (T : TX K mg S Cs) : FnOk P w K mg base CX0 1 f fd ["_law_e"] (spSecond Cs) := by
  refine F.ok scSecond (fun vs H Q E h => ?_) (fun cdv A outer s H vs Q E hr h => ?_)
  · obtain ⟨e, i, fs, rfl, _⟩ := h
    rfl
  · obtain ⟨e, i, fs, rfl, hi, hx, q⟩ := h
    refine ⟨_, (pss_cons (ps_set (i := 1) scSecond.nd rfl (.inl rfl) (pe_lst (pa_cons (pe_callB (call_isX (S := S) T.g) (by rfl) T.iso (by decide +kernel) (pa_cons (pv 0) (pa_cons (pe_glob (v := .ref (Cs 24)) (by rfl) T.e24.gm rfl) pa_nil))) (pa_cons (pe_callB (call_isX (S := S) T.g) (by rfl) T.iso (by decide +kernel) (pa_cons (pv 0) (pa_cons (pe_glob (v := .ref (Cs 25)) (by rfl) T.e25.gm rfl) pa_nil))) (pa_cons (pe_callB (call_isX (S := S) T.g) (by rfl) T.iso (by decide +kernel) (pa_cons (pv 0) (pa_cons (pe_glob (v := .ref (Cs 26)) (by rfl) T.e26.gm rfl) pa_nil))) (pa_cons (pe_callB (call_isX (S := S) T.g) (by rfl) T.iso (by decide +kernel) (pa_cons (pv 0) (pa_cons (pe_glob (v := .ref (Cs 27)) (by rfl) T.e27.gm rfl) pa_nil))) pa_nil))))))
      (pss_cons (ps_set (i := 1) scSecond.nd rfl (.inl rfl) (pe_op op_cat (pv 1) (pe_lst (pa_cons (pe_callB (call_isX (S := S) T.g) (by rfl) T.iso (by decide +kernel) (pa_cons (pv 0) (pa_cons (pe_glob (v := .ref (Cs 28)) (by rfl) T.e28.gm rfl) pa_nil))) (pa_cons (pe_callB (call_isX (S := S) T.g) (by rfl) T.iso (by decide +kernel) (pa_cons (pv 0) (pa_cons (pe_glob (v := .ref (Cs 29)) (by rfl) T.e29.gm rfl) pa_nil))) (pa_cons (pe_callB (call_isX (S := S) T.g) (by rfl) T.iso (by decide +kernel) (pa_cons (pv 0) (pa_cons (pe_glob (v := .ref (Cs 30)) (by rfl) T.e30.gm rfl) pa_nil))) (pa_cons (pe_callB (call_isX (S := S) T.g) (by rfl) T.iso (by decide +kernel) (pa_cons (pv 0) (pa_cons (pe_glob (v := .ref (Cs 31)) (by rfl) T.e31.gm rfl) pa_nil))) pa_nil)))))))
      (pss_cons (ps_set (i := 1) scSecond.nd rfl (.inl rfl) (pe_op op_cat (pv 1) (pe_lst (pa_cons (pe_callB (call_isX (S := S) T.g) (by rfl) T.iso (by decide +kernel) (pa_cons (pv 0) (pa_cons (pe_glob (v := .ref (Cs 32)) (by rfl) T.e32.gm rfl) pa_nil))) (pa_cons (pe_callB (call_isX (S := S) T.g) (by rfl) T.iso (by decide +kernel) (pa_cons (pv 0) (pa_cons (pe_glob (v := .ref (Cs 33)) (by rfl) T.e33.gm rfl) pa_nil))) (pa_cons (pe_callB (call_isX (S := S) T.g) (by rfl) T.iso (by decide +kernel) (pa_cons (pv 0) (pa_cons (pe_glob (v := .ref (Cs 34)) (by rfl) T.e34.gm rfl) pa_nil))) (pa_cons (pe_callB (call_isX (S := S) T.g) (by rfl) T.iso (by decide +kernel) (pa_cons (pv 0) (pa_cons (pe_glob (v := .ref (Cs 35)) (by rfl) T.e35.gm rfl) pa_nil))) pa_nil)))))))
      (pss_cons (ps_set (i := 1) scSecond.nd rfl (.inl rfl) (pe_op op_cat (pv 1) (pe_lst (pa_cons (pe_callB (call_isX (S := S) T.g) (by rfl) T.iso (by decide +kernel) (pa_cons (pv 0) (pa_cons (pe_glob (v := .ref (Cs 36)) (by rfl) T.e36.gm rfl) pa_nil))) (pa_cons (pe_callB (call_isX (S := S) T.g) (by rfl) T.iso (by decide +kernel) (pa_cons (pv 0) (pa_cons (pe_glob (v := .ref (Cs 37)) (by rfl) T.e37.gm rfl) pa_nil))) (pa_cons (pe_callB (call_isX (S := S) T.g) (by rfl) T.iso (by decide +kernel) (pa_cons (pv 0) (pa_cons (pe_glob (v := .ref (Cs 38)) (by rfl) T.e38.gm rfl) pa_nil))) (pa_cons (pe_callB (call_isX (S := S) T.g) (by rfl) T.iso (by decide +kernel) (pa_cons (pv 0) (pa_cons (pe_glob (v := .ref (Cs 39)) (by rfl) T.e39.gm rfl) pa_nil))) pa_nil)))))))
      (pss_cons (ps_set (i := 1) scSecond.nd rfl (.inl rfl) (pe_op op_cat (pv 1) (pe_lst (pa_cons (pe_callB (call_isX (S := S) T.g) (by rfl) T.iso (by decide +kernel) (pa_cons (pv 0) (pa_cons (pe_glob (v := .ref (Cs 40)) (by rfl) T.e40.gm rfl) pa_nil))) (pa_cons (pe_callB (call_isX (S := S) T.g) (by rfl) T.iso (by decide +kernel) (pa_cons (pv 0) (pa_cons (pe_glob (v := .ref (Cs 41)) (by rfl) T.e41.gm rfl) pa_nil))) (pa_cons (pe_callB (call_isX (S := S) T.g) (by rfl) T.iso (by decide +kernel) (pa_cons (pv 0) (pa_cons (pe_glob (v := .ref (Cs 42)) (by rfl) T.e42.gm rfl) pa_nil))) (pa_cons (pe_callB (call_isX (S := S) T.g) (by rfl) T.iso (by decide +kernel) (pa_cons (pv 0) (pa_cons (pe_glob (v := .ref (Cs 43)) (by rfl) T.e43.gm rfl) pa_nil))) pa_nil)))))))
      (pss_one (ps_ret (pe_op op_cat (pv 1) (pe_lst (pa_cons (pe_callB (call_isX (S := S) T.g) (by rfl) T.iso (by decide +kernel) (pa_cons (pv 0) (pa_cons (pe_glob (v := .ref (Cs 44)) (by rfl) T.e44.gm rfl) pa_nil))) (pa_cons (pe_callB (call_isX (S := S) T.g) (by rfl) T.iso (by decide +kernel) (pa_cons (pv 0) (pa_cons (pe_glob (v := .ref (Cs 45)) (by rfl) T.e45.gm rfl) pa_nil))) (pa_cons (pe_callB (call_isX (S := S) T.g) (by rfl) T.iso (by decide +kernel) (pa_cons (pv 0) (pa_cons (pe_glob (v := .ref (Cs 46)) (by rfl) T.e46.gm rfl) pa_nil))) pa_nil)))))))))))), ?_⟩
    refine q_lstB (ba_cons T hi (j := 24) (by decide) rfl (hx) (ba_cons T hi (j := 25) (by decide) rfl (hx) (ba_cons T hi (j := 26) (by decide) rfl (hx) (ba_cons T hi (j := 27) (by decide) rfl (hx) ba_nil)))) (by simp) fun p0 H0 s0 n0 h0 => ?_
    refine q_catB rfl h0 (ba_cons T hi (j := 28) (by decide) rfl (hx.keep s0) (ba_cons T hi (j := 29) (by decide) rfl (hx.keep s0) (ba_cons T hi (j := 30) (by decide) rfl (hx.keep s0) (ba_cons T hi (j := 31) (by decide) rfl (hx.keep s0) ba_nil)))) (by simp) fun p1 H1 t1 m1 h1 => ?_
    have s1 := s0.trans t1
    have n1 := Same.free s0 m1
    refine q_catB rfl h1 (ba_cons T hi (j := 32) (by decide) rfl (hx.keep s1) (ba_cons T hi (j := 33) (by decide) rfl (hx.keep s1) (ba_cons T hi (j := 34) (by decide) rfl (hx.keep s1) (ba_cons T hi (j := 35) (by decide) rfl (hx.keep s1) ba_nil)))) (by simp) fun p2 H2 t2 m2 h2 => ?_
    have s2 := s1.trans t2
    have n2 := Same.free s1 m2
    refine q_catB rfl h2 (ba_cons T hi (j := 36) (by decide) rfl (hx.keep s2) (ba_cons T hi (j := 37) (by decide) rfl (hx.keep s2) (ba_cons T hi (j := 38) (by decide) rfl (hx.keep s2) (ba_cons T hi (j := 39) (by decide) rfl (hx.keep s2) ba_nil)))) (by simp) fun p3 H3 t3 m3 h3 => ?_
    have s3 := s2.trans t3
    have n3 := Same.free s2 m3
    refine q_catB rfl h3 (ba_cons T hi (j := 40) (by decide) rfl (hx.keep s3) (ba_cons T hi (j := 41) (by decide) rfl (hx.keep s3) (ba_cons T hi (j := 42) (by decide) rfl (hx.keep s3) (ba_cons T hi (j := 43) (by decide) rfl (hx.keep s3) ba_nil)))) (by simp) fun p4 H4 t4 m4 h4 => ?_
    have s4 := s3.trans t4
    have n4 := Same.free s3 m4
    refine r_catB rfl h4 (ba_cons T hi (j := 44) (by decide) rfl (hx.keep s4) (ba_cons T hi (j := 45) (by decide) rfl (hx.keep s4) (ba_cons T hi (j := 46) (by decide) rfl (hx.keep s4) ba_nil))) (by simp) fun p5 H5 t5 m5 h5 => ?_
    have s5 := s4.trans t5
    have n5 := Same.free s4 m5
    exact q p5 H5 s5 n5 h5
/-- errors in a row -/
def XAll (H : Hp) (es : List Addr) (cs : List (Addr × List (Str × V))) : Prop := Paired (fun e c => XAt H e c.1 c.2) es cs
theorem XAll.keep {H H' : Hp} (s : Same H H') : ∀ {es : List Addr} {cs : List (Addr × List (Str × V))}, XAll H es cs → XAll H' es cs
  | _, _, .nil => .nil
  | _, _, .cons a r => .cons (a.keep s) (XAll.keep s r)
theorem XAll.app {H : Hp} : ∀ {es fs : List Addr} {cs ds : List (Addr × List (Str × V))}, XAll H es cs → XAll H fs ds → XAll H (es ++ fs) (cs ++ ds)
  | _, _, _, _, .nil, z => z
  | _, _, _, _, .cons a r, z => .cons a (XAll.app r z)
theorem XAll.len {H : Hp} : ∀ {es : List Addr} {cs : List (Addr × List (Str × V))}, XAll H es cs → es.length = cs.length
  | _, _, .nil => rfl
  | _, _, .cons _ r => congrArg Nat.succ (XAll.len r)
theorem XAll.at {H : Hp} : ∀ {es : List Addr} {cs : List (Addr × List (Str × V))} {i : Nat} {c : Addr × List (Str × V)}, XAll H es cs → cs[i]? = some c → ∃ e, es[i]? = some e ∧ XAt H e c.1 c.2
  | _, _, _, _, .nil, h => by simp at h
  | _, _, 0, c, .cons a r, h => by
    have e := Option.some.inj h
    subst e
    exact ⟨_, rfl, a⟩
  | _, _, i + 1, c, .cons a r, h => XAll.at (i := i) r h
/-- a display of new errors -/
def MkA (ta : TA) (σ : L2.St) (cs : List (Addr × List (Str × V))) : Prop := ∀ (H : Hp) (Q : List V → Hp → Prop), (∀ es H', Same H H' → XAll H' es cs → Q (es.map V.ref) H') → ta σ H Q
theorem mk_nil {σ : L2.St} : MkA tNil σ [] := fun H Q h => h [] H (Same.refl H) .nil
theorem mk1 {tr : TA} {σ : L2.St} {cs : List (Addr × List (Str × V))} {C : Addr} {f : Str} {i : Nat} {v : V} (hσ : σ[i]? = some (some v)) (hr : MkA tr σ cs) : MkA (tCons (tX1 C f (tCons (tVar i) tNil)) tr) σ ((C, [(f, v)]) :: cs) :=
  fun H Q h => ⟨v, hσ, v, rfl, fun a H2 _ s hx => hr H2 _ fun es H3 s3 z => h (a :: es) H3 (s.trans s3) (.cons (hx.keep s3) z)⟩
theorem mk2 {tr : TA} {σ : L2.St} {cs : List (Addr × List (Str × V))} {C : Addr} {f g : Str} {i j : Nat} {v u : V} (hσ : σ[i]? = some (some v)) (hτ : σ[j]? = some (some u)) (hr : MkA tr σ cs) :
    MkA (tCons (tX2 C f g (tCons (tVar i) (tCons (tVar j) tNil))) tr) σ ((C, [(g, u), (f, v)]) :: cs) :=
  fun H Q h => ⟨v, hσ, u, hτ, v, u, rfl, fun a H2 _ s hx => hr H2 _ fun es H3 s3 z => h (a :: es) H3 (s.trans s3) (.cons (hx.keep s3) z)⟩
theorem mk2k {tr : TA} {σ : L2.St} {cs : List (Addr × List (Str × V))} {C : Addr} {f g : Str} {i j : Nat} {v u : V} (hσ : σ[i]? = some (some v)) (hτ : σ[j]? = some (some u)) (hr : MkA tr σ cs) :
    MkA (tCons (tX2k C f g (tCons (tVar j) (tCons (tVar i) tNil))) tr) σ ((C, [(g, u), (f, v)]) :: cs) :=
  fun H Q h => ⟨u, hτ, v, hσ, v, u, rfl, fun a H2 _ s hx => hr H2 _ fun es H3 s3 z => h (a :: es) H3 (s.trans s3) (.cons (hx.keep s3) z)⟩
theorem mk0 {tr : TA} {σ : L2.St} {cs : List (Addr × List (Str × V))} {C : Addr} (hr : MkA tr σ cs) : MkA (tCons (tX0 C) tr) σ ((C, []) :: cs) :=
  fun H Q h => fun a H2 _ s hx => hr H2 _ fun es H3 s3 z => h (a :: es) H3 (s.trans s3) (.cons (hx.keep s3) z)
theorem lst_errs {σ : L2.St} {H : Hp} {ta : TA} {cs : List (Addr × List (Str × V))} {Q : VK} (ha : MkA ta σ cs) (hl : cs.length ≤ 1000)
    (k : ∀ p es H3, Same H H3 → H p = none → H3 p = some (.lst (es.map V.ref)) → XAll H3 es cs → Q (.ref p) H3) : tLst ta σ H Q := by
  refine ha H _ fun es H' s z => ⟨by rw [List.length_map, z.len]; exact Nat.le_of_lt (small1000 hl), fun p hp => ?_⟩
  exact k p es _ (s.trans (same_upd' hp)) (Same.free s hp) upd_same (z.keep (same_upd' hp))
theorem cat_errs {σ : L2.St} {H : Hp} {ta : TA} {bs cs : List (Addr × List (Str × V))} {fs : List Addr} {p : Addr} {n : Nat} {Q : VK} (hσ : σ[n]? = some (some (.ref p))) (hp : H p = some (.lst (fs.map V.ref))) (hz : XAll H fs bs)
    (ha : MkA ta σ cs) (hl : bs.length + cs.length ≤ 1000)
    (k : ∀ p3 es H3, Same H H3 → H p3 = none → H3 p3 = some (.lst (es.map V.ref)) → XAll H3 es (bs ++ cs) → Q (.ref p3) H3) : tOp rCat (tVar n) (tLst ta) σ H Q := by
  refine ⟨_, hσ, lst_errs ha (by omega) fun p2 es H2 s2 n2 h2 z2 => ?_⟩
  have hp2 := s2 _ _ hp
  refine ⟨p, p2, fs.map V.ref, es.map V.ref, rfl, rfl, hp2, h2, by rw [List.length_map, List.length_map, hz.len, z2.len]; exact Nat.le_of_lt (small1000 hl), fun p3 h3 => ?_⟩
  refine k p3 (fs ++ es) _ (s2.trans (same_upd' h3)) (Same.free s2 h3) ?_ (XAll.keep (same_upd' h3) (XAll.app (hz.keep s2) z2))
  rw [upd_same, List.map_append]
theorem q_lstE {σ : L2.St} {H : Hp} {D : Ends} {tz : TS} {ta : TA} {cs : List (Addr × List (Str × V))} {n : Nat} (ha : MkA ta σ cs) (hl : cs.length ≤ 1000)
    (k : ∀ p es H3, Same H H3 → H p = none → H3 p = some (.lst (es.map V.ref)) → XAll H3 es cs → tz D (σ.set n (some (.ref p))) H3) : tSeq (tAsg (tLst ta) (gName n)) tz D σ H := lst_errs (Q := fun v H3 => tz D (σ.set n (some v)) H3) ha hl k
theorem q_catE {σ : L2.St} {H : Hp} {D : Ends} {tz : TS} {ta : TA} {bs cs : List (Addr × List (Str × V))} {fs : List Addr} {p : Addr} {n m : Nat} (hσ : σ[n]? = some (some (.ref p))) (hp : H p = some (.lst (fs.map V.ref))) (hz : XAll H fs bs)
    (ha : MkA ta σ cs) (hl : bs.length + cs.length ≤ 1000)
    (k : ∀ p3 es H3, Same H H3 → H p3 = none → H3 p3 = some (.lst (es.map V.ref)) → XAll H3 es (bs ++ cs) → tz D (σ.set m (some (.ref p3))) H3) : tSeq (tAsg (tOp rCat (tVar n) (tLst ta)) (gName m)) tz D σ H := cat_errs hσ hp hz ha hl k
theorem r_catE {σ : L2.St} {H : Hp} {D : Ends} {ta : TA} {bs cs : List (Addr × List (Str × V))} {fs : List Addr} {p : Addr} {n : Nat} (hσ : σ[n]? = some (some (.ref p))) (hp : H p = some (.lst (fs.map V.ref))) (hz : XAll H fs bs)
    (ha : MkA ta σ cs) (hl : bs.length + cs.length ≤ 1000)
    (k : ∀ p3 es H3, Same H H3 → H p3 = none → H3 p3 = some (.lst (es.map V.ref)) → XAll H3 es (bs ++ cs) → D.rt (.ref p3) H3) : tRet (tOp rCat (tVar n) (tLst ta)) D σ H := cat_errs hσ hp hz ha hl k

abbrev row0 (C : Addr) : Addr × List (Str × V) := (C, [])
abbrev row1 (C : Addr) (f : Str) (v : V) : Addr × List (Str × V) := (C, [(f, v)])
abbrev row2 (C : Addr) (f : Str) (v : V) (g : Str) (u : V) : Addr × List (Str × V) := (C, [(g, u), (f, v)])
def rowsAll (Cs : Nat → Addr) (v1 v2 : V) : List (Addr × List (Str × V)) := [row1 (Cs 0) "what" v1,
  row2 (Cs 1) "what" v1 "index" v2,
  row1 (Cs 2) "letter" v1,
  row1 (Cs 3) "index" v1,
  row1 (Cs 4) "cell" v1,
  row1 (Cs 5) "what" v1,
  row2 (Cs 6) "what" v1 "index" v2,
  row1 (Cs 7) "point" v1,
  row1 (Cs 8) "tie" v1,
  row1 (Cs 9) "index" v1,
  row1 (Cs 10) "count" v1,
  row2 (Cs 11) "index" v1 "what" v2,
  row1 (Cs 12) "index" v1,
  row2 (Cs 13) "index" v1 "what" v2,
  row1 (Cs 14) "modulus" v1,
  row0 (Cs 15),
  row1 (Cs 16) "index" v1,
  row1 (Cs 17) "group" v1,
  row1 (Cs 18) "what" v1,
  row1 (Cs 19) "answer" v1,
  row1 (Cs 20) "letter" v1,
  row1 (Cs 21) "most" v1,
  row1 (Cs 22) "count" v1,
  row1 (Cs 23) "what" v1,
  row1 (Cs 24) "index" v1,
  row1 (Cs 25) "what" v1,
  row1 (Cs 26) "way" v1,
  row1 (Cs 27) "index" v1,
  row2 (Cs 28) "path" v1 "what" v2,
  row0 (Cs 29),
  row1 (Cs 30) "index" v1,
  row2 (Cs 31) "what" v1 "index" v2,
  row0 (Cs 32),
  row1 (Cs 33) "index" v1,
  row1 (Cs 34) "entry" v1,
  row1 (Cs 35) "result" v1,
  row2 (Cs 36) "what" v1 "index" v2,
  row0 (Cs 37),
  row1 (Cs 38) "index" v1,
  row1 (Cs 39) "many" v1,
  row0 (Cs 40),
  row2 (Cs 41) "index" v1 "what" v2,
  row1 (Cs 42) "what" v1,
  row0 (Cs 43),
  row1 (Cs 44) "weights" v1,
  row0 (Cs 45),
  row0 (Cs 46)]
theorem rows_at (v1 v2 : V) {i : Nat} (hi : i < 47) : ∃ fs, (rowsAll Cs v1 v2)[i]? = some (Cs i, fs) := by
  have e : (rowsAll Cs v1 v2).map (·.1) = (List.range 47).map Cs := rfl
  have h : ((rowsAll Cs v1 v2).map (·.1))[i]? = some (Cs i) := by
    rw [e, List.getElem?_map, List.getElem?_range hi]
    rfl
  rw [List.getElem?_map] at h
  cases q : (rowsAll Cs v1 v2)[i]? with
  | none => rw [q] at h; cases h
  | some c =>
    rw [q] at h
    obtain ⟨a, fs⟩ := c
    have z : a = Cs i := Option.some.inj h
    rw [z]
    exact ⟨fs, rfl⟩
def spAll (Cs : Nat → Addr) : Sp := fun vs H Q _ => ∃ v1 v2, vs = [v1, v2] ∧ ∀ p es H', Same H H' → H p = none → H' p = some (.lst (es.map V.ref)) → XAll H' es (rowsAll Cs v1 v2) → Q (.ref p) H'
theorem ok_spAll {f : Addr} {fd : FuncData} (F : Fun K "_law_all" "_law_all" sAll f fd) (T : TX K mg S Cs) : FnOk P w K mg base CX0 3 f fd ["_law_one", "_law_two"] (spAll Cs) := by
  refine F.ok scAll (fun vs H Q E h => ?_) (fun cdv A outer s H vs Q E rm h => ?_)
  · obtain ⟨v1, v2, rfl, _⟩ := h
    rfl
  · obtain ⟨v1, v2, rfl, q⟩ := h
    refine ⟨_, (pss_cons (ps_set (i := 2) scAll.nd rfl (.inl rfl) (pe_lst (pa_cons (E1.pe T.e0 rm (by rfl) (pa_cons (pv 0) pa_nil)) (pa_cons (E2.pe T.e1 rm (by rfl) (pa_cons (pv 0) (pa_cons (pv 1) pa_nil))) (pa_cons (E1.pe T.e2 rm (by rfl) (pa_cons (pv 0) pa_nil)) (pa_cons (E1.pe T.e3 rm (by rfl) (pa_cons (pv 0) pa_nil)) (pa_cons (E1.pe T.e4 rm (by rfl) (pa_cons (pv 0) pa_nil)) (pa_cons (E1.pe T.e5 rm (by rfl) (pa_cons (pv 0) pa_nil)) pa_nil))))))))
      (pss_cons (ps_set (i := 2) scAll.nd rfl (.inl rfl) (pe_op op_cat (pv 2) (pe_lst (pa_cons (E2.pe T.e6 rm (by rfl) (pa_cons (pv 0) (pa_cons (pv 1) pa_nil))) (pa_cons (E1.pe T.e7 rm (by rfl) (pa_cons (pv 0) pa_nil)) (pa_cons (E1.pe T.e8 rm (by rfl) (pa_cons (pv 0) pa_nil)) (pa_cons (E1.pe T.e9 rm (by rfl) (pa_cons (pv 0) pa_nil)) (pa_cons (E1.pe T.e10 rm (by rfl) (pa_cons (pv 0) pa_nil)) (pa_cons (E2.pe T.e11 rm (by rfl) (pa_cons (pv 0) (pa_cons (pv 1) pa_nil))) pa_nil)))))))))
      (pss_cons (ps_set (i := 2) scAll.nd rfl (.inl rfl) (pe_op op_cat (pv 2) (pe_lst (pa_cons (E1.pe T.e12 rm (by rfl) (pa_cons (pv 0) pa_nil)) (pa_cons (E2.pe T.e13 rm (by rfl) (pa_cons (pv 0) (pa_cons (pv 1) pa_nil))) (pa_cons (E1.pe T.e14 rm (by rfl) (pa_cons (pv 0) pa_nil)) (pa_cons (E0.pe T.e15 (by rfl)) (pa_cons (E1.pe T.e16 rm (by rfl) (pa_cons (pv 0) pa_nil)) (pa_cons (E1.pe T.e17 rm (by rfl) (pa_cons (pv 0) pa_nil)) pa_nil)))))))))
      (pss_cons (ps_set (i := 2) scAll.nd rfl (.inl rfl) (pe_op op_cat (pv 2) (pe_lst (pa_cons (E1.pe T.e18 rm (by rfl) (pa_cons (pv 0) pa_nil)) (pa_cons (E1.pe T.e19 rm (by rfl) (pa_cons (pv 0) pa_nil)) (pa_cons (E1.pe T.e20 rm (by rfl) (pa_cons (pv 0) pa_nil)) (pa_cons (E1.pe T.e21 rm (by rfl) (pa_cons (pv 0) pa_nil)) (pa_cons (E1.pe T.e22 rm (by rfl) (pa_cons (pv 0) pa_nil)) (pa_cons (E1.pe T.e23 rm (by rfl) (pa_cons (pv 0) pa_nil)) (pa_cons (E1.pe T.e24 rm (by rfl) (pa_cons (pv 0) pa_nil)) pa_nil))))))))))
      (pss_cons (ps_set (i := 2) scAll.nd rfl (.inl rfl) (pe_op op_cat (pv 2) (pe_lst (pa_cons (E1.pe T.e25 rm (by rfl) (pa_cons (pv 0) pa_nil)) (pa_cons (E1.pe T.e26 rm (by rfl) (pa_cons (pv 0) pa_nil)) (pa_cons (E1.pe T.e27 rm (by rfl) (pa_cons (pv 0) pa_nil)) (pa_cons (E2.pe T.e28 rm (by rfl) (pa_cons (pv 0) (pa_cons (pv 1) pa_nil))) (pa_cons (E0.pe T.e29 (by rfl)) (pa_cons (E1.pe T.e30 rm (by rfl) (pa_cons (pv 0) pa_nil)) pa_nil)))))))))
      (pss_cons (ps_set (i := 2) scAll.nd rfl (.inl rfl) (pe_op op_cat (pv 2) (pe_lst (pa_cons (E2.pe T.e31 rm (by rfl) (pa_cons (pv 0) (pa_cons (pv 1) pa_nil))) (pa_cons (E0.pe T.e32 (by rfl)) (pa_cons (E1.pe T.e33 rm (by rfl) (pa_cons (pv 0) pa_nil)) (pa_cons (E1.pe T.e34 rm (by rfl) (pa_cons (pv 0) pa_nil)) (pa_cons (E1.pe T.e35 rm (by rfl) (pa_cons (pv 0) pa_nil)) (pa_cons (E2.pe T.e36 rm (by rfl) (pa_cons (pv 0) (pa_cons (pv 1) pa_nil))) pa_nil)))))))))
      (pss_cons (ps_set (i := 2) scAll.nd rfl (.inl rfl) (pe_op op_cat (pv 2) (pe_lst (pa_cons (E0.pe T.e37 (by rfl)) (pa_cons (E1.pe T.e38 rm (by rfl) (pa_cons (pv 0) pa_nil)) (pa_cons (E1.pe T.e39 rm (by rfl) (pa_cons (pv 0) pa_nil)) (pa_cons (E0.pe T.e40 (by rfl)) (pa_cons (E2.pe T.e41 rm (by rfl) (pa_cons (pv 0) (pa_cons (pv 1) pa_nil))) (pa_cons (E1.pe T.e42 rm (by rfl) (pa_cons (pv 0) pa_nil)) (pa_cons (E0.pe T.e43 (by rfl)) pa_nil))))))))))
      (pss_one (ps_ret (pe_op op_cat (pv 2) (pe_lst (pa_cons (E1.pe T.e44 rm (by rfl) (pa_cons (pv 0) pa_nil)) (pa_cons (E0.pe T.e45 (by rfl)) (pa_cons (E0.pe T.e46 (by rfl)) pa_nil)))))))))))))), ?_⟩
    refine q_lstE (mk1 rfl (mk2 rfl rfl (mk1 rfl (mk1 rfl (mk1 rfl (mk1 rfl mk_nil)))))) (by simp) fun p0 es0 H0 s0 n0 h0 z0 => ?_
    refine q_catE rfl h0 z0 (mk2 rfl rfl (mk1 rfl (mk1 rfl (mk1 rfl (mk1 rfl (mk2 rfl rfl mk_nil)))))) (by simp) fun p1 es1 H1 t1 m1 h1 z1 => ?_
    have s1 := s0.trans t1
    have n1 := Same.free s0 m1
    refine q_catE rfl h1 z1 (mk1 rfl (mk2 rfl rfl (mk1 rfl (mk0 (mk1 rfl (mk1 rfl mk_nil)))))) (by simp) fun p2 es2 H2 t2 m2 h2 z2 => ?_
    have s2 := s1.trans t2
    have n2 := Same.free s1 m2
    refine q_catE rfl h2 z2 (mk1 rfl (mk1 rfl (mk1 rfl (mk1 rfl (mk1 rfl (mk1 rfl (mk1 rfl mk_nil))))))) (by simp) fun p3 es3 H3 t3 m3 h3 z3 => ?_
    have s3 := s2.trans t3
    have n3 := Same.free s2 m3
    refine q_catE rfl h3 z3 (mk1 rfl (mk1 rfl (mk1 rfl (mk2 rfl rfl (mk0 (mk1 rfl mk_nil)))))) (by simp) fun p4 es4 H4 t4 m4 h4 z4 => ?_
    have s4 := s3.trans t4
    have n4 := Same.free s3 m4
    refine q_catE rfl h4 z4 (mk2 rfl rfl (mk0 (mk1 rfl (mk1 rfl (mk1 rfl (mk2 rfl rfl mk_nil)))))) (by simp) fun p5 es5 H5 t5 m5 h5 z5 => ?_
    have s5 := s4.trans t5
    have n5 := Same.free s4 m5
    refine q_catE rfl h5 z5 (mk0 (mk1 rfl (mk1 rfl (mk0 (mk2 rfl rfl (mk1 rfl (mk0 mk_nil))))))) (by simp) fun p6 es6 H6 t6 m6 h6 z6 => ?_
    have s6 := s5.trans t6
    have n6 := Same.free s5 m6
    refine r_catE rfl h6 z6 (mk1 rfl (mk0 (mk0 mk_nil))) (by simp) fun p7 es7 H7 t7 m7 h7 z7 => ?_
    have s7 := s6.trans t7
    have n7 := Same.free s6 m7
    exact q p7 es7 H7 s7 n7 h7 z7
end
end Hd
set_option Elab.async false
set_option linter.all false
set_option maxRecDepth 100000
set_option maxHeartbeats 1000000
namespace Gk
open PySem PySem.Spec PyProof.Rows L2
/-! ### errors raised that were made as values -/
theorem pmk_val {X : Cx} {e : Expr} {te : TE} (hx : X.ex = []) (he : PE X e te) :
    PMk X e (fun σ H Q => te σ H fun x H1 => ∃ (a C S : Addr) (nm : Str) (d : Option Addr), x = .ref a ∧ XC X.K S C nm ∧ X.H_0 a = none ∧ H1 a = some (exo a C d) ∧ Q (.ref C) d (delH H1 a)) := by
  intro pins s σ H Q I h
  refine wpAny_mono (he.run pins s σ H _ I h) (fun u s1 hu => ?_) fun _ _ z => z
  obtain ⟨v, H1, I1, r1, a, C, S, nm, d, rfl, x, h0, ha, q⟩ := hu
  cases (show u = Value.ref a from r1)
  obtain ⟨t1, ho⟩ := exo_at I1.hok ha
  obtain ⟨G, gs, ga, J⟩ := Inv.untrack (φ := fun h => ∃ t1 : Addr, h.get? a = some ({ cls := .ref C, dict := d, data := .fields #[.ref t1, .none, .none, .none, .bool false, .none] } : Obj)) I1 ha (fr0_none h0) hx
  exact ⟨a, _, _, { s1 with heap := G }, delH H1 a, .ref C, d, rfl, J, gs, ga, ho, ⟨rfl, rfl⟩, rfl, rfl, delH_same, rfl, I1.bare, raises_own x.bex x.typ, q⟩
/-- isinstance(e, c), e the error that a suite holds -/
def rIsS (K : PySem.W.Frag) (S a : Addr) (cls : Value) (d : Option Addr) : List V → Hp → VK → Prop := fun xs H Q => ∃ (C : Addr) (nm : Str) (c : V) (u : Value) (b : Bool),
  xs = [.ref a, c] ∧ cls = .ref C ∧ ClsV c u ∧ XC K S C nm ∧ (d = none ∨ ∃ dx fs, d = some dx ∧ H dx = some (exd dx fs)) ∧ PySem.W.kitOne K (.ref C) u = some b ∧ Q (.bl b) H
theorem call_isS {X : Cx} {S a : Addr} {oe : Obj} {cls : Value} {d : Option Addr} {pn : List (Addr × Obj)} (g : XG X.K) (hz : Zc cls d oe) (hf : ∃ vs, oe.data = .fields vs) :
    CallR (X.suite a ((a, oe) :: pn)) (.builtin "isinstance") (rIsS X.K S a cls d) := by
  intro pins s σ H xs us Q I r h
  obtain ⟨C, nm, c, u, b, rfl, ec, hc, x, hd, hk, q⟩ := h
  obtain ⟨u1, u2, rfl, r1, r2⟩ := vals2 r
  cases (show u1 = Value.ref a from r1)
  cases hc.eq r2
  obtain ⟨hget, _⟩ := I.pin (a, oe) (List.mem_append.mpr (.inl List.mem_cons_self))
  obtain ⟨vs, hv⟩ := hf
  obtain ⟨oc, od, oda, osl⟩ := oe
  obtain ⟨z1, z2⟩ := hz
  dsimp only at z1 z2 hv
  subst z1 z2 hv ec
  have J : ∃ odd, PySem.W.InstAt s.heap a ⟨.ref C, od, .fields vs, osl⟩ C odd := by
    rcases hd with e | ⟨dx, fs, e, hx⟩
    · subst e
      exact ⟨none, hget, rfl, rfl, trivial⟩
    · subst e
      obtain ⟨mA, ⟨o, es, ep, w, _⟩, _⟩ := exd_at I.hok hx
      exact ⟨some o, hget, rfl, rfl, w⟩
  obtain ⟨odd, J⟩ := J
  exact PySem.W.kia_one (x.kitx (X := X) g) I.kIn J hk (fun z => nomatch z) fun tk => ⟨.bl b, H, I.tok tk, rfl, q⟩
/-! ### lists of pairs, lists of one value -/
/-- every item a tuple of v and u -/
def TupAll (v u : V) (H : Hp) (ys : List V) : Prop := ∀ (i : Nat) (y : V), ys[i]? = some y → ∃ p, y = .ref p ∧ H p = some (.tup [v, u])
def OneAll (v : V) (_ : Hp) (ys : List V) : Prop := ∀ (i : Nat) (y : V), ys[i]? = some y → y = v
/-- an expression that makes a new list of n items of which A holds -/
def EvA (A : Hp → List V → Prop) (n : Nat) (te : TE) (σ : L2.St) (H : Hp) : Prop := ∀ Q : VK,
  (∀ D ys H', Same H H' → H D = none → H' D = some (.lst ys) → ys.length = n → A H' ys → Q (.ref D) H') → te σ H Q
/-- an expression whose value is a list of errors -/
def EvE (cs : List (Addr × List (Str × V))) (te : TE) (σ : L2.St) (H : Hp) (XA : Hp → List Addr → Prop) : Prop := ∀ Q : VK,
  (∀ D es H', Same H H' → H' D = some (.lst (es.map V.ref)) → XA H' es → Q (.ref D) H') → te σ H Q
/-- what a class's error tells under f -/
def Has (K : PySem.W.Frag) (S : Addr) (c : Addr × List (Str × V)) (f : Str) (v : V) : Prop := (∃ nm, XC K S c.1 nm) ∧ PySem.W.findIn K (.ref c.1) f = some none ∧ c.2.lookup f = some v
def AllC (A : Addr × List (Str × V) → Prop) : List (Addr × List (Str × V)) → Prop
  | [] => True
  | c :: cs => A c ∧ AllC A cs
theorem AllC.at {A : Addr × List (Str × V) → Prop} : ∀ {cs : List (Addr × List (Str × V))} {i : Nat} {c : Addr × List (Str × V)}, AllC A cs → cs[i]? = some c → A c
  | [], _, _, _, h => by simp at h
  | c :: cs, 0, d, z, h => by
    have e := Option.some.inj h
    rw [← e]
    exact z.1
  | c :: cs, i + 1, d, z, h => AllC.at (cs := cs) (i := i) z.2 h
section
variable {K : PySem.W.Frag} {S : Addr} {f g : Str} {v u : V} {σ : L2.St} {H : Hp}
theorem xf_read {te : TE} {e : Addr} {c : Addr × List (Str × V)} {Q : VK} (hx : XAt H e c.1 c.2) (h : Has K S c f v) (ht : ∀ R : VK, R (.ref e) H → te σ H R) (q : Q v H) : tXf K S f te σ H Q := by
  obtain ⟨⟨nm, x⟩, no, hl⟩ := h
  rcases hx with ⟨e0, _⟩ | ⟨d, _, a, b⟩
  · rw [e0] at hl
    cases hl
  · exact ht _ ⟨e, c.1, d, c.2, nm, v, rfl, a, b, x, no, hl, q⟩
theorem TupAll.stab {D : Addr} {acc : List V} {H4 H5 : Hp} (hd : H4 D = some (.lst acc)) (b : ButD D H4 H5) {y : V} (h : ∃ p, y = V.ref p ∧ H4 p = some (.tup [v, u])) : ∃ p, y = V.ref p ∧ H5 p = some (.tup [v, u]) := by
  obtain ⟨p, e, hp⟩ := h
  exact ⟨p, e, b p _ (fun z => by rw [z, hd] at hp; cases hp) hp⟩
theorem TupAll.keep {ys : List V} {H' : Hp} (h : TupAll v u H ys) (s : Same H H') : TupAll v u H' ys := fun i y z => by
  obtain ⟨p, e, hp⟩ := h i y z
  exact ⟨p, e, s _ _ hp⟩
theorem TupAll.app {xs ys : List V} (h : TupAll v u H xs) (k : TupAll v u H ys) : TupAll v u H (xs ++ ys) := fun i y z => by
  rcases Nat.lt_or_ge i xs.length with q | q
  · rw [List.getElem?_append_left q] at z
    exact h i y z
  · rw [List.getElem?_append_right q] at z
    exact k _ y z
theorem OneAll.app {xs ys : List V} (h : OneAll v H xs) (k : OneAll v H ys) : OneAll v H (xs ++ ys) := fun i y z => by
  rcases Nat.lt_or_ge i xs.length with q | q
  · rw [List.getElem?_append_left q] at z
    exact h i y z
  · rw [List.getElem?_append_right q] at z
    exact k _ y z
end
end Gk
set_option Elab.async false
set_option linter.all false
set_option maxRecDepth 100000
set_option maxHeartbeats 1000000
namespace Hd
open PySem PySem.Spec PyProof.Rows L2 Gk
/-- an expression whose value is a list of these errors -/
def EvX (cs : List (Addr × List (Str × V))) (te : TE) (σ : L2.St) (H : Hp) : Prop := ∀ Q : VK,
  (∀ D es H', Same H H' → H' D = some (.lst (es.map V.ref)) → XAll H' es cs → Q (.ref D) H') → te σ H Q
section
variable {K : PySem.W.Frag} {S : Addr} {f g : Str} {v u : V} {σ : L2.St} {H : Hp} {cs bs : List (Addr × List (Str × V))} {ta : TA} {te tl : TE} {vs : List Nat} {j n m : Nat}
theorem evx_lst (ha : MkA ta σ cs) (hl : cs.length ≤ 1000) : EvX cs (tLst ta) σ H := fun Q k => lst_errs ha hl fun p es H3 s _ h z => k p es H3 s h z
theorem evx_cat {fs : List Addr} {p : Addr} (hσ : σ[n]? = some (some (.ref p))) (hp : H p = some (.lst (fs.map V.ref))) (hz : XAll H fs bs) (ha : MkA ta σ cs) (hl : bs.length + cs.length ≤ 1000) :
    EvX (bs ++ cs) (tOp rCat (tVar n) (tLst ta)) σ H := fun Q k => cat_errs hσ hp hz ha hl fun p es H3 s _ h z => k p es H3 s h z
theorem evx_var {fs : List Addr} {p : Addr} (hσ : σ[n]? = some (some (.ref p))) (hp : H p = some (.lst (fs.map V.ref))) (hz : XAll H fs bs) : EvX bs (tVar n) σ H :=
  fun Q k => ⟨_, hσ, k p fs H (Same.refl H) hp hz⟩
theorem xall_row {es : List Addr} {x : V} {i : Nat} (hz : XAll H es cs) (hx : (es.map V.ref)[i]? = some x) : ∃ e c, x = .ref e ∧ cs[i]? = some c ∧ XAt H e c.1 c.2 := by
  have hl := hz.len
  rw [List.getElem?_map] at hx
  cases q : es[i]? with
  | none => rw [q] at hx; cases hx
  | some e =>
    rw [q] at hx
    have ex : V.ref e = x := Option.some.inj hx
    have hi : i < cs.length := by
      have := (List.getElem?_eq_some_iff.mp q).1
      omega
    obtain ⟨e', q', z⟩ := XAll.at hz (List.getElem?_eq_getElem hi)
    rw [q] at q'
    have ee : e = e' := Option.some.inj q'
    subst ee
    exact ⟨e, cs[i], ex.symm, List.getElem?_eq_getElem hi, z⟩
/-- [(e.f, e.g) for e in ..] -/
theorem comp_pairs (hl : EvX cs tl σ H) (hn : cs.length ≤ 1000) (hc : AllC (fun c => Has K S c f v ∧ Has K S c g u) cs)
    (hw : ∀ x, wipe ((wipe σ vs).set j (some x)) vs = wipe σ vs) (hj : ∀ x, ((wipe σ vs).set j (some x))[j]? = some (some x)) :
    EvA (TupAll v u) cs.length (tLc (iList K tl) (gName j) tYes (tTup (tCons (tXf K S f (tVar j)) (tCons (tXf K S g (tVar j)) tNil))) vs) σ H := by
  intro Q k
  refine hl _ fun a es H1 s1 h1 z1 => ⟨a, rfl, ⟨_, SqL.of h1⟩, fun D hD => ?_⟩
  refine lc_map (xs := es.map V.ref) (fun H' i y => ∃ p, y = V.ref p ∧ H' p = some (.tup [v, u])) hw (SqL.of h1) (by rw [List.length_map, z1.len]; exact hn)
    (fun D acc H4 H5 i y hd b h => TupAll.stab hd b h) ?_ ?_ D hD
  · intro i x H' R hx s q
    obtain ⟨e, c, rfl, hci, hat⟩ := xall_row z1 hx
    obtain ⟨ha, hb⟩ := hc.at hci
    have hat' := hat.keep s
    refine xf_read hat' ha (fun R h => ⟨_, hj _, h⟩) ?_
    refine xf_read hat' hb (fun R h => ⟨_, hj _, h⟩) ⟨(by show 2 ≤ sizeLine; decide), fun p hp => ?_⟩
    exact q _ _ (same_upd' hp) ⟨p, rfl, upd_same⟩
  · intro D ys H' s hd hy ln hA
    exact k D ys H' (s1.trans s) (Same.free s1 hd) hy (by rw [ln, List.length_map, z1.len]) hA
/-- [e.f for e in ..] -/
theorem comp_ones (hl : EvX cs tl σ H) (hn : cs.length ≤ 1000) (hc : AllC (fun c => Has K S c f v) cs)
    (hw : ∀ x, wipe ((wipe σ vs).set j (some x)) vs = wipe σ vs) (hj : ∀ x, ((wipe σ vs).set j (some x))[j]? = some (some x)) :
    EvA (OneAll v) cs.length (tLc (iList K tl) (gName j) tYes (tXf K S f (tVar j)) vs) σ H := by
  intro Q k
  refine hl _ fun a es H1 s1 h1 z1 => ⟨a, rfl, ⟨_, SqL.of h1⟩, fun D hD => ?_⟩
  refine lc_map (xs := es.map V.ref) (fun H' i y => y = v) hw (SqL.of h1) (by rw [List.length_map, z1.len]; exact hn) (fun D acc H4 H5 i y hd b h => h) ?_ ?_ D hD
  · intro i x H' R hx s q
    obtain ⟨e, c, rfl, hci, hat⟩ := xall_row z1 hx
    exact xf_read (hat.keep s) (hc.at hci) (fun R h => ⟨_, hj _, h⟩) (q _ _ (Same.refl _) rfl)
  · intro D ys H' s hd hy ln hA
    exact k D ys H' (s1.trans s) (Same.free s1 hd) hy (by rw [ln, List.length_map, z1.len]) hA
/-- what an assignment of such a list leaves -/
def TupHeld (v u : V) (H : Hp) (p : Addr) (k : Nat) : Prop := ∃ xs, H p = some (.lst xs) ∧ xs.length = k ∧ TupAll v u H xs
def OneHeld (v : V) (H : Hp) (p : Addr) (k : Nat) : Prop := ∃ xs, H p = some (.lst xs) ∧ xs.length = k ∧ OneAll v H xs
theorem q_setT {D : Ends} {tz : TS} {n k : Nat} (h : EvA (TupAll v u) k te σ H) (q : ∀ p H', Same H H' → H p = none → TupHeld v u H' p k → tz D (σ.set n (some (.ref p))) H') : tSeq (tAsg te (gName n)) tz D σ H :=
  h (fun x H' => tz D (σ.set n (some x)) H') fun p ys H' s h0 h1 l a => q p H' s h0 ⟨ys, h1, l, a⟩
theorem ev_catT {p : Addr} {k l : Nat} (hσ : σ[m]? = some (some (.ref p))) (hp : TupHeld v u H p k) (h : EvA (TupAll v u) l te σ H) (hl : k + l ≤ 1000) : EvA (TupAll v u) (k + l) (tOp rCat (tVar m) te) σ H := by
  obtain ⟨xs, h1, ln, al⟩ := hp
  intro Q q
  refine ⟨_, hσ, h _ fun p2 ys H2 s2 n2 h2 l2 a2 => ?_⟩
  refine ⟨p, p2, xs, ys, rfl, rfl, s2 _ _ h1, h2, Nat.le_of_lt (small1000 (by omega)), fun p3 n3 => ?_⟩
  exact q p3 (xs ++ ys) _ (s2.trans (same_upd' n3)) (Same.free s2 n3) upd_same (by rw [List.length_append]; omega) (((al.keep s2).app a2).keep (same_upd' n3))
theorem q_setO {D : Ends} {tz : TS} {n k : Nat} (h : EvA (OneAll v) k te σ H) (q : ∀ p H', Same H H' → H p = none → OneHeld v H' p k → tz D (σ.set n (some (.ref p))) H') : tSeq (tAsg te (gName n)) tz D σ H :=
  h (fun x H' => tz D (σ.set n (some x)) H') fun p ys H' s h0 h1 l a => q p H' s h0 ⟨ys, h1, l, a⟩
theorem ev_catO {t1 : TE} {k l : Nat} (h0 : ∀ Q : VK, (∀ p ys H', Same H H' → H' p = some (.lst ys) → ys.length = k → OneAll v H' ys → Q (.ref p) H') → t1 σ H Q)
    (h : ∀ H', Same H H' → EvA (OneAll v) l te σ H') (hl : k + l ≤ 1000) : EvA (OneAll v) (k + l) (tOp rCat t1 te) σ H := by
  intro Q q
  refine h0 _ fun p xs H1 s1 h1 ln al => h H1 s1 _ fun p2 ys H2 s2 n2 h2 l2 a2 => ?_
  refine ⟨p, p2, xs, ys, rfl, rfl, s2 _ _ h1, h2, Nat.le_of_lt (small1000 (by omega)), fun p3 n3 => ?_⟩
  exact q p3 (xs ++ ys) _ ((s1.trans s2).trans (same_upd' n3)) (Same.free s1 (Same.free s2 n3)) upd_same (by rw [List.length_append]; omega) (OneAll.app (H := H) al a2)
theorem one_var {p : Addr} {k : Nat} (hσ : σ[m]? = some (some (.ref p))) (hp : OneHeld v H p k) : ∀ Q : VK, (∀ p ys H', Same H H' → H' p = some (.lst ys) → ys.length = k → OneAll v H' ys → Q (.ref p) H') → tVar m σ H Q := by
  obtain ⟨xs, h1, ln, al⟩ := hp
  exact fun Q q => ⟨_, hσ, q p xs H (Same.refl H) h1 ln al⟩
theorem one_of {k : Nat} {t1 : TE} (h : EvA (OneAll v) k t1 σ H) : ∀ Q : VK, (∀ p ys H', Same H H' → H' p = some (.lst ys) → ys.length = k → OneAll v H' ys → Q (.ref p) H') → t1 σ H Q :=
  fun Q q => h Q fun p ys H' s _ h1 l a => q p ys H' s h1 l a
/-- return [x for x in xs if ..] == [], no item passing -/
theorem ev_none {tt : TT} {p : Addr} {xs : List V} {R : VK} (hσ : σ[n]? = some (some (.ref p))) (hp : H p = some (.lst xs)) (hw : ∀ x, wipe ((wipe σ vs).set j (some x)) vs = wipe σ vs)
    (ht : ∀ (i : Nat) (x : V) (H' : Hp) (R : Bool → Hp → Prop), xs[i]? = some x → Same H H' → (∀ H4, Same H' H4 → R false H4) → tt ((wipe σ vs).set j (some x)) H' R)
    (k : ∀ H', Same H H' → R (.bl true) H') : tOp (rEqD K) (tLc (iList K (tVar n)) (gName j) tt te vs) (tLst tNil) σ H R := by
  refine ⟨_, hσ, p, rfl, ⟨_, SqL.of hp⟩, fun D hD => ?_⟩
  refine lc_empty (K := K) (te := te) (Q := fun x H1 => tLst tNil σ H1 fun y H2 => rEqD K x y H2 R) (xs := xs) hw (SqL.of hp) ht ?_ D hD
  intro D H9 s9 n9 h9
  refine ⟨Nat.zero_le _, fun p2 n2 => ?_⟩
  refine ⟨.list [], .list [], .lst (SqL.of (same_upd' n2 _ _ h9)) .nil, .lst (SqL.of upd_same) .nil, by decide +kernel, by decide +kernel, ?_⟩
  exact k _ (s9.trans (same_upd' n2))
theorem r_none {D : Ends} {tt : TT} {p : Addr} {xs : List V} (hσ : σ[n]? = some (some (.ref p))) (hp : H p = some (.lst xs)) (hw : ∀ x, wipe ((wipe σ vs).set j (some x)) vs = wipe σ vs)
    (ht : ∀ (i : Nat) (x : V) (H' : Hp) (R : Bool → Hp → Prop), xs[i]? = some x → Same H H' → (∀ H4, Same H' H4 → R false H4) → tt ((wipe σ vs).set j (some x)) H' R)
    (k : ∀ H', Same H H' → D.rt (.bl true) H') : tRet (tOp (rEqD K) (tLc (iList K (tVar n)) (gName j) tt te vs) (tLst tNil)) D σ H := ev_none hσ hp hw ht k
/-- [C(one).f, ..] -/
def Ones (ta : TA) (σ : L2.St) (v : V) (k : Nat) : Prop := ∀ (H : Hp) (Q : List V → Hp → Prop), (∀ H', Same H H' → Q (List.replicate k v) H') → ta σ H Q
theorem ones_nil : Ones tNil σ v 0 := fun H Q h => h H (Same.refl H)
theorem ones_cons {tr : TA} {C : Addr} {k i : Nat} {nm : Str} (x : XC K S C nm) (no : PySem.W.findIn K (.ref C) f = some none) (hσ : σ[i]? = some (some v)) (hr : Ones tr σ v k) :
    Ones (tCons (tXf K S f (tX1 C f (tCons (tVar i) tNil))) tr) σ v (k + 1) := fun H Q h => by
  refine ⟨v, hσ, v, rfl, fun a H2 _ s hx => ?_⟩
  rcases hx with ⟨e0, _⟩ | ⟨d, _, ea, ed⟩
  · cases e0
  · refine ⟨a, C, d, [(f, v)], nm, v, rfl, ea, ed, x, no, by simp [List.lookup], hr H2 _ fun H3 s3 => ?_⟩
    exact h H3 (s.trans s3)
theorem ev_ones {k : Nat} (h : Ones ta σ v k) (hk : k ≤ 1000) : EvA (OneAll v) k (tLst ta) σ H := fun Q q =>
  h H _ fun H' s => ⟨by rw [List.length_replicate]; exact Nat.le_of_lt (small1000 hk), fun p hp => q p (List.replicate k v) _ (s.trans (same_upd' hp)) (Same.free s hp) upd_same (List.length_replicate ..)
    fun i y hy => (List.getElem?_replicate.symm.trans hy) |> fun z => by
      by_cases c : i < k
      · rw [if_pos c] at z; exact (Option.some.inj z).symm
      · rw [if_neg c] at z; cases z⟩
end
end Hd
set_option Elab.async false
set_option linter.all false
set_option maxRecDepth 100000
set_option maxHeartbeats 1000000
namespace Hd
open PySem PySem.Spec PyProof.Rows L2 Gk
abbrev sCouples : Stmt := topS 56
abbrev sSingle : Stmt := topS 57
abbrev sCaught : Stmt := topS 58
abbrev nCouples : List Str := ["_law_one", "_law_two", "_law_e", "_law_told", "_law_named", "_law_pair"]
abbrev nSingle : List Str := ["_law_one", "_law_told", "_law_e", "_law_thing"]
theorem scCouples : FnScope nCouples ["_law_one", "_law_two"] (defScope sCouples) := ⟨rfl, rfl, rfl, by decide +kernel, rfl, by decide +kernel, by decide +kernel⟩
theorem scSingle : FnScope nSingle ["_law_one"] (defScope sSingle) := ⟨rfl, rfl, rfl, by decide +kernel, rfl, by decide +kernel, by decide +kernel⟩
section
variable {P : Program} {w : World} {K : PySem.W.Frag} {mg : Str → Option Value} {base : Heap} {S : Addr} {Cs : Nat → Addr}
theorem look1 {f : Str} {v : V} : [(f, v)].lookup f = some v := by simp [List.lookup]
theorem look2 {f g : Str} {v u : V} (h : (f == g) = false) : [(g, u), (f, v)].lookup f = some v := by simp [List.lookup, h]
theorem q_forE {ta : TA} {cs : List (Addr × List (Str × V))} {σ : L2.St} {H : Hp} {D : Ends} {tz tb : TS} {j : Nat} (ha : MkA ta σ cs) (hl : cs.length ≤ 1000)
    (k : ∀ p es H3, Same H H3 → H p = none → H3 p = some (.lst (es.map V.ref)) → XAll H3 es cs → ∃ Pv : Nat → L2.St → Hp → Prop, Pv 0 σ H3 ∧
      (∀ i σ' H', i ≤ (es.map V.ref).length → Pv i σ' H' → SqL K H' p (es.map V.ref)) ∧
      (∀ i x σ' H', (es.map V.ref)[i]? = some x → Pv i σ' H' → tb { nx := Pv (i + 1), ct := Pv (i + 1), bk := tz D, rt := D.rt } (σ'.set j (some x)) H') ∧
      (∀ σ' H', Pv (es.map V.ref).length σ' H' → tz D σ' H')) : tSeq (tFor (iList K (tLst ta)) (gName j) tb) tz D σ H :=
  by
    unfold tSeq tFor iList
    refine lst_errs ha hl fun p es H3 s n h z => ?_
    obtain ⟨Pv, h0, h1, h2, h3⟩ := k p es H3 s n h z
    exact ⟨p, rfl, ⟨_, SqL.of h⟩, for_list (K := K) (a := p) (xs := es.map V.ref) Pv h0 h1 h2 h3⟩
theorem E1.has {nm f : Str} {C : Addr} {v : V} (E : E1 K mg S C nm f) : Has K S (row1 C f v) f v := ⟨⟨nm, E.xc⟩, E.no, look1⟩
theorem E2.has1 {nm f g : Str} {C : Addr} {v u : V} (E : E2 K mg S C nm f g) (h : (f == g) = false) : Has K S (row2 C f v g u) f v := ⟨⟨nm, E.xc⟩, E.no, look2 h⟩
theorem E2.has2 {nm f g : Str} {C : Addr} {v u : V} (E : E2 K mg S C nm f g) : Has K S (row2 C f v g u) g u := ⟨⟨nm, E.xc⟩, E.no2, by simp [List.lookup]⟩

/-- two values that are shown in short -/
def spCouples (K : PySem.W.Frag) : Sp := fun vs H Q _ => ∃ (v1 v2 : V) (d1 d2 : PyData), vs = [v1, v2] ∧ Dp K H v1 d1 ∧ Dp K H v2 d2 ∧ Showy 6 400 d1 ∧ Showy 6 400 d2 ∧ ∀ H', Same H H' → Q (.bl true) H'
theorem TupHeld.keep {v u : V} {H H' : Hp} {p : Addr} {k : Nat} (h : TupHeld v u H p k) (s : Same H H') : TupHeld v u H' p k := by
  obtain ⟨xs, a, b, c⟩ := h
  exact ⟨xs, s _ _ a, b, TupAll.keep c s⟩
theorem ok_couples {f : Addr} {fd : FuncData} (F : Fun K "_law_couples" "_law_couples" sCouples f fd) (T : TX K mg S Cs) : GOk P w K mg base CX0 4 f fd ["_law_one", "_law_two"] (spCouples K) := by
  refine g_body (fun_ex F) scCouples (fun vs H Q E h => ?_) (fun cdv A outer s H vs Q E qa rm3 h => ?_)
  · obtain ⟨v1, v2, d1, d2, rfl, _⟩ := h
    rfl
  · obtain ⟨v1, v2, d1, d2, rfl, x1, x2, y1, y2, q⟩ := h
    have rm := rm3.mono (show 2 ≤ 3 by decide)
    have hu : _ + 64 < cLine := rm.units
    refine ⟨_, PSs.nox (pss_cons (ps_setLc (i := 3) (own := [("_law_e", 2)]) (g := gName 2) (tt := tYes) (te := (tTup (tCons (tXf K S "what" (tVar 2)) (tCons (tXf K S "index" (tVar 2)) tNil)))) rfl scCouples.nd rfl rfl (sw_true rfl rfl rfl (by decide +kernel)) (pi_list (pe_lst (pa_cons (E2.pe T.e1 rm (by rfl) (pa_cons (pv 0) (pa_cons (pv 1) pa_nil))) (pa_cons (E2.pe T.e6 rm (by rfl) (pa_cons (pv 0) (pa_cons (pv 1) pa_nil))) (pa_cons (E2.pe T.e31 rm (by rfl) (pa_cons (pv 0) (pa_cons (pv 1) pa_nil))) (pa_cons (E2.pe T.e36 rm (by rfl) (pa_cons (pv 0) (pa_cons (pv 1) pa_nil))) pa_nil)))))) (blkOk_by (N := nCouples) (sc := defScope sCouples) (by decide +kernel)) (fun _ _ _ _ _ => pg_name (i := 2) scCouples.nd rfl (Or.inl rfl)) (fun _ _ _ _ _ => pts_nil) (fun _ _ _ _ _ => (pe_tup (pa_cons (pe_xf (S := S) (pv 2)) (pa_cons (pe_xf (S := S) (pv 2)) pa_nil)))))
      (pss_cons (ps_set (i := 3) scCouples.nd rfl (.inl rfl) (pe_op op_cat (pv 3) (pe_lc (own := [("_law_e", 2)]) (g := gName 2) (tt := tYes) (te := (tTup (tCons (tXf K S "index" (tVar 2)) (tCons (tXf K S "what" (tVar 2)) tNil)))) rfl scCouples.nd (pi_list (pe_lst (pa_cons (E2.pe T.e11 rm (by rfl) (pa_cons (pv 0) (pa_cons (pv 1) pa_nil))) (pa_cons (E2.pe T.e13 rm (by rfl) (pa_cons (pv 0) (pa_cons (pv 1) pa_nil))) (pa_cons (E2.pe T.e41 rm (by rfl) (pa_cons (pv 0) (pa_cons (pv 1) pa_nil))) pa_nil))))) (blkOk_by (N := nCouples) (sc := defScope sCouples) (by decide +kernel)) (fun _ _ _ _ _ => pg_name (i := 2) scCouples.nd rfl (Or.inl rfl)) (fun _ _ _ _ _ => pts_nil) (fun _ _ _ _ _ => (pe_tup (pa_cons (pe_xf (S := S) (pv 2)) (pa_cons (pe_xf (S := S) (pv 2)) pa_nil)))))))
      (pss_cons (ps_set (i := 4) scCouples.nd rfl (.inl rfl) (pe_lst (pa_cons (E2.pek T.e1 rm (by rfl) (pk_cons (pv 1) (pk_cons (pv 0) pk_nil))) (pa_cons (E2.pek T.e6 rm (by rfl) (pk_cons (pv 1) (pk_cons (pv 0) pk_nil))) (pa_cons (E2.pek T.e31 rm (by rfl) (pk_cons (pv 1) (pk_cons (pv 0) pk_nil))) pa_nil)))))
      (pss_cons (ps_set (i := 3) scCouples.nd rfl (.inl rfl) (pe_op op_cat (pv 3) (pe_lc (own := [("_law_e", 2)]) (g := gName 2) (tt := tYes) (te := (tTup (tCons (tXf K S "what" (tVar 2)) (tCons (tXf K S "index" (tVar 2)) tNil)))) rfl scCouples.nd (pi_list (pe_op op_cat (pv 4) (pe_lst (pa_cons (E2.pek T.e36 rm (by rfl) (pk_cons (pv 1) (pk_cons (pv 0) pk_nil))) pa_nil)))) (blkOk_by (N := nCouples) (sc := defScope sCouples) (by decide +kernel)) (fun _ _ _ _ _ => pg_name (i := 2) scCouples.nd rfl (Or.inl rfl)) (fun _ _ _ _ _ => pts_nil) (fun _ _ _ _ _ => (pe_tup (pa_cons (pe_xf (S := S) (pv 2)) (pa_cons (pe_xf (S := S) (pv 2)) pa_nil)))))))
      (pss_cons (ps_set (i := 4) scCouples.nd rfl (.inl rfl) (pe_lst (pa_cons (E2.pek T.e11 rm (by rfl) (pk_cons (pv 1) (pk_cons (pv 0) pk_nil))) (pa_cons (E2.pek T.e13 rm (by rfl) (pk_cons (pv 1) (pk_cons (pv 0) pk_nil))) (pa_cons (E2.pek T.e41 rm (by rfl) (pk_cons (pv 1) (pk_cons (pv 0) pk_nil))) pa_nil)))))
      (pss_cons (ps_set (i := 3) scCouples.nd rfl (.inl rfl) (pe_op op_cat (pv 3) (pe_lc (own := [("_law_e", 2)]) (g := gName 2) (tt := tYes) (te := (tTup (tCons (tXf K S "index" (tVar 2)) (tCons (tXf K S "what" (tVar 2)) tNil)))) rfl scCouples.nd (pi_list (pv 4)) (blkOk_by (N := nCouples) (sc := defScope sCouples) (by decide +kernel)) (fun _ _ _ _ _ => pg_name (i := 2) scCouples.nd rfl (Or.inl rfl)) (fun _ _ _ _ _ => pts_nil) (fun _ _ _ _ _ => (pe_tup (pa_cons (pe_xf (S := S) (pv 2)) (pa_cons (pe_xf (S := S) (pv 2)) pa_nil)))))))
      (pss_cons (ps_for PassesOwn.never rfl (pi_list (pe_lst (pa_cons (E2.pe T.e28 rm (by rfl) (pa_cons (pv 0) (pa_cons (pv 1) pa_nil))) (pa_cons (E2.pek T.e28 rm (by rfl) (pk_cons (pv 1) (pk_cons (pv 0) pk_nil))) pa_nil)))) (pg_name (i := 2) scCouples.nd rfl (.inl rfl)) (pss_one (ps_expr (pe_bm PySem.F.plainAttrs_list PySem.F.slot_list_append PySem.F.type_list_append mt_append (pv 3) (pa_cons (pe_tup (pa_cons (pe_xf (S := S) (pv 2)) (pa_cons (pe_xf (S := S) (pv 2)) pa_nil))) pa_nil)))))
      (pss_one (ps_ret (pe_cmpR (op_eqD hu) (pe_lc (own := [("_law_pair", 5)]) (g := gName 5) (tt := tTest (tOp rNe (tCB (rRep K) (tCons (tVar 5) tNil)) (tCB (rRep K) (tCons (tTup (tCons (tVar 0) (tCons (tVar 1) tNil))) tNil)))) (te := tVar 5) rfl scCouples.nd (pi_list (pv 3)) (blkOk_by (N := nCouples) (sc := defScope sCouples) (by decide +kernel)) (fun _ _ _ _ _ => pg_name (i := 5) scCouples.nd rfl (Or.inl rfl))
        (fun _ _ _ _ _ => pts_one (pt_cmpR op_ne (pe_callB (call_rep qa hu) (by rfl) T.rep (by decide +kernel) (pa_cons (pv 5) pa_nil)) (pe_callB (call_rep qa hu) (by rfl) T.rep (by decide +kernel) (pa_cons (pe_tup (pa_cons (pv 0) (pa_cons (pv 1) pa_nil))) pa_nil)) (nomark _))) (fun _ _ _ _ _ => pv 5)) (pe_lst pa_nil) (nomark _))))))))))), ?_⟩
    refine q_setT (comp_pairs (evx_lst (mk2 rfl rfl (mk2 rfl rfl (mk2 rfl rfl (mk2 rfl rfl mk_nil)))) (by simp)) (by simp) ⟨⟨(E2.has1 T.e1 (by decide +kernel)), (E2.has2 T.e1)⟩, ⟨⟨(E2.has1 T.e6 (by decide +kernel)), (E2.has2 T.e6)⟩, ⟨⟨(E2.has1 T.e31 (by decide +kernel)), (E2.has2 T.e31)⟩, ⟨⟨(E2.has1 T.e36 (by decide +kernel)), (E2.has2 T.e36)⟩, trivial⟩⟩⟩⟩ (fun _ => rfl) (fun _ => rfl)) fun p1 H1 s1 n1 h1 => ?_
    refine q_setT (ev_catT rfl h1 (comp_pairs (evx_lst (mk2 rfl rfl (mk2 rfl rfl (mk2 rfl rfl mk_nil))) (by simp)) (by simp) ⟨⟨(E2.has1 T.e11 (by decide +kernel)), (E2.has2 T.e11)⟩, ⟨⟨(E2.has1 T.e13 (by decide +kernel)), (E2.has2 T.e13)⟩, ⟨⟨(E2.has1 T.e41 (by decide +kernel)), (E2.has2 T.e41)⟩, trivial⟩⟩⟩ (fun _ => rfl) (fun _ => rfl)) (by simp)) fun p2 H2 s2 n2 h2 => ?_
    refine q_lstE (mk2k rfl rfl (mk2k rfl rfl (mk2k rfl rfl mk_nil))) (by simp) fun q3 es3 H3 s3 n3 g3 z3 => ?_
    have h3 := TupHeld.keep h2 s3
    refine q_setT (ev_catT rfl h3 (comp_pairs (evx_cat rfl g3 z3 (mk2k rfl rfl mk_nil) (by simp)) (by simp) ⟨⟨(E2.has1 T.e1 (by decide +kernel)), (E2.has2 T.e1)⟩, ⟨⟨(E2.has1 T.e6 (by decide +kernel)), (E2.has2 T.e6)⟩, ⟨⟨(E2.has1 T.e31 (by decide +kernel)), (E2.has2 T.e31)⟩, ⟨⟨(E2.has1 T.e36 (by decide +kernel)), (E2.has2 T.e36)⟩, trivial⟩⟩⟩⟩ (fun _ => rfl) (fun _ => rfl)) (by simp)) fun p4 H4 s4 n4 h4 => ?_
    refine q_lstE (mk2k rfl rfl (mk2k rfl rfl (mk2k rfl rfl mk_nil))) (by simp) fun q5 es5 H5 s5 n5 g5 z5 => ?_
    have h5 := TupHeld.keep h4 s5
    refine q_setT (ev_catT rfl h5 (comp_pairs (evx_var rfl g5 z5) (by simp) ⟨⟨(E2.has1 T.e11 (by decide +kernel)), (E2.has2 T.e11)⟩, ⟨⟨(E2.has1 T.e13 (by decide +kernel)), (E2.has2 T.e13)⟩, ⟨⟨(E2.has1 T.e41 (by decide +kernel)), (E2.has2 T.e41)⟩, trivial⟩⟩⟩ (fun _ => rfl) (fun _ => rfl)) (by simp)) fun p6 H6 s6 n6 h6 => ?_
    -- the last two pairs
    have S6 : Same H H6 := (((((s1.trans s2).trans s3).trans s4).trans s5).trans s6)
    have N6 : H p6 = none := Same.free ((((s1.trans s2).trans s3).trans s4).trans s5) n6
    obtain ⟨xs6, g6, l6, a6⟩ := h6
    refine q_forE (mk2 rfl rfl (mk2k rfl rfl mk_nil)) (by simp) fun p7 es7 H7 s7 n7 h7 z7 => ?_
    have np7 : p7 ≠ p6 := Ne.symm (ne_of_none g6 n7)
    refine ⟨(fun i σ H8 => ∃ (e : Option V) (xs : List V), σ = [some v1, some v2, e, some (.ref p6), some (.ref q5), none] ∧ ButD p6 H7 H8 ∧ H8 p6 = some (.lst xs) ∧ xs.length ≤ 100 + i ∧ TupAll v1 v2 H8 xs),
      ⟨_, xs6, rfl, fun b o _ z => z, s7 _ _ g6, (by have z := l6; simp only [List.length_cons, List.length_nil, List.length_append] at z; omega), a6.keep s7⟩, (fun i σ H8 _ ⟨_, _, _, b, _⟩ => SqL.of (b _ _ np7 h7)), ?_, ?_⟩
    · rintro i y σ H8 hy ⟨e, xs, rfl, b8, g8, l8, a8⟩
      obtain ⟨er, c, rfl, hc, hat⟩ := xall_row z7 hy
      have hi : i < 2 := (List.getElem?_eq_some_iff.mp hc).1
      have al : AllC (fun c => Has K S c "path" v1 ∧ Has K S c "what" v2) [row2 (Cs 28) "path" v1 "what" v2, row2 (Cs 28) "path" v1 "what" v2] := ⟨⟨(E2.has1 T.e28 (by decide +kernel)), (E2.has2 T.e28)⟩, ⟨⟨(E2.has1 T.e28 (by decide +kernel)), (E2.has2 T.e28)⟩, trivial⟩⟩
      obtain ⟨ha, hb⟩ := AllC.at al hc
      have hat8 : XAt H8 er c.1 c.2 := by
        rcases hat with ⟨u, z⟩ | ⟨d, nd, z, z2⟩
        · exact .inl ⟨u, b8 _ _ (fun t => by rw [t, s7 _ _ g6] at z; cases z) z⟩
        · exact .inr ⟨d, nd, b8 _ _ (fun t => by rw [t, s7 _ _ g6] at z; cases z) z, b8 _ _ (fun t => by rw [t, s7 _ _ g6] at z2; cases z2) z2⟩
      refine ⟨_, rfl, .inl ⟨rfl, _, SqL.of g8⟩, ?_⟩
      refine xf_read hat8 ha (fun R h => ⟨_, rfl, h⟩) ?_
      refine xf_read hat8 hb (fun R h => ⟨_, rfl, h⟩) ⟨(by show 2 ≤ sizeLine; decide), fun p hp => ?_⟩
      have npp : p6 ≠ p := ne_of_none g8 hp
      refine ⟨p6, _, _, rfl, rfl, by rw [upd_ne npp]; exact g8, small1000 (by omega), ?_⟩
      refine ⟨_, xs ++ [.ref p], rfl, fun b o hb z => ?_, upd_same, by rw [List.length_append]; show xs.length + 1 ≤ _; omega, fun n y hy => ?_⟩
      · rw [upd_ne hb, upd_ne (ne_of_none (b8 b o hb z) hp)]
        exact b8 b o hb z
      · have a9 : TupAll v1 v2 (upd H8 p (.tup [v1, v2])) (xs ++ [V.ref p]) := (a8.keep (same_upd' hp)).app fun m y hm => by
          rcases m with _ | m
          · exact ⟨p, (Option.some.inj hm).symm, upd_same⟩
          · simp at hm
        refine TupAll.stab (D := p6) (acc := xs) (by rw [upd_ne npp]; exact g8) (fun b o hb z => by rw [upd_ne hb]; exact z) (a9 n y hy)
    · rintro σ H8 ⟨e, xs, rfl, b8, g8, l8, a8⟩
      have S8 : Same H H8 := fun b o z => b8 b o (ne_of_none z N6) (s7 b o (S6 b o z))
      refine r_none rfl g8 (fun _ => rfl) ?_ fun H9 s9 => q _ (S8.trans s9)
      intro i x H' R hx s9 r
      obtain ⟨p, rfl, hp⟩ := a8 i x hx
      have dp : ∀ {H2 : Hp} {t : Addr}, Same H H2 → H2 t = some (.tup [v1, v2]) → Dp K H2 (.ref t) (.tuple [d1, d2]) := fun s2 z =>
        .tup (Or.inl (Or.inl z)) (.cons (dp_same s2 _ _ x1) (.cons (dp_same s2 _ _ x2) .nil))
      have sy : Showy 8 1000 (.tuple [d1, d2]) := (Showy.pair y1 y2).up (by decide) (by decide)
      refine ⟨_, rfl, _, _, rfl, dp (S8.trans s9) (s9 _ _ hp), sy, _, rfl, _, rfl, (by show 2 ≤ sizeLine; decide), fun p3 n3 => ?_⟩
      refine ⟨_, _, rfl, dp ((S8.trans s9).trans (same_upd' n3)) upd_same, sy, rfl, _, rfl, ?_⟩
      rw [decide_eq_true rfl]
      exact r _ (same_upd' n3)
end
end Hd
set_option Elab.async false
set_option linter.all false
set_option maxRecDepth 100000
set_option maxHeartbeats 1000000
namespace Hd
open PySem PySem.Spec PyProof.Rows L2 Gk
section
variable {P : Program} {w : World} {K : PySem.W.Frag} {mg : Str → Option Value} {base : Heap} {S : Addr} {Cs : Nat → Addr}

def spSingle (K : PySem.W.Frag) : Sp := fun vs H Q _ => ∃ (v1 : V) (d1 : PyData), vs = [v1] ∧ Dp K H v1 d1 ∧ Showy 6 400 d1 ∧ ∀ H', Same H H' → Q (.bl true) H'
theorem ok_single {f : Addr} {fd : FuncData} (F : Fun K "_law_single" "_law_single" sSingle f fd) (T : TX K mg S Cs) : GOk P w K mg base CX0 4 f fd ["_law_one"] (spSingle K) := by
  refine g_body (fun_ex F) scSingle (fun vs H Q E h => ?_) (fun cdv A outer s H vs Q E qa rm3 h => ?_)
  · obtain ⟨v1, d1, rfl, _⟩ := h
    rfl
  · obtain ⟨v1, d1, rfl, x1, y1, q⟩ := h
    have rm := rm3.mono (show 2 ≤ 3 by decide)
    have hu : _ + 64 < cLine := rm.units
    refine ⟨_, PSs.nox (pss_cons (ps_setLc (i := 1) (own := [("_law_e", 2)]) (g := gName 2) (tt := tYes) (te := (tXf K S "what" (tVar 2))) rfl scSingle.nd rfl rfl (sw_true rfl rfl rfl (by decide +kernel)) (pi_list (pe_lst (pa_cons (E1.pe T.e0 rm (by rfl) (pa_cons (pv 0) pa_nil)) (pa_cons (E1.pe T.e5 rm (by rfl) (pa_cons (pv 0) pa_nil)) (pa_cons (E1.pe T.e18 rm (by rfl) (pa_cons (pv 0) pa_nil)) (pa_cons (E1.pe T.e23 rm (by rfl) (pa_cons (pv 0) pa_nil)) (pa_cons (E1.pe T.e25 rm (by rfl) (pa_cons (pv 0) pa_nil)) (pa_cons (E1.pe T.e42 rm (by rfl) (pa_cons (pv 0) pa_nil)) pa_nil)))))))) (blkOk_by (N := nSingle) (sc := defScope sSingle) (by decide +kernel)) (fun _ _ _ _ _ => pg_name (i := 2) scSingle.nd rfl (Or.inl rfl)) (fun _ _ _ _ _ => pts_nil) (fun _ _ _ _ _ => (pe_xf (S := S) (pv 2))))
      (pss_cons (ps_set (i := 1) scSingle.nd rfl (.inl rfl) (pe_op op_cat (pv 1) (pe_lc (own := [("_law_e", 2)]) (g := gName 2) (tt := tYes) (te := (tXf K S "index" (tVar 2))) rfl scSingle.nd (pi_list (pe_lst (pa_cons (E1.pe T.e3 rm (by rfl) (pa_cons (pv 0) pa_nil)) (pa_cons (E1.pe T.e9 rm (by rfl) (pa_cons (pv 0) pa_nil)) (pa_cons (E1.pe T.e12 rm (by rfl) (pa_cons (pv 0) pa_nil)) (pa_cons (E1.pe T.e16 rm (by rfl) (pa_cons (pv 0) pa_nil)) (pa_cons (E1.pe T.e24 rm (by rfl) (pa_cons (pv 0) pa_nil)) pa_nil))))))) (blkOk_by (N := nSingle) (sc := defScope sSingle) (by decide +kernel)) (fun _ _ _ _ _ => pg_name (i := 2) scSingle.nd rfl (Or.inl rfl)) (fun _ _ _ _ _ => pts_nil) (fun _ _ _ _ _ => (pe_xf (S := S) (pv 2))))))
      (pss_cons (ps_set (i := 1) scSingle.nd rfl (.inl rfl) (pe_op op_cat (pv 1) (pe_lc (own := [("_law_e", 2)]) (g := gName 2) (tt := tYes) (te := (tXf K S "index" (tVar 2))) rfl scSingle.nd (pi_list (pe_lst (pa_cons (E1.pe T.e27 rm (by rfl) (pa_cons (pv 0) pa_nil)) (pa_cons (E1.pe T.e30 rm (by rfl) (pa_cons (pv 0) pa_nil)) (pa_cons (E1.pe T.e33 rm (by rfl) (pa_cons (pv 0) pa_nil)) (pa_cons (E1.pe T.e38 rm (by rfl) (pa_cons (pv 0) pa_nil)) pa_nil)))))) (blkOk_by (N := nSingle) (sc := defScope sSingle) (by decide +kernel)) (fun _ _ _ _ _ => pg_name (i := 2) scSingle.nd rfl (Or.inl rfl)) (fun _ _ _ _ _ => pts_nil) (fun _ _ _ _ _ => (pe_xf (S := S) (pv 2))))))
      (pss_cons (ps_set (i := 1) scSingle.nd rfl (.inl rfl) (pe_op op_cat (pe_op op_cat (pv 1) (pe_lc (own := [("_law_e", 2)]) (g := gName 2) (tt := tYes) (te := (tXf K S "letter" (tVar 2))) rfl scSingle.nd (pi_list (pe_lst (pa_cons (E1.pe T.e2 rm (by rfl) (pa_cons (pv 0) pa_nil)) (pa_cons (E1.pe T.e20 rm (by rfl) (pa_cons (pv 0) pa_nil)) pa_nil)))) (blkOk_by (N := nSingle) (sc := defScope sSingle) (by decide +kernel)) (fun _ _ _ _ _ => pg_name (i := 2) scSingle.nd rfl (Or.inl rfl)) (fun _ _ _ _ _ => pts_nil) (fun _ _ _ _ _ => (pe_xf (S := S) (pv 2))))) (pe_lc (own := [("_law_e", 2)]) (g := gName 2) (tt := tYes) (te := (tXf K S "count" (tVar 2))) rfl scSingle.nd (pi_list (pe_lst (pa_cons (E1.pe T.e10 rm (by rfl) (pa_cons (pv 0) pa_nil)) (pa_cons (E1.pe T.e22 rm (by rfl) (pa_cons (pv 0) pa_nil)) pa_nil)))) (blkOk_by (N := nSingle) (sc := defScope sSingle) (by decide +kernel)) (fun _ _ _ _ _ => pg_name (i := 2) scSingle.nd rfl (Or.inl rfl)) (fun _ _ _ _ _ => pts_nil) (fun _ _ _ _ _ => (pe_xf (S := S) (pv 2))))))
      (pss_cons (ps_set (i := 1) scSingle.nd rfl (.inl rfl) (pe_op op_cat (pv 1) (pe_lst (pa_cons (pe_xf (S := S) (E1.pe T.e4 rm (by rfl) (pa_cons (pv 0) pa_nil))) (pa_cons (pe_xf (S := S) (E1.pe T.e7 rm (by rfl) (pa_cons (pv 0) pa_nil))) (pa_cons (pe_xf (S := S) (E1.pe T.e8 rm (by rfl) (pa_cons (pv 0) pa_nil))) (pa_cons (pe_xf (S := S) (E1.pe T.e14 rm (by rfl) (pa_cons (pv 0) pa_nil))) (pa_cons (pe_xf (S := S) (E1.pe T.e17 rm (by rfl) (pa_cons (pv 0) pa_nil))) pa_nil))))))))
      (pss_cons (ps_set (i := 1) scSingle.nd rfl (.inl rfl) (pe_op op_cat (pv 1) (pe_lst (pa_cons (pe_xf (S := S) (E1.pe T.e19 rm (by rfl) (pa_cons (pv 0) pa_nil))) (pa_cons (pe_xf (S := S) (E1.pe T.e21 rm (by rfl) (pa_cons (pv 0) pa_nil))) (pa_cons (pe_xf (S := S) (E1.pe T.e26 rm (by rfl) (pa_cons (pv 0) pa_nil))) (pa_cons (pe_xf (S := S) (E1.pe T.e34 rm (by rfl) (pa_cons (pv 0) pa_nil))) (pa_cons (pe_xf (S := S) (E1.pe T.e35 rm (by rfl) (pa_cons (pv 0) pa_nil))) pa_nil))))))))
      (pss_cons (ps_set (i := 1) scSingle.nd rfl (.inl rfl) (pe_op op_cat (pv 1) (pe_lst (pa_cons (pe_xf (S := S) (E1.pe T.e39 rm (by rfl) (pa_cons (pv 0) pa_nil))) (pa_cons (pe_xf (S := S) (E1.pe T.e44 rm (by rfl) (pa_cons (pv 0) pa_nil))) pa_nil)))))
      (pss_one (ps_ret (pe_and (pe_cmpR op_eq (pe_callB call_len_seq (by rfl) T.tb.len boot_len (pa_cons (pv 1) pa_nil)) pe_int (nomark _))
        (pe_one (pe_cmpR (op_eqD hu) (pe_lc (own := [("_law_thing", 3)]) (g := gName 3) (tt := tTest (tOp rNe (tCB (rRep K) (tCons (tVar 3) tNil)) (tCB (rRep K) (tCons (tVar 0) tNil)))) (te := tVar 3) rfl scSingle.nd (pi_list (pv 1)) (blkOk_by (N := nSingle) (sc := defScope sSingle) (by decide +kernel)) (fun _ _ _ _ _ => pg_name (i := 3) scSingle.nd rfl (Or.inl rfl))
        (fun _ _ _ _ _ => pts_one (pt_cmpR op_ne (pe_callB (call_rep qa hu) (by rfl) T.rep (by decide +kernel) (pa_cons (pv 3) pa_nil)) (pe_callB (call_rep qa hu) (by rfl) T.rep (by decide +kernel) (pa_cons (pv 0) pa_nil)) (nomark _))) (fun _ _ _ _ _ => pv 3)) (pe_lst pa_nil) (nomark _))))))))))))), ?_⟩
    refine q_setO (comp_ones (evx_lst (mk1 rfl (mk1 rfl (mk1 rfl (mk1 rfl (mk1 rfl (mk1 rfl mk_nil)))))) (by simp)) (by simp) ⟨(E1.has T.e0), ⟨(E1.has T.e5), ⟨(E1.has T.e18), ⟨(E1.has T.e23), ⟨(E1.has T.e25), ⟨(E1.has T.e42), trivial⟩⟩⟩⟩⟩⟩ (fun _ => rfl) (fun _ => rfl)) fun p0 H0 s0 n0 h0 => ?_
    refine q_setO (ev_catO (one_var rfl h0) (fun _ _ => (comp_ones (evx_lst (mk1 rfl (mk1 rfl (mk1 rfl (mk1 rfl (mk1 rfl mk_nil))))) (by simp)) (by simp) ⟨(E1.has T.e3), ⟨(E1.has T.e9), ⟨(E1.has T.e12), ⟨(E1.has T.e16), ⟨(E1.has T.e24), trivial⟩⟩⟩⟩⟩ (fun _ => rfl) (fun _ => rfl))) (by simp)) fun p1 H1 s1 n1 h1 => ?_
    refine q_setO (ev_catO (one_var rfl h1) (fun _ _ => (comp_ones (evx_lst (mk1 rfl (mk1 rfl (mk1 rfl (mk1 rfl mk_nil)))) (by simp)) (by simp) ⟨(E1.has T.e27), ⟨(E1.has T.e30), ⟨(E1.has T.e33), ⟨(E1.has T.e38), trivial⟩⟩⟩⟩ (fun _ => rfl) (fun _ => rfl))) (by simp)) fun p2 H2 s2 n2 h2 => ?_
    refine q_setO (ev_catO (one_of (ev_catO (one_var rfl h2) (fun _ _ => (comp_ones (evx_lst (mk1 rfl (mk1 rfl mk_nil)) (by simp)) (by simp) ⟨(E1.has T.e2), ⟨(E1.has T.e20), trivial⟩⟩ (fun _ => rfl) (fun _ => rfl))) (by simp))) (fun _ _ => (comp_ones (evx_lst (mk1 rfl (mk1 rfl mk_nil)) (by simp)) (by simp) ⟨(E1.has T.e10), ⟨(E1.has T.e22), trivial⟩⟩ (fun _ => rfl) (fun _ => rfl))) (by simp)) fun p3 H3 s3 n3 h3 => ?_
    refine q_setO (ev_catO (one_var rfl h3) (fun _ _ => (ev_ones (ones_cons T.e4.xc T.e4.no rfl (ones_cons T.e7.xc T.e7.no rfl (ones_cons T.e8.xc T.e8.no rfl (ones_cons T.e14.xc T.e14.no rfl (ones_cons T.e17.xc T.e17.no rfl ones_nil))))) (by decide))) (by simp)) fun p4 H4 s4 n4 h4 => ?_
    refine q_setO (ev_catO (one_var rfl h4) (fun _ _ => (ev_ones (ones_cons T.e19.xc T.e19.no rfl (ones_cons T.e21.xc T.e21.no rfl (ones_cons T.e26.xc T.e26.no rfl (ones_cons T.e34.xc T.e34.no rfl (ones_cons T.e35.xc T.e35.no rfl ones_nil))))) (by decide))) (by simp)) fun p5 H5 s5 n5 h5 => ?_
    refine q_setO (ev_catO (one_var rfl h5) (fun _ _ => (ev_ones (ones_cons T.e39.xc T.e39.no rfl (ones_cons T.e44.xc T.e44.no rfl ones_nil)) (by decide))) (by simp)) fun p6 H6 s6 n6 h6 => ?_
    have SS : Same H H6 := ((((((s0.trans s1).trans s2).trans s3).trans s4).trans s5).trans s6)
    obtain ⟨xs, g, ln, al⟩ := h6
    have l31 : xs.length = 31 := by rw [ln]; simp
    refine ⟨_, rfl, p6, _, rfl, .inl (SqL.of g), rfl, _, rfl, ?_⟩
    rw [l31]
    refine ev_none rfl g (fun _ => rfl) ?_ fun H9 s9 => q _ (SS.trans s9)
    intro i x H' R hx s9 r
    have ex := al i x hx
    subst ex
    refine ⟨_, rfl, _, _, rfl, dp_same (SS.trans s9) _ _ x1, y1.up (by decide) (by decide), _, rfl, _, _, rfl, dp_same (SS.trans s9) _ _ x1, y1.up (by decide) (by decide), rfl, _, rfl, ?_⟩
    rw [decide_eq_true rfl]
    exact r _ (Same.refl _)
/-- an error raised is caught by its base -/
def spCaught : Sp := fun vs H Q _ => ∃ (v1 v2 : V) (k : Int), vs = [v1, v2, .int k] ∧ ∀ H', Same H H' → Q (.bl true) H'

/-- an error made and raised at once -/
def tVal (K : PySem.W.Frag) (H0 : Hp) (te : TE) : L2.St → Hp → XK → Prop := fun σ H Q => te σ H fun x H1 => ∃ (a C S : Addr) (nm : Str) (d : Option Addr), x = .ref a ∧ XC K S C nm ∧ H0 a = none ∧ H1 a = some (exo a C d) ∧ Q (.ref C) d (delH H1 a)
def tRaiseV (K : PySem.W.Frag) (H0 : Hp) (te : TE) (W : WX) : TS := fun _ σ H => tVal K H0 te σ H fun cls d H' => W cls d σ H'
theorem scCaught : FnScope ["_law_one", "_law_two", "_law_which", "_law_e"] ["_law_one", "_law_two", "_law_which"] (defScope sCaught) := ⟨rfl, rfl, rfl, by decide +kernel, rfl, by decide +kernel, by decide +kernel⟩
theorem ok_caught {f : Addr} {fd : FuncData} (F : Fun K "_law_caught" "_law_caught" sCaught f fd) (T : TX K mg S Cs) : FnOk P w K mg base CX0 4 f fd ["_law_one", "_law_two", "_law_which"] spCaught := by
  refine F.ok scCaught (fun vs H Q E h => ?_) (fun cdv A outer s H vs Q E rm3 h => ?_)
  · obtain ⟨v1, v2, k, rfl, _⟩ := h
    rfl
  · obtain ⟨v1, v2, k, rfl, q⟩ := h
    have rm := rm3.mono (show 2 ≤ 3 by decide)
    refine ⟨_, pss_cons (ps_try_as (i := 3) (c := .ref S)
        (tb := fun W => tSeq (tIfS (tTest (tOp rEq (tVar 2) (tC (.int 0)))) (tRaiseV K H (tX1 (Cs 8) "tie" (tCons (tVar 0) tNil)) W) tNext)
          (tSeq (tIfS (tTest (tOp rEq (tVar 2) (tC (.int 1)))) (tRaiseV K H (tX2 (Cs 41) "index" "what" (tCons (tVar 0) (tCons (tVar 1) tNil))) W) tNext) (tRaiseV K H (tX0 (Cs 46)) W)))
        (ts := fun a cls d => tRet (tCB (rIsS K S a cls d) (tCons (tVar 3) (tCons (tC (.ty "ValueError")) tNil)))) (Wout := fun _ _ _ _ => False) rfl rfl scCaught.nd rfl rfl ⟨rfl, by decide, Or.inl T.gS⟩ takes0
        (fun W pn xe tk _ => by
          exact (pss_cons (ps_if (pt_cmpR op_eq (pv 2) pe_int (nomark _)) (pss_one (ps_raise rfl tk (pmk_val rfl (E1.pe T.e8 rm (by rfl) (pa_cons (pv 0) pa_nil))))) pss_nil)
            (pss_cons (ps_if (pt_cmpR op_eq (pv 2) pe_int (nomark _)) (pss_one (ps_raise rfl tk (pmk_val rfl (E2.pe T.e41 rm (by rfl) (pa_cons (pv 0) (pa_cons (pv 1) pa_nil)))))) pss_nil)
            (pss_one (ps_raise rfl tk (pmk_val rfl (E0.pe T.e46 (by rfl))))))))
        (fun a oe cls d pn hz hf => by
          exact pss_one (ps_ret (pe_callB (call_isS T.g hz hf) (by rfl) T.iso (by decide +kernel) (pa_cons (pv 3) (pa_cons (pe_bltn (v := .ty "ValueError") (by rfl) T.ve (by decide +kernel) rfl) pa_nil))))))
      (pss_one (ps_ret pe_bl)), ?_⟩
    have kit : ∀ i, i < 47 → PySem.W.kitOne K (.ref (Cs i)) (.type "ValueError") = some true := fun i hi => (T.xc i hi).kitTy (by decide +kernel) (by decide +kernel)
    have fin : ∀ (i : Nat) (fs : List (Str × V)) (a : Addr) (H2 : Hp), i < 47 → H a = none → Same H H2 → XAt H2 a (Cs i) fs → ∃ (a' C S' : Addr) (nm : Str) (d : Option Addr), V.ref a = .ref a' ∧ XC K S' C nm ∧ H a' = none ∧ H2 a' = some (exo a' C d) ∧
        wAs K (.ref S) 3 (fun a cls d => tRet (tCB (rIsS K S a cls d) (tCons (tVar 3) (tCons (tC (.ty "ValueError")) tNil)))) (fun _ _ _ _ => False) { nx := fun σ' H' => tRet (tC (.bl false)) { nx := fun _ H' => Q .non H', rt := Q } σ' H', rt := Q } (.ref C) d [some v1, some v2, some (.int k), none] (delH H2 a') := by
      intro i fs a H2 hi ha s hx
      have cn := T.nS i hi
      have old : ∀ {c : Addr}, Same H (delH H2 a) := fun b o z => by rw [delH_ne (ne_of_none z ha)]; exact s b o z
      have go : ∀ d, H2 a = some (exo a (Cs i) d) → (d = none ∨ ∃ dx fs, d = some dx ∧ (delH H2 a) dx = some (exd dx fs)) → _ := fun d ea hd =>
        (⟨a, Cs i, S, nmAt i, d, rfl, T.xc i hi, ha, ea, true, (T.xc i hi).exm T.b (Ne.symm cn), fun _ a' ha' => ⟨.ref a', rfl, Cs i, nmAt i, .ty "ValueError", .type "ValueError", true, rfl, rfl, .ty _, T.xc i hi, hd, kit i hi, q _ (old (c := a))⟩, fun z => Bool.noConfusion z⟩ :
          ∃ (a' C S' : Addr) (nm : Str) (d : Option Addr), V.ref a = .ref a' ∧ XC K S' C nm ∧ H a' = none ∧ H2 a' = some (exo a' C d) ∧
        wAs K (.ref S) 3 (fun a cls d => tRet (tCB (rIsS K S a cls d) (tCons (tVar 3) (tCons (tC (.ty "ValueError")) tNil)))) (fun _ _ _ _ => False) { nx := fun σ' H' => tRet (tC (.bl false)) { nx := fun _ H' => Q .non H', rt := Q } σ' H', rt := Q } (.ref C) d [some v1, some v2, some (.int k), none] (delH H2 a'))
      rcases hx with ⟨_, ea⟩ | ⟨d, nd, ea, ed⟩
      · exact go none ea (.inl rfl)
      · exact go (some d) ea (.inr ⟨d, fs, rfl, by rw [delH_ne nd]; exact ed⟩)
    refine ⟨_, rfl, rfl, _, rfl, ?_⟩
    refine ite2 (fun _ => ?_) (fun _ => ?_)
    · exact ⟨_, rfl, v1, rfl, fun a H2 ha s hx => fin 8 _ a H2 (by decide) ha s hx⟩
    · refine ⟨_, rfl, rfl, _, rfl, ?_⟩
      refine ite2 (fun _ => ?_) (fun _ => ?_)
      · exact ⟨_, rfl, _, rfl, v1, v2, rfl, fun a H2 ha s hx => fin 41 _ a H2 (by decide) ha s hx⟩
      · exact fun a H2 ha s hx => fin 46 _ a H2 (by decide) ha s hx
end
end Hd
set_option Elab.async false
set_option linter.all false
set_option maxRecDepth 100000
set_option maxHeartbeats 1000000
namespace Hd
open PySem PySem.Spec PyProof.Rows L2 Gk
/-! ### the heap without the hand -/
theorem del_but {a : Addr} {H H' : Hp} (b : But a H H') : Same (delH H a) (delH H' a) := fun x o h => by
  by_cases e : x = a
  · rw [e, delH_same] at h
    cases h
  · rw [delH_ne e] at h ⊢
    exact b x o e h
theorem del_same {a : Addr} {H : Hp} : Same (delH H a) H := fun x o h => by
  by_cases e : x = a
  · rw [e, delH_same] at h
    cases h
  · rw [delH_ne e] at h
    exact h
theorem HandAt.same {H H' : Hp} {a c : Addr} (h : HandAt H a c) (s : Same H H') : HandAt H' a c := by
  obtain ⟨cs, i, r, t, h1, h2, h3⟩ := h
  exact ⟨cs, i, r, t, s _ _ h1, s _ _ h2, h3⟩
theorem HandAt.there {H : Hp} {a c p : Addr} (h : HandAt H a c) (n : H p = none) : p ≠ a := by
  obtain ⟨cs, i, r, t, h1, _⟩ := h
  exact Ne.symm (ne_of_none h1 n)
/-! ### what is shown in short -/
theorem showy_int {i : Int} (h : i.natAbs < 10 ^ 12) : Showy 0 0 (.int i) where
  sh := by
    have e : i.natAbs.log2 < 1920 := by
      by_cases z : i.natAbs = 0
      · rw [z]; decide
      · have := (Nat.log2_lt z (k := 64)).mpr (Nat.lt_trans h (by decide))
        omega
    simp only [PyData.showable, decide_eq_true e]
  nd := by simp only [PyData.hasDict]
  dp := by simp only [PyData.depth]; exact Nat.le_refl 0
  lf := by simp only [PyData.leavesShort, decide_eq_true (PyData.shown_int_le h)]
  bk := by simp only [PyData.bulk]; exact Nat.le_refl 0
theorem showy_none : Showy 0 0 .none := ⟨by simp only [PyData.showable], by simp only [PyData.hasDict], by simp only [PyData.depth]; exact Nat.le_refl 0, by simp only [PyData.leavesShort], by simp only [PyData.bulk]; exact Nat.le_refl 0⟩
theorem showy_bool (b : Bool) : Showy 0 0 (.bool b) := ⟨by simp only [PyData.showable], by simp only [PyData.hasDict], by simp only [PyData.depth]; exact Nat.le_refl 0, by simp only [PyData.leavesShort], by simp only [PyData.bulk]; exact Nat.le_refl 0⟩
theorem showy_str {x : Str} (h : (x.cps.toList.all fun c => decide (c < 16 ^ 8)) = true) (hl : x.cps.size ≤ 100) : Showy 0 100 (.str x) :=
  ⟨by simp only [PyData.showable], by simp only [PyData.hasDict], by simp only [PyData.depth]; exact Nat.le_refl 0, by simp only [PyData.leavesShort]; exact h, by simp only [PyData.bulk]; exact hl⟩
section
variable {K : PySem.W.Frag} {σ : L2.St} {H : Hp} {a c : Addr}
/-- a draw -/
theorem tk {Q : VK} {E : XK} {te tm : TE} {m : Int} (hA : HandAt H a c) (h1 : ∀ R : VK, R (.ref a) H → te σ H R) (hm : ∀ R : VK, R (.int m) H → tm σ H R) (m0 : 0 < m) (m9 : m < 2 ^ 4000)
    (k : ∀ (n : Int) (H' : Hp), 0 ≤ n → n < m → HandAt H' a c → But a H H' → Q (.int n) H') : tCall spTake [] E (tCons te (tCons tm tNil)) σ H Q :=
  h1 _ (hm _ ⟨a, c, m, rfl, hA, m0, m9, k⟩)
theorem one_pow {R : VK} {x y : Int} (h0 : 0 ≤ y) (h1 : y ≤ 1000000) (h2 : x.natAbs < 2 ^ 64) (r : R (.int (x ^ y.toNat)) H) : tOp (rI CPow fun i j => .int (i ^ j.toNat)) (tC (.int x)) (tC (.int y)) σ H R :=
  ⟨_, _, rfl, rfl, ⟨h0, h1, h2⟩, r⟩
/-- [draw, 'text', (m, draw), x, -1 - draw][draw] -/
theorem pick {Q : VK} {E1 E2 E3 E4 : XK} {s : Str} {m : Int} {x : V} {dx : PyData} (hσ : σ[1]? = some (some (.ref a))) (hA : HandAt H a c) (hs : Showy 6 400 (.str s)) (hx : ∀ H, Dp K H x dx) (hdx : Showy 6 400 dx) (hm : Showy 0 0 (.int m))
    (k : ∀ (v : V) (d : PyData) (H' : Hp), Dp K (delH H' a) v d → Showy 6 400 d → HandAt H' a c → But a H H' → Q v H') :
    tOp (rIxL K) (tLst (tCons (tCall spTake [] E1 (tCons (tVar 1) (tCons (tOp (rI CPow fun i j => .int (i ^ j.toNat)) (tC (.int 10)) (tC (.int 9))) tNil)))
      (tCons (tC (.str s)) (tCons (tTup (tCons (tC (.int m)) (tCons (tCall spTake [] E2 (tCons (tVar 1) (tCons (tC (.int 9)) tNil))) tNil)))
      (tCons (tC x) (tCons (tOp (rI0 fun i j => .int (i - j)) (tUn (rU fun i => .int (-i)) (tC (.int 1))) (tCall spTake [] E3 (tCons (tVar 1) (tCons (tC (.int 99)) tNil)))) tNil))))))
      (tCall spTake [] E4 (tCons (tVar 1) (tCons (tC (.int 5)) tNil))) σ H Q := by
  have v1 : ∀ (H : Hp) (R : VK), R (.ref a) H → tVar 1 σ H R := fun H R h => ⟨_, hσ, h⟩
  refine tk (m := 10 ^ 9) hA (v1 _) (fun R h => one_pow (by decide) (by decide) (by decide) h) (by decide) (by decide) fun n1 H1 a1 b1 A1 B1 => ?_
  refine tk (m := 9) A1 (v1 _) (fun R h => h) (by decide) (by decide) fun n2 H2 a2 b2 A2 B2 => ⟨(by show 2 ≤ sizeLine; decide), fun p hp => ?_⟩
  have np := A2.there hp
  have A3 := A2.same (same_upd' (o := .tup [.int m, .int n2]) hp)
  refine ⟨_, rfl, tk (m := 99) A3 (v1 _) (fun R h => h) (by decide) (by decide) fun n3 H4 a3 b3 A4 B4 => ⟨_, _, rfl, rfl, (by show 5 ≤ sizeLine; decide), fun q hq => ?_⟩⟩
  have nq := A4.there hq
  have A5 := A4.same (same_upd' (o := .lst [.int n1, .str s, .ref p, x, .int (-1 - n3)]) hq)
  refine tk (m := 5) A5 (v1 _) (fun R h => h) (by decide) (by decide) fun n4 H6 a4 b4 A6 B6 => ?_
  have hq6 : H6 q = some (.lst [.int n1, .str s, .ref p, x, .int (-1 - n3)]) := B6 q _ nq upd_same
  have hp4 : H4 p = some (.tup [.int m, .int n2]) := B4 p _ np upd_same
  have hp6 : H6 p = some (.tup [.int m, .int n2]) := B6 p _ np (by rw [upd_ne (ne_of_none hp4 hq)]; exact hp4)
  have BB : But a H H6 := fun b o hb z => by
    have z2 := B2 b o hb (B1 b o hb z)
    have z4 := B4 b o hb (by rw [upd_ne (ne_of_none z2 hp)]; exact z2)
    exact B6 b o hb (by rw [upd_ne (ne_of_none z4 hq)]; exact z4)
  have go : ∀ (v : V) (d : PyData), ([.int n1, .str s, .ref p, x, .int (-1 - n3)] : List V)[n4.toNat]? = some v → Dp K (delH H6 a) v d → Showy 6 400 d → rIxL K (.ref q) (.int n4) H6 Q := fun v d hv dp sy =>
    ⟨q, _, n4, v, rfl, rfl, SqL.of hq6, at_item a4 hv, k v d H6 dp sy A6 BB⟩
  have c5 : n4 = 0 ∨ n4 = 1 ∨ n4 = 2 ∨ n4 = 3 ∨ n4 = 4 := by omega
  rcases c5 with e | e | e | e | e
  · subst e
    exact go _ (.int n1) rfl (.int n1) ((showy_int (by omega)).up (by decide) (by decide))
  · subst e
    exact go _ (.str s) rfl (.str s) hs
  · subst e
    refine go _ (.tuple [.int m, .int n2]) rfl (.tup (Or.inl (Or.inl (by rw [delH_ne np]; exact hp6))) (.cons (.int m) (.cons (.int n2) .nil))) ?_
    exact (Showy.pair hm (showy_int (i := n2) (by omega))).up (by decide) (by decide)
  · subst e
    exact go _ dx rfl (hx _) hdx
  · subst e
    exact go _ (.int (-1 - n3)) rfl (.int _) ((showy_int (by omega)).up (by decide) (by decide))
end
/-! ### lists of truth values as data -/
theorem dp_bools {K : PySem.W.Frag} {H : Hp} : ∀ bs : List Bool, DpAll K H (bs.map V.bl) (bs.map PyData.bool)
  | [] => .nil
  | b :: bs => .cons (.bl b) (dp_bools bs)
theorem lay_bools : ∀ bs : List Bool, PyData.canLayAll0 (bs.map PyData.bool) = true ∧ PyData.depthAll (bs.map PyData.bool) = 0
  | [] => by simp [PyData.canLayAll0, PyData.depthAll]
  | b :: bs => by
    obtain ⟨h1, h2⟩ := lay_bools bs
    simp [PyData.canLayAll0, PyData.canLay0, PyData.depthAll, PyData.depth, h1, h2]
theorem shaped_bools (bs : List Bool) : SeqAt.shaped (.list (bs.map PyData.bool)) = true := by
  obtain ⟨h1, h2⟩ := lay_bools bs
  show (PyData.canLay0 (.list (bs.map PyData.bool)) && decide (PyData.depth (.list (bs.map PyData.bool)) ≤ 64)) = true
  rw [Bool.and_eq_true]
  refine ⟨by simp only [PyData.canLay0]; exact h1, decide_eq_true ?_⟩
  simp only [PyData.depth]
  omega
theorem eqv_bools : ∀ bs : List Bool, PyData.eqvAll (bs.map PyData.bool) (bs.map PyData.bool) = true
  | [] => by simp [PyData.eqvAll]
  | b :: bs => by
    have h := eqv_bools bs
    simp [PyData.eqvAll, PyData.eqv, h]
/-- [.. for j in range(n)], each item reckoned -/
theorem lc_rng {te : TE} {vs : List Nat} {j : Nat} {σ : L2.St} {H1 : Hp} {Q : VK} {n : Nat} (f : Nat → V) (hw : ∀ x, wipe ((wipe σ vs).set j (some x)) vs = wipe σ vs) (hn : n ≤ 1000)
    (he : ∀ (i : Nat) (H' : Hp) (R : VK), i < n → Same H1 H' → (∀ H4, Same H' H4 → R (f i) H4) → te ((wipe σ vs).set j (some (.int ((0 : Int) + (i : Int))))) H' R)
    (k : ∀ (D : Addr) (H' : Hp), Same H1 H' → H1 D = none → H' D = some (.lst ((List.range n).map f)) → Q (.ref D) H')
    (D : Addr) (hD : H1 D = none) : ∃ W : Nat → Nat → Hp → Prop, (∃ m, W 0 m (upd H1 D (.lst []))) ∧ ∀ i m H, W i m H →
      ((Itr 0 n).stop i H ∧ Q (.ref D) H) ∨ ((Itr 0 n).go i H ∧ ∃ Nx : Hp → Prop, (∀ H', Nx H' → ∃ m', m' < m ∧ W (i + 1) m' H') ∧ ∀ x H', (Itr 0 n).yld i H x H' → gName j x (wipe σ vs) H' fun σ2 H2 => wipe σ2 vs = wipe σ vs ∧ tYes σ2 H2 fun b H3 =>
        if b = true then te σ2 H3 fun y H4 => ∃ acc, H4 D = some (.lst acc) ∧ acc.length < sizeLine ∧ Nx (upd H4 D (.lst (acc ++ [y]))) else Nx H3) := by
  refine lc_range (fun i H => Same H1 H ∧ H D = some (.lst ((List.range i).map f))) ⟨same_upd' hD, upd_same⟩ ?_ fun H z => k D H z.1 hD z.2
  rintro i H hi ⟨s, hd⟩
  refine ⟨hw _, ?_⟩
  refine he i H _ hi s fun H4 s4 => ⟨_, s4 _ _ hd, ?_, fun b o e => ?_, ?_⟩
  · rw [List.length_map, List.length_range]
    exact small1000 (by omega)
  · rw [upd_ne (ne_of_none e hD)]
    exact s4 b o (s b o e)
  · rw [upd_same, List.range_succ, List.map_append]
    rfl
theorem rng_ev {te : TE} {vs : List Nat} {j n : Nat} {σ : L2.St} {H : Hp} {R : VK} {m : Int} (f : Nat → V) (hm : m = (n : Int)) (hw : ∀ x, wipe ((wipe σ vs).set j (some x)) vs = wipe σ vs) (hn : n ≤ 1000)
    (he : ∀ (i : Nat) (H' : Hp) (R : VK), i < n → Same H H' → (∀ H4, Same H' H4 → R (f i) H4) → te ((wipe σ vs).set j (some (.int ((0 : Int) + (i : Int))))) H' R)
    (k : ∀ (D : Addr) (H' : Hp), Same H H' → H D = none → H' D = some (.lst ((List.range n).map f)) → R (.ref D) H') : tLc (iRng1 (tCons (tC (.int m)) tNil)) (gName j) tYes te vs σ H R := by
  subst hm
  refine ⟨_, rfl, by omega, by omega, ?_⟩
  have e : ((n : Int)).toNat = n := by omega
  rw [e]
  exact fun D hD => lc_rng (Q := R) f hw hn he k D hD
end Hd
set_option Elab.async false
set_option linter.all false
set_option maxRecDepth 100000
set_option maxHeartbeats 2000000
namespace Hd
open PySem PySem.Spec PyProof.Rows L2 Gk
abbrev sLaw : Stmt := topS 59
abbrev nLaw : List Str := ["_law_script", "_law_hand_here", "_law_one", "_law_two", "_law_made", "_law_at", "_law_e", "_law_other"]
theorem scLaw : FnScope nLaw ["_law_script"] (defScope sLaw) := ⟨rfl, rfl, rfl, by decide +kernel, rfl, by decide +kernel, by decide +kernel⟩
/-- the law's own defs as the top has left them -/
structure TL (K : PySem.W.Frag) (mg : Str → Option Value) (fH fT fF fS fA fC fO fG : Addr) (dH dT dF dS dA dC dO dG : FuncData) (fM : Addr) (dM : FuncData) : Prop where
  hM : Fun K "_law_mixed" "_law_mixed" sMixed fM dM
  gM : mg "_law_mixed" = some (.ref fM)
  hH : Fun K "_law_hand" "_law_hand" sHand fH dH
  gH : mg "_law_hand" = some (.ref fH)
  hT : Fun K "_law_take" "_law_take" sTake fT dT
  gT : mg "_law_take" = some (.ref fT)
  hF : Fun K "_law_first" "_law_first" sFirst fF dF
  gF : mg "_law_first" = some (.ref fF)
  hS : Fun K "_law_second" "_law_second" sSecond fS dS
  gS : mg "_law_second" = some (.ref fS)
  hA : Fun K "_law_all" "_law_all" sAll fA dA
  gA : mg "_law_all" = some (.ref fA)
  hC : Fun K "_law_couples" "_law_couples" sCouples fC dC
  gC : mg "_law_couples" = some (.ref fC)
  hO : Fun K "_law_single" "_law_single" sSingle fO dO
  gO : mg "_law_single" = some (.ref fO)
  hG : Fun K "_law_caught" "_law_caught" sCaught fG dG
  gG : mg "_law_caught" = some (.ref fG)
  k1 : mg "KeyError" = none
  k2 : mg "IndexError" = none
  k3 : mg "LookupError" = none
  k4 : mg "TypeError" = none
  k5 : mg "ArithmeticError" = none
def spLaw (K : PySem.W.Frag) : Sp := fun vs H Q _ => ∃ (s : Addr) (ns : List Int), vs = [.ref s] ∧ SqL K H s (ns.map V.int) ∧ ns.length ≤ 63 ∧ ∀ H', Q (.bl true) H'
theorem q_set {σ : L2.St} {H : Hp} {D : Ends} {tz : TS} {te : TE} {n : Nat} (h : te σ H fun v H' => tz D (σ.set n (some v)) H') : tSeq (tAsg te (gName n)) tz D σ H := h
section
variable {P : Program} {w : World} {K : PySem.W.Frag} {mg : Str → Option Value} {base : Heap} {S : Addr} {Cs : Nat → Addr} {fH fT fF fS fA fC fO fG fM : Addr} {dH dT dF dS dA dC dO dG dM : FuncData}
theorem ok_law {f : Addr} {fd : FuncData} (F : Fun K "law" "law" sLaw f fd) (T : TX K mg S Cs) (L : TL K mg fH fT fF fS fA fC fO fG dH dT dF dS dA dC dO dG fM dM) : GOk P w K mg base CX0 5 f fd ["_law_script"] (spLaw K) := by
  have GH : FnOk P w K mg base CX0 1 fH dH ["_law_script"] (spHand K) := ok_hand L.hH T.tb
  have GT : FnOk P w K mg base CX0 2 fT dT ["_law_hand_here", "_law_many"] spTake := ok_take L.hT T.tb L.hM L.gM
  have GF : FnOk P w K mg base CX0 1 fF dF ["_law_e"] (spFirst Cs) := ok_spFirst L.hF T
  have GS : FnOk P w K mg base CX0 1 fS dS ["_law_e"] (spSecond Cs) := ok_spSecond L.hS T
  have GA : FnOk P w K mg base CX0 3 fA dA ["_law_one", "_law_two"] (spAll Cs) := ok_spAll L.hA T
  have GC : GOk P w K mg base CX0 4 fC dC ["_law_one", "_law_two"] (spCouples K) := ok_couples L.hC T
  have GO : GOk P w K mg base CX0 4 fO dO ["_law_one"] (spSingle K) := ok_single L.hO T
  have GG : FnOk P w K mg base CX0 4 fG dG ["_law_one", "_law_two", "_law_which"] spCaught := ok_caught L.hG T
  have bH : Binds K dH ["_law_script"] [] := L.hH.binds fun _ _ _ _ _ _ us hl => match us, hl with | [_], _ => rfl
  have bT : Binds K dT ["_law_hand_here", "_law_many"] [] := L.hT.binds fun _ _ _ _ _ _ us hl => match us, hl with | [_, _], _ => rfl
  have bF : Binds K dF ["_law_e"] [] := L.hF.binds fun _ _ _ _ _ _ us hl => match us, hl with | [_], _ => rfl
  have bS : Binds K dS ["_law_e"] [] := L.hS.binds fun _ _ _ _ _ _ us hl => match us, hl with | [_], _ => rfl
  have bA : Binds K dA ["_law_one", "_law_two"] [] := L.hA.binds fun _ _ _ _ _ _ us hl => match us, hl with | [_, _], _ => rfl
  have bC : Binds K dC ["_law_one", "_law_two"] [] := L.hC.binds fun _ _ _ _ _ _ us hl => match us, hl with | [_, _], _ => rfl
  have bO : Binds K dO ["_law_one"] [] := L.hO.binds fun _ _ _ _ _ _ us hl => match us, hl with | [_], _ => rfl
  have bG : Binds K dG ["_law_one", "_law_two", "_law_which"] [] := L.hG.binds fun _ _ _ _ _ _ us hl => match us, hl with | [_, _, _], _ => rfl
  refine g_body (fun_ex F) scLaw (fun vs H Q E h => ?_) (fun cdv A outer s H vs Q E qa rm h => ?_)
  · obtain ⟨sa, ns, rfl, _⟩ := h
    rfl
  · obtain ⟨sa, ns, rfl, hS, hl, q⟩ := h
    have r1 := rm.mono (show 1 ≤ 4 by decide)
    have r2 := rm.mono (show 2 ≤ 4 by decide)
    have r3 := rm.mono (show 3 ≤ 4 by decide)
    have hu : _ + 64 < cLine := rm.units
    refine ⟨_, PSs.nox (pss_cons (ps_set (i := 1) scLaw.nd rfl (.inl rfl) (pe_call GH r1 rfl L.gH L.hH.kp bH .nil pass0 (pa_cons (pv 0) pa_nil)))
      (pss_cons (ps_set (i := 2) scLaw.nd rfl (.inl rfl) (pe_ix ix_list (pe_lst (pa_cons (pe_call GT r2 rfl L.gT L.hT.kp bT .nil pass0 (pa_cons (pv 1) (pa_cons (pe_op op_pow pe_int pe_int) pa_nil))) (pa_cons pe_str
        (pa_cons (pe_tup (pa_cons pe_int (pa_cons (pe_call GT r2 rfl L.gT L.hT.kp bT .nil pass0 (pa_cons (pv 1) (pa_cons pe_int pa_nil))) pa_nil))) (pa_cons pe_non
        (pa_cons (pe_op op_sub (pe_un un_neg pe_int) (pe_call GT r2 rfl L.gT L.hT.kp bT .nil pass0 (pa_cons (pv 1) (pa_cons pe_int pa_nil)))) pa_nil))))))
        (pe_call GT r2 rfl L.gT L.hT.kp bT .nil pass0 (pa_cons (pv 1) (pa_cons pe_int pa_nil))) (fun _ _ => rfl)))
      (pss_cons (ps_set (i := 3) scLaw.nd rfl (.inl rfl) (pe_ix ix_list (pe_lst (pa_cons (pe_call GT r2 rfl L.gT L.hT.kp bT .nil pass0 (pa_cons (pv 1) (pa_cons (pe_op op_pow pe_int pe_int) pa_nil))) (pa_cons pe_str
        (pa_cons (pe_tup (pa_cons pe_int (pa_cons (pe_call GT r2 rfl L.gT L.hT.kp bT .nil pass0 (pa_cons (pv 1) (pa_cons pe_int pa_nil))) pa_nil))) (pa_cons pe_bl
        (pa_cons (pe_op op_sub (pe_un un_neg pe_int) (pe_call GT r2 rfl L.gT L.hT.kp bT .nil pass0 (pa_cons (pv 1) (pa_cons pe_int pa_nil)))) pa_nil))))))
        (pe_call GT r2 rfl L.gT L.hT.kp bT .nil pass0 (pa_cons (pv 1) (pa_cons pe_int pa_nil))) (fun _ _ => rfl)))
      (pss_cons (ps_set (i := 4) scLaw.nd rfl (.inl rfl) (pe_call GA r3 rfl L.gA L.hA.kp bA .nil pass0 (pa_cons (pv 2) (pa_cons (pv 3) pa_nil))))
      (pss_cons (ps_for PassesOwn.never rfl (pi_range1 rfl T.ran (pa_cons (pe_callB call_len_seq (by rfl) T.tb.len boot_len (pa_cons (pv 4) pa_nil)) pa_nil)) (pg_name (i := 5) scLaw.nd rfl (.inr rfl))
        (pss_cons (ps_set (i := 6) scLaw.nd rfl (.inl rfl) (pe_ix ix_list (pv 4) (pv 5) (fun _ _ => rfl)))
        (pss_cons (ps_if (PW.pt (pw_or (pt_not (pt_val (pe_callB (call_isX (S := S) T.g) (by rfl) T.iso (by decide +kernel) (pa_cons (pv 6) (pa_cons (pe_glob (v := .ref S) (by rfl) T.gS rfl) pa_nil)))))
            (pw_or1 (pt_not (pt_val (pe_callB (call_isX (S := S) T.g) (by rfl) T.iso (by decide +kernel) (pa_cons (pv 6) (pa_cons (pe_bltn (v := .ty "ValueError") (by rfl) T.ve (by decide +kernel) rfl) pa_nil))))))))
          (pss_one (ps_ret pe_bl)) pss_nil)
        (pss_cons (ps_if (pt_val (pe_callB (call_isXT (S := S) T.g) (by rfl) T.iso (by decide +kernel) (pa_cons (pv 6) (pa_cons (pe_tup (pa_cons (pe_bltn (v := .ty "KeyError") (by rfl) L.k1 (by decide +kernel) rfl)
            (pa_cons (pe_bltn (v := .ty "IndexError") (by rfl) L.k2 (by decide +kernel) rfl) (pa_cons (pe_bltn (v := .ty "LookupError") (by rfl) L.k3 (by decide +kernel) rfl)
            (pa_cons (pe_bltn (v := .ty "TypeError") (by rfl) L.k4 (by decide +kernel) rfl) (pa_cons (pe_bltn (v := .ty "ArithmeticError") (by rfl) L.k5 (by decide +kernel) rfl) pa_nil)))))) pa_nil))))
          (pss_one (ps_ret pe_bl)) pss_nil)
        (pss_one (ps_if (pt_cmpR (op_neD hu) (pe_op op_cat (pe_call GF r1 rfl L.gF L.hF.kp bF .nil pass0 (pa_cons (pv 6) pa_nil)) (pe_call GS r1 rfl L.gS L.hS.kp bS .nil pass0 (pa_cons (pv 6) pa_nil)))
            (pe_lc (own := [("_law_other", 7)]) (g := gName 7) (tt := tYes) (te := tOp rEq (tVar 5) (tVar 7)) rfl scLaw.nd (pi_range1 rfl T.ran (pa_cons pe_int pa_nil)) (blkOk_by (N := nLaw) (sc := defScope sLaw) (by decide +kernel))
              (fun _ _ _ _ _ => pg_name (i := 7) scLaw.nd rfl (Or.inl rfl)) (fun _ _ _ _ _ => pts_nil) (fun _ _ _ _ _ => pe_cmpR op_eq (pv 5) (pv 7) (nomark _))) (nomark _))
          (pss_one (ps_ret pe_bl)) pss_nil))))))
      (pss_cons (ps_if (PW.pt (pw_or (pt_cmpR op_ne (pe_callB call_len_seq (by rfl) T.tb.len boot_len (pa_cons (pv 4) pa_nil)) pe_int (nomark _))
          (pw_or (pt_not (pt_val (pe_g GC qa rm rfl L.gC L.hC.kp bC .nil pass0 (pa_cons (pv 2) (pa_cons (pv 3) pa_nil)))))
          (pw_or (pt_not (pt_val (pe_g GO qa rm rfl L.gO L.hO.kp bO .nil pass0 (pa_cons (pv 2) pa_nil))))
          (pw_or1 (pt_not (pt_val (pe_g GO qa rm rfl L.gO L.hO.kp bO .nil pass0 (pa_cons (pv 3) pa_nil)))))))))
        (pss_one (ps_ret pe_bl)) pss_nil)
      (pss_one (ps_ret (pe_call GG rm rfl L.gG L.hG.kp bG .nil pass0 (pa_cons (pv 2) (pa_cons (pv 3) (pa_cons (pe_call GT r2 rfl L.gT L.hT.kp bT .nil pass0 (pa_cons (pv 1) (pa_cons pe_int pa_nil))) pa_nil)))))))))))), ?_⟩
    -- the hand
    refine ⟨_, rfl, sa, ns, rfl, hS, hl, fun H1 a c s1 na hA1 => ?_⟩
    -- one, two
    refine q_set (pick rfl hA1 ((showy_str (by decide +kernel) (by decide +kernel)).up (by decide) (by decide)) (fun _ => .non) (showy_none.up (by decide) (by decide)) (showy_int (by decide)) fun v1 d1 H2 x1 y1 A2 B2 => ?_)
    refine q_set (pick rfl A2 ((showy_str (by decide +kernel) (by decide +kernel)).up (by decide) (by decide)) (fun _ => .bl true) ((showy_bool true).up (by decide) (by decide)) (showy_int (by decide)) fun v2 d2 H3 x2 y2 A3 B3 => ?_)
    have x1 := dp_same (del_but B3) _ _ x1
    -- all errors
    refine ⟨v1, rfl, v2, rfl, v1, v2, rfl, fun p es H4 s4 n4 h4 z4 => ?_⟩
    have A4 := A3.same s4
    have e47 : (es.map V.ref).length = 47 := by rw [List.length_map, z4.len]; rfl
    have w1 : ∀ {H' : Hp}, Same H4 H' → Dp K H' v1 d1 := fun s => dp_same ((del_same.trans s4).trans s) _ _ x1
    have w2 : ∀ {H' : Hp}, Same H4 H' → Dp K H' v2 d2 := fun s => dp_same ((del_same.trans s4).trans s) _ _ x2
    -- one after another
    refine ⟨_, rfl, p, _, rfl, .inl (SqL.of h4), _, rfl, (by omega), (by omega), for_range (fun i σ H5 => ∃ x5 x6 : Option V, σ = [some (.ref sa), some (.ref a), some v1, some v2, some (.ref p), x5, x6, none] ∧ Same H4 H5) ⟨none, none, rfl, Same.refl H4⟩ ?_ ?_⟩
    · rintro i σ H5 hi ⟨x5, x6, rfl, s5⟩
      have hi : i < 47 := by omega
      obtain ⟨fs, hrow⟩ := rows_at (Cs := Cs) v1 v2 hi
      obtain ⟨e, he, hx⟩ := XAll.at z4 hrow
      have hx5 := XAt.keep hx s5
      have xc := T.xc i hi
      have at1 : (es.map V.ref)[((0 : Int) + (i : Int)).toNat]? = some (V.ref e) := by
        have z : ((0 : Int) + (i : Int)).toNat = i := by omega
        rw [z, List.getElem?_map, he]
        rfl
      refine ⟨_, rfl, _, rfl, p, _, _, .ref e, rfl, rfl, SqL.of (s5 _ _ h4), at_item (by omega) at1, ?_⟩
      -- under the base and under ValueError
      refine ⟨_, rfl, e, Cs i, fs, nmAt i, .ref S, .ref S, true, rfl, .own _, hx5, xc, xc.kitBase T.b, true, rfl, ?_⟩
      refine Eq.mpr (if_neg (by decide)) ?_
      refine ⟨_, rfl, e, Cs i, fs, nmAt i, .ty "ValueError", .type "ValueError", true, rfl, .ty _, hx5, xc, xc.kitTy (by decide +kernel) (by decide +kernel), true, rfl, ?_⟩
      refine Eq.mpr (if_neg (by decide)) ?_
      -- under no other
      refine ⟨_, rfl, (by show 5 ≤ sizeLine; decide), fun tp ht => ?_⟩
      have no : ∀ (T : String), PySem.W.kitMeta T = true → ([.type "ValueError", .type "Exception", .type "BaseException", .type "object"] : List Value).contains (.type T) = false → PySem.W.kitOne K (.ref (Cs i)) (.type T) = some false := fun T h1 h2 => xc.kitTy h1 h2
      refine ⟨e, Cs i, tp, fs, nmAt i, _, [.type "KeyError", .type "IndexError", .type "LookupError", .type "TypeError", .type "ArithmeticError"], false, rfl, upd_same, .cons (.ty _) (.cons (.ty _) (.cons (.ty _) (.cons (.ty _) (.cons (.ty _) .nil)))), hx5.keep (same_upd' ht), xc, ?_, false, rfl, ?_⟩
      · exact kitAny_cons (no _ (by decide +kernel) (by decide +kernel)) (fun _ => kitAny_cons (no _ (by decide +kernel) (by decide +kernel)) (fun _ => kitAny_cons (no _ (by decide +kernel) (by decide +kernel)) (fun _ => kitAny_cons (no _ (by decide +kernel) (by decide +kernel))
          (fun _ => kitAny_cons (no _ (by decide +kernel) (by decide +kernel)) (fun _ => kitAny_nil) (fun z => nomatch z)) (fun z => nomatch z)) (fun z => nomatch z)) (fun z => nomatch z)) (fun z => nomatch z)
      refine Eq.mpr (if_neg (by decide)) ?_
      have s6 := s5.trans (same_upd' (o := .tup [.ty "KeyError", .ty "IndexError", .ty "LookupError", .ty "TypeError", .ty "ArithmeticError"]) ht)
      -- of its own class alone
      refine ⟨_, rfl, e, i, fs, rfl, hi, hx.keep s6, fun p1 H7 s7 n7 h7 => ⟨_, rfl, e, i, fs, rfl, hi, hx.keep (s6.trans s7), fun p2 H8 s8 n8 h8 => ⟨p1, p2, _, _, rfl, rfl, s8 _ _ h7, h8, (by show 47 ≤ sizeLine; decide), fun p3 n3 => ?_⟩⟩⟩
      refine rng_ev (n := 47) (fun j => .bl (decide (i = j))) rfl (fun _ => rfl) (by decide) ?_ ?_
      · intro j H' R hj s r
        refine ⟨_, rfl, _, rfl, rfl, ?_⟩
        have ez : decide (V.int ((0 : Int) + (i : Int)) = V.int ((0 : Int) + (j : Int))) = decide (i = j) := by
          by_cases h : i = j
          · subst h
            rw [decide_eq_true rfl, decide_eq_true rfl]
          · rw [decide_eq_false h, decide_eq_false fun z => h (by injection z with z; omega)]
        rw [ez]
        exact r H' (Same.refl H')
      · intro D H9 s9 n9 h9
        let bs : List Bool := (List.range 47).map fun j => decide (i = j)
        have h3 : H9 p3 = some (.lst (bs.map V.bl)) := s9 _ _ upd_same
        have h9' : H9 D = some (.lst (bs.map V.bl)) := by
          rw [h9]
          show some (HO.lst _) = some (HO.lst (((List.range 47).map fun j => decide (i = j)).map V.bl))
          rw [List.map_map]
          rfl
        refine ⟨.list (bs.map PyData.bool), .list (bs.map PyData.bool), .lst (SqL.of h3) (dp_bools bs), .lst (SqL.of h9') (dp_bools bs), shaped_bools bs, shaped_bools bs, _, rfl, ?_⟩
        have ev : PyData.eqv (.list (bs.map PyData.bool)) (.list (bs.map PyData.bool)) = true := by
          simp only [PyData.eqv]
          exact eqv_bools bs
        rw [ev]
        refine Eq.mpr (if_neg (by decide)) ?_
        exact ⟨_, _, rfl, (((s6.trans s7).trans s8).trans (same_upd' n3)).trans s9⟩
    · rintro σ H5 ⟨x5, x6, rfl, s5⟩
      refine ⟨_, rfl, p, _, rfl, .inl (SqL.of (s5 _ _ h4)), rfl, _, rfl, ?_⟩
      rw [e47]
      refine Eq.mpr (if_neg (by decide)) ?_
      refine ⟨_, rfl, _, rfl, v1, v2, d1, d2, rfl, w1 s5, w2 s5, y1, y2, fun H6 s6 => ⟨true, rfl, ?_⟩⟩
      refine Eq.mpr (if_neg (by decide)) ?_
      refine ⟨_, rfl, v1, d1, rfl, w1 (s5.trans s6), y1, fun H7 s7 => ⟨true, rfl, ?_⟩⟩
      refine Eq.mpr (if_neg (by decide)) ?_
      refine ⟨_, rfl, v2, d2, rfl, w2 ((s5.trans s6).trans s7), y2, fun H8 s8 => ⟨true, rfl, ?_⟩⟩
      refine Eq.mpr (if_neg (by decide)) ?_
      have A8 := (((A4.same s5).same s6).same s7).same s8
      refine ⟨_, rfl, _, rfl, tk (m := 3) A8 (fun R h => ⟨_, rfl, h⟩) (fun R h => h) (by decide) (by decide) fun n H9 _ _ _ _ => ?_⟩
      exact ⟨v1, v2, n, rfl, fun H' _ => q H'⟩
end
end Hd
set_option Elab.async false
set_option linter.all false
set_option maxRecDepth 100000
set_option maxHeartbeats 2000000
namespace Hd
open PySem PySem.Spec PyProof.Rows L2 Gk
section
variable {K : PySem.W.Frag} {mg : Str → Option Value} {h : Heap} {S C fI : Addr} {nm f g ql q : Str} {stm : Stmt} {N : Addr} {bs : List Value} {sn : List Str} {sub : List Value} {ab : Bool} {col : Option Bool} {dd : Option Addr} {k0 k1 k2 k3 k5 : Option Value}
  {oc : Value} {od : Option Addr} {kV doc pm cdv ct : Value} {an : Option Addr} {sl : Array (Option Value)}
theorem mkXC (row : K.lookup C = some (excClassObj nm q C N bs [.ref S, .type "ValueError", .type "Exception", .type "BaseException", .type "object"] true sn sub ab col dd k0 k1 k2 k3 k5 "ValueError.__new__"))
    (sa : PySem.W.findIn K (.ref C) "__setattr__" = some (some (.builtin "object.__setattr__"))) (ga : PySem.W.findIn K (.ref C) "__getattribute__" = some (some (.builtin "BaseException.__getattribute__")))
    (gg : PySem.W.findIn K (.ref C) "__getattr__" = some none) (cl : PySem.W.findIn K (.ref C) "__class__" = some (some (.builtin "object.__class__"))) (kp : PySem.W.keepIn K (.ref C) = true) : XC K S C nm :=
  ⟨⟨q, N, bs, sn, sub, ab, col, dd, k0, k1, k2, k3, k5, row⟩, sa, ga, gg, cl, kp⟩
theorem mkE1 (X : K.In h) (G : h.Ns mainGlobals mg) (aC : PySem.W.nsIn K mainGlobals nm = some (some (.ref C)))
    (row : K.lookup C = some (excClassObj nm q C N bs [.ref S, .type "ValueError", .type "Exception", .type "BaseException", .type "object"] true sn sub ab col dd k0 k1 k2 k3 k5 "ValueError.__new__"))
    (sa : PySem.W.findIn K (.ref C) "__setattr__" = some (some (.builtin "object.__setattr__"))) (ga : PySem.W.findIn K (.ref C) "__getattribute__" = some (some (.builtin "BaseException.__getattribute__")))
    (gg : PySem.W.findIn K (.ref C) "__getattr__" = some none) (cl : PySem.W.findIn K (.ref C) "__class__" = some (some (.builtin "object.__class__"))) (kp : PySem.W.keepIn K (.ref C) = true)
    (no : PySem.W.findIn K (.ref C) f = some none) (iC : PySem.W.findIn K (.ref C) "__init__" = some (some (.ref fI))) (tI : PySem.W.typeIn K (.ref fI) = some (.type "function"))
    (l : K.lookup fI = some ⟨oc, od, .func (PySem.W.fnOf "__init__" ql (defArgs stm) (defBody stm) (defScope stm) .none kV doc pm an cdv ct), sl⟩) (c : PySem.W.codeIn K cdv ql = true) (k : PySem.W.keepIn K (.ref fI) = true)
    (hb : ∃ p1 p2 p3 p4, defBody stm = [.Assign [.Attribute (.Name "self" p1) f p2] (.Name f p3) p4]) (sc : FnScope ["self", f] ["self", f] (defScope stm))
    (h1 : (f == ("__debug__" : Str)) = false) (h2 : (f == ("__classdict__" : Str)) = false)
    (bi : ∀ (kV doc pm : Value) (an : Option Addr) (cdv ct : Value) (us : List Value), us.length = (["self", f] : List Str).length → bindArgs (PySem.W.fnOf "__init__" ql (defArgs stm) (defBody stm) (defScope stm) .none kV doc pm an cdv ct) ⟨us, []⟩ = pure ((["self", f] : List Str).zip us)) :
    E1 K mg S C nm f := by
  have x := mkXC row sa ga gg cl kp
  have F := fun_mk (st := stm) l c k
  exact ⟨x, PySem.W.mg_of X G aC, no, fI, _, iC, tI, F.binds bi, fun P w base => ok_init1 F x no hb sc h1 h2⟩
theorem mkE2 (X : K.In h) (G : h.Ns mainGlobals mg) (aC : PySem.W.nsIn K mainGlobals nm = some (some (.ref C)))
    (row : K.lookup C = some (excClassObj nm q C N bs [.ref S, .type "ValueError", .type "Exception", .type "BaseException", .type "object"] true sn sub ab col dd k0 k1 k2 k3 k5 "ValueError.__new__"))
    (sa : PySem.W.findIn K (.ref C) "__setattr__" = some (some (.builtin "object.__setattr__"))) (ga : PySem.W.findIn K (.ref C) "__getattribute__" = some (some (.builtin "BaseException.__getattribute__")))
    (gg : PySem.W.findIn K (.ref C) "__getattr__" = some none) (cl : PySem.W.findIn K (.ref C) "__class__" = some (some (.builtin "object.__class__"))) (kp : PySem.W.keepIn K (.ref C) = true)
    (no : PySem.W.findIn K (.ref C) f = some none) (no2 : PySem.W.findIn K (.ref C) g = some none) (iC : PySem.W.findIn K (.ref C) "__init__" = some (some (.ref fI))) (tI : PySem.W.typeIn K (.ref fI) = some (.type "function"))
    (l : K.lookup fI = some ⟨oc, od, .func (PySem.W.fnOf "__init__" ql (defArgs stm) (defBody stm) (defScope stm) .none kV doc pm an cdv ct), sl⟩) (c : PySem.W.codeIn K cdv ql = true) (k : PySem.W.keepIn K (.ref fI) = true)
    (hb : ∃ p1 p2 p3 p4 q1 q2 q3 q4, defBody stm = [.Assign [.Attribute (.Name "self" p1) f p2] (.Name f p3) p4, .Assign [.Attribute (.Name "self" q1) g q2] (.Name g q3) q4]) (sc : FnScope ["self", f, g] ["self", f, g] (defScope stm))
    (h1 : (f == ("__debug__" : Str)) = false) (h2 : (f == ("__classdict__" : Str)) = false) (i1 : (g == ("__debug__" : Str)) = false) (i2 : (g == ("__classdict__" : Str)) = false)
    (bi : ∀ (kV doc pm : Value) (an : Option Addr) (cdv ct : Value) (us : List Value), us.length = (["self", f, g] : List Str).length → bindArgs (PySem.W.fnOf "__init__" ql (defArgs stm) (defBody stm) (defScope stm) .none kV doc pm an cdv ct) ⟨us, []⟩ = pure ((["self", f, g] : List Str).zip us))
    (bk : ∀ (kV doc pm : Value) (an : Option Addr) (cdv ct : Value) (u v1 v2 : Value), bindArgs (PySem.W.fnOf "__init__" ql (defArgs stm) (defBody stm) (defScope stm) .none kV doc pm an cdv ct) ⟨[u], [(g, v1), (f, v2)]⟩ = pure [(("self" : Str), u), (f, v2), (g, v1)]) :
    E2 K mg S C nm f g := by
  have x := mkXC row sa ga gg cl kp
  have F := fun_mk (st := stm) l c k
  refine ⟨x, PySem.W.mg_of X G aC, no, no2, fI, _, iC, tI, F.binds bi, ⟨fun s u ws hl => ?_, fun r => ?_⟩, fun P w base => ok_init2 F x no no2 hb sc h1 h2 i1 i2⟩
  · match ws, hl with
    | [v1, v2], _ => exact .of_eq (bk _ _ _ _ _ _ u v1 v2)
  · rename_i zs ws
    have go : ∀ {zs : List V} {ws : List Value}, Vals zs ws → Vals zs.reverse ws.reverse := by
      intro zs ws r
      induction r with
      | nil => exact .nil
      | cons a b ih =>
        rw [List.reverse_cons, List.reverse_cons]
        exact Vals.append ih (.cons a .nil)
    exact go r
theorem mkE0 (X : K.In h) (G : h.Ns mainGlobals mg) (aC : PySem.W.nsIn K mainGlobals nm = some (some (.ref C)))
    (row : K.lookup C = some (excClassObj nm q C N bs [.ref S, .type "ValueError", .type "Exception", .type "BaseException", .type "object"] true sn sub ab col dd k0 k1 k2 k3 k5 "ValueError.__new__"))
    (sa : PySem.W.findIn K (.ref C) "__setattr__" = some (some (.builtin "object.__setattr__"))) (ga : PySem.W.findIn K (.ref C) "__getattribute__" = some (some (.builtin "BaseException.__getattribute__")))
    (gg : PySem.W.findIn K (.ref C) "__getattr__" = some none) (cl : PySem.W.findIn K (.ref C) "__class__" = some (some (.builtin "object.__class__"))) (kp : PySem.W.keepIn K (.ref C) = true)
    (ex : PySem.W.excIn K C [.type "ValueError", .type "Exception", .type "BaseException", .type "object"] "ValueError.__new__" = true) : E0 K mg S C nm :=
  ⟨mkXC row sa ga gg cl kp, PySem.W.mg_of X G aC, ex⟩
end
theorem mkXG {K : PySem.W.Frag} {h : Heap} (_ : K.In h) (a : PySem.W.specialIn K (.builtin "object.__class__") "__get__" = some (some (.builtin "getset_descriptor.__get__"))) (b : PySem.W.takesIn K (.builtin "object.__class__") = some true) : XG K := ⟨a, b⟩
theorem mkXB {K : PySem.W.Frag} {h : Heap} {mg : Str → Option Value} {S : Addr} (_ : K.In h) (_ : mg "SlopeError" = some (.ref S)) (a : PySem.W.isClsIn K S = true) (b : PySem.W.typeIn K (.ref S) = some (.type "type"))
    (c : PySem.W.subIn K (.ref S) (.type "BaseException") = some true) : XB K S := ⟨a, b, c⟩
theorem mkFn {K : PySem.W.Frag} {mg : Str → Option Value} {h : Heap} {f : Addr} {x : Str} {stm : Stmt} {oc : Value} {od : Option Addr} {kV doc pm cdv ct : Value} {an : Option Addr} {sl : Array (Option Value)} (X : K.In h) (G : h.Ns mainGlobals mg)
    (a : PySem.W.nsIn K mainGlobals x = some (some (.ref f))) (l : K.lookup f = some ⟨oc, od, .func (PySem.W.fnOf x x (defArgs stm) (defBody stm) (defScope stm) .none kV doc pm an cdv ct), sl⟩) (c : PySem.W.codeIn K cdv x = true) (k : PySem.W.keepIn K (.ref f) = true) :
    mg x = some (.ref f) ∧ ∃ fd, Fun K x x stm f fd := ⟨PySem.W.mg_of X G a, _, fun_mk (st := stm) l c k⟩
theorem mkLaw {K : PySem.W.Frag} {mg : Str → Option Value} {h : Heap} {f : Addr} {oc : Value} {od : Option Addr} {kV doc pm cdv ct : Value} {an : Option Addr} {sl : Array (Option Value)} (X : K.In h) (G : h.Ns mainGlobals mg)
    (a : PySem.W.nsIn K mainGlobals "law" = some (some (.ref f))) (l : K.lookup f = some ⟨oc, od, .func (PySem.W.fnOf "law" "law" (defArgs sLaw) (defBody sLaw) (defScope sLaw) .none kV doc pm an cdv ct), sl⟩) (c : PySem.W.codeIn K cdv "law" = true) (k : PySem.W.keepIn K (.ref f) = true) :
    mg "law" = some (.ref f) ∧ ∃ fd, Fun K "law" "law" sLaw f fd ∧ ∀ (s : Shared) (u : Value), BindsTo s fd ⟨[u], []⟩ [("_law_script", u)] := ⟨PySem.W.mg_of X G a, _, fun_mk (st := sLaw) l c k, fun s u => .of_eq rfl⟩
theorem walk {l : PySem.W.OpenLaw} {q : Program} {loose : List Str} {XP : (Str → Option Value) → Heap → Prop} {YP : World → Heap → Prop} {d : DefRec} {K : Params → PySem.W.Frag} (hn : l.most = some 63) (hdf : d.params.defaults = [])
    (hY : ∀ (w : World) (h : Heap), YP w h → (K w.params).In h)
    (F : ∀ (w : World) (mg : Str → Option Value) (fa : Addr) (h : Heap), (K w.params).In h → h.Ns mainGlobals mg → mg d.name = some (.ref fa) →
      ∃ fd : FuncData, (∀ (s : Shared) (u : Value), BindsTo s fd ⟨[u], []⟩ [("_law_script", u)]) ∧ ∀ base : Heap, (K w.params).In base → base.Ns mainGlobals mg → GOk l.prog w (K w.params) mg base CX0 5 fa fd ["_law_script"] (spLaw (K w.params))) :
    PySem.W.WalkO q loose XP YP l.row.toRowW d [] (fun f vs => PySem.call f vs) :=
  walk_G (n := 63) (k := 5) (x := "_law_script") (CX := fun _ => CX0) (sp := fun w => spLaw (K w.params)) hn (by decide) hdf ⟨rfl, by decide, by decide⟩ hY F (fun _ _ a ns hl _ _ hS => ⟨a, ns, rfl, hS, hl, fun _ => rfl⟩) fun _ _ _ _ _ z => z
end Hd
set_option Elab.async false
set_option linter.all false
set_option maxRecDepth 100000
set_option maxHeartbeats 2000000
namespace Hd
open PySem PySem.Spec PyProof.Rows L2 Gk

theorem hb0 : ∃ p1 p2 p3 p4, defBody (inClass (topS 2) 0) = [.Assign [.Attribute (.Name "self" p1) "what" p2] (.Name "what" p3) p4] := ⟨_, _, _, _, rfl⟩
theorem sc0 : FnScope ["self", "what"] ["self", "what"] (defScope (inClass (topS 2) 0)) := ⟨rfl, rfl, rfl, by decide +kernel, rfl, by decide +kernel, by decide +kernel⟩
theorem bi0 : ∀ (kV doc pm : Value) (an : Option Addr) (cdv ct : Value) (us : List Value), us.length = (["self", "what"] : List Str).length → bindArgs (PySem.W.fnOf "__init__" "BadRatio.__init__" (defArgs (inClass (topS 2) 0)) (defBody (inClass (topS 2) 0)) (defScope (inClass (topS 2) 0)) .none kV doc pm an cdv ct) ⟨us, []⟩ = pure ((["self", "what"] : List Str).zip us) := fun _ _ _ _ _ _ us hl => match us, hl with | [_, _], _ => rfl
theorem hb1 : ∃ p1 p2 p3 p4 q1 q2 q3 q4, defBody (inClass (topS 3) 0) = [.Assign [.Attribute (.Name "self" p1) "what" p2] (.Name "what" p3) p4, .Assign [.Attribute (.Name "self" q1) "index" q2] (.Name "index" q3) q4] := ⟨_, _, _, _, _, _, _, _, rfl⟩
theorem bk1 : ∀ (kV doc pm : Value) (an : Option Addr) (cdv ct : Value) (u v1 v2 : Value), bindArgs (PySem.W.fnOf "__init__" "BadMould.__init__" (defArgs (inClass (topS 3) 0)) (defBody (inClass (topS 3) 0)) (defScope (inClass (topS 3) 0)) .none kV doc pm an cdv ct) ⟨[u], [("index", v1), ("what", v2)]⟩ = pure [(("self" : Str), u), ("what", v2), ("index", v1)] := fun _ _ _ _ _ _ _ _ _ => rfl
theorem sc1 : FnScope ["self", "what", "index"] ["self", "what", "index"] (defScope (inClass (topS 3) 0)) := ⟨rfl, rfl, rfl, by decide +kernel, rfl, by decide +kernel, by decide +kernel⟩
theorem bi1 : ∀ (kV doc pm : Value) (an : Option Addr) (cdv ct : Value) (us : List Value), us.length = (["self", "what", "index"] : List Str).length → bindArgs (PySem.W.fnOf "__init__" "BadMould.__init__" (defArgs (inClass (topS 3) 0)) (defBody (inClass (topS 3) 0)) (defScope (inClass (topS 3) 0)) .none kV doc pm an cdv ct) ⟨us, []⟩ = pure ((["self", "what", "index"] : List Str).zip us) := fun _ _ _ _ _ _ us hl => match us, hl with | [_, _, _], _ => rfl
theorem hb2 : ∃ p1 p2 p3 p4, defBody (inClass (topS 4) 0) = [.Assign [.Attribute (.Name "self" p1) "letter" p2] (.Name "letter" p3) p4] := ⟨_, _, _, _, rfl⟩
theorem sc2 : FnScope ["self", "letter"] ["self", "letter"] (defScope (inClass (topS 4) 0)) := ⟨rfl, rfl, rfl, by decide +kernel, rfl, by decide +kernel, by decide +kernel⟩
theorem bi2 : ∀ (kV doc pm : Value) (an : Option Addr) (cdv ct : Value) (us : List Value), us.length = (["self", "letter"] : List Str).length → bindArgs (PySem.W.fnOf "__init__" "BadLetter.__init__" (defArgs (inClass (topS 4) 0)) (defBody (inClass (topS 4) 0)) (defScope (inClass (topS 4) 0)) .none kV doc pm an cdv ct) ⟨us, []⟩ = pure ((["self", "letter"] : List Str).zip us) := fun _ _ _ _ _ _ us hl => match us, hl with | [_, _], _ => rfl
theorem hb3 : ∃ p1 p2 p3 p4, defBody (inClass (topS 5) 0) = [.Assign [.Attribute (.Name "self" p1) "index" p2] (.Name "index" p3) p4] := ⟨_, _, _, _, rfl⟩
theorem sc3 : FnScope ["self", "index"] ["self", "index"] (defScope (inClass (topS 5) 0)) := ⟨rfl, rfl, rfl, by decide +kernel, rfl, by decide +kernel, by decide +kernel⟩
theorem bi3 : ∀ (kV doc pm : Value) (an : Option Addr) (cdv ct : Value) (us : List Value), us.length = (["self", "index"] : List Str).length → bindArgs (PySem.W.fnOf "__init__" "BadNumbers.__init__" (defArgs (inClass (topS 5) 0)) (defBody (inClass (topS 5) 0)) (defScope (inClass (topS 5) 0)) .none kV doc pm an cdv ct) ⟨us, []⟩ = pure ((["self", "index"] : List Str).zip us) := fun _ _ _ _ _ _ us hl => match us, hl with | [_, _], _ => rfl
theorem hb4 : ∃ p1 p2 p3 p4, defBody (inClass (topS 6) 0) = [.Assign [.Attribute (.Name "self" p1) "cell" p2] (.Name "cell" p3) p4] := ⟨_, _, _, _, rfl⟩
theorem sc4 : FnScope ["self", "cell"] ["self", "cell"] (defScope (inClass (topS 6) 0)) := ⟨rfl, rfl, rfl, by decide +kernel, rfl, by decide +kernel, by decide +kernel⟩
theorem bi4 : ∀ (kV doc pm : Value) (an : Option Addr) (cdv ct : Value) (us : List Value), us.length = (["self", "cell"] : List Str).length → bindArgs (PySem.W.fnOf "__init__" "BadCell.__init__" (defArgs (inClass (topS 6) 0)) (defBody (inClass (topS 6) 0)) (defScope (inClass (topS 6) 0)) .none kV doc pm an cdv ct) ⟨us, []⟩ = pure ((["self", "cell"] : List Str).zip us) := fun _ _ _ _ _ _ us hl => match us, hl with | [_, _], _ => rfl
theorem hb5 : ∃ p1 p2 p3 p4, defBody (inClass (topS 7) 0) = [.Assign [.Attribute (.Name "self" p1) "what" p2] (.Name "what" p3) p4] := ⟨_, _, _, _, rfl⟩
theorem sc5 : FnScope ["self", "what"] ["self", "what"] (defScope (inClass (topS 7) 0)) := ⟨rfl, rfl, rfl, by decide +kernel, rfl, by decide +kernel, by decide +kernel⟩
theorem bi5 : ∀ (kV doc pm : Value) (an : Option Addr) (cdv ct : Value) (us : List Value), us.length = (["self", "what"] : List Str).length → bindArgs (PySem.W.fnOf "__init__" "BadOrder.__init__" (defArgs (inClass (topS 7) 0)) (defBody (inClass (topS 7) 0)) (defScope (inClass (topS 7) 0)) .none kV doc pm an cdv ct) ⟨us, []⟩ = pure ((["self", "what"] : List Str).zip us) := fun _ _ _ _ _ _ us hl => match us, hl with | [_, _], _ => rfl
theorem hb6 : ∃ p1 p2 p3 p4 q1 q2 q3 q4, defBody (inClass (topS 8) 0) = [.Assign [.Attribute (.Name "self" p1) "what" p2] (.Name "what" p3) p4, .Assign [.Attribute (.Name "self" q1) "index" q2] (.Name "index" q3) q4] := ⟨_, _, _, _, _, _, _, _, rfl⟩
theorem bk6 : ∀ (kV doc pm : Value) (an : Option Addr) (cdv ct : Value) (u v1 v2 : Value), bindArgs (PySem.W.fnOf "__init__" "BadWeb.__init__" (defArgs (inClass (topS 8) 0)) (defBody (inClass (topS 8) 0)) (defScope (inClass (topS 8) 0)) .none kV doc pm an cdv ct) ⟨[u], [("index", v1), ("what", v2)]⟩ = pure [(("self" : Str), u), ("what", v2), ("index", v1)] := fun _ _ _ _ _ _ _ _ _ => rfl
theorem sc6 : FnScope ["self", "what", "index"] ["self", "what", "index"] (defScope (inClass (topS 8) 0)) := ⟨rfl, rfl, rfl, by decide +kernel, rfl, by decide +kernel, by decide +kernel⟩
theorem bi6 : ∀ (kV doc pm : Value) (an : Option Addr) (cdv ct : Value) (us : List Value), us.length = (["self", "what", "index"] : List Str).length → bindArgs (PySem.W.fnOf "__init__" "BadWeb.__init__" (defArgs (inClass (topS 8) 0)) (defBody (inClass (topS 8) 0)) (defScope (inClass (topS 8) 0)) .none kV doc pm an cdv ct) ⟨us, []⟩ = pure ((["self", "what", "index"] : List Str).zip us) := fun _ _ _ _ _ _ us hl => match us, hl with | [_, _, _], _ => rfl
theorem hb7 : ∃ p1 p2 p3 p4, defBody (inClass (topS 9) 0) = [.Assign [.Attribute (.Name "self" p1) "point" p2] (.Name "point" p3) p4] := ⟨_, _, _, _, rfl⟩
theorem sc7 : FnScope ["self", "point"] ["self", "point"] (defScope (inClass (topS 9) 0)) := ⟨rfl, rfl, rfl, by decide +kernel, rfl, by decide +kernel, by decide +kernel⟩
theorem bi7 : ∀ (kV doc pm : Value) (an : Option Addr) (cdv ct : Value) (us : List Value), us.length = (["self", "point"] : List Str).length → bindArgs (PySem.W.fnOf "__init__" "BadPoint.__init__" (defArgs (inClass (topS 9) 0)) (defBody (inClass (topS 9) 0)) (defScope (inClass (topS 9) 0)) .none kV doc pm an cdv ct) ⟨us, []⟩ = pure ((["self", "point"] : List Str).zip us) := fun _ _ _ _ _ _ us hl => match us, hl with | [_, _], _ => rfl
theorem hb8 : ∃ p1 p2 p3 p4, defBody (inClass (topS 10) 0) = [.Assign [.Attribute (.Name "self" p1) "tie" p2] (.Name "tie" p3) p4] := ⟨_, _, _, _, rfl⟩
theorem sc8 : FnScope ["self", "tie"] ["self", "tie"] (defScope (inClass (topS 10) 0)) := ⟨rfl, rfl, rfl, by decide +kernel, rfl, by decide +kernel, by decide +kernel⟩
theorem bi8 : ∀ (kV doc pm : Value) (an : Option Addr) (cdv ct : Value) (us : List Value), us.length = (["self", "tie"] : List Str).length → bindArgs (PySem.W.fnOf "__init__" "BadTie.__init__" (defArgs (inClass (topS 10) 0)) (defBody (inClass (topS 10) 0)) (defScope (inClass (topS 10) 0)) .none kV doc pm an cdv ct) ⟨us, []⟩ = pure ((["self", "tie"] : List Str).zip us) := fun _ _ _ _ _ _ us hl => match us, hl with | [_, _], _ => rfl
theorem hb9 : ∃ p1 p2 p3 p4, defBody (inClass (topS 11) 0) = [.Assign [.Attribute (.Name "self" p1) "index" p2] (.Name "index" p3) p4] := ⟨_, _, _, _, rfl⟩
theorem sc9 : FnScope ["self", "index"] ["self", "index"] (defScope (inClass (topS 11) 0)) := ⟨rfl, rfl, rfl, by decide +kernel, rfl, by decide +kernel, by decide +kernel⟩
theorem bi9 : ∀ (kV doc pm : Value) (an : Option Addr) (cdv ct : Value) (us : List Value), us.length = (["self", "index"] : List Str).length → bindArgs (PySem.W.fnOf "__init__" "BadGrouping.__init__" (defArgs (inClass (topS 11) 0)) (defBody (inClass (topS 11) 0)) (defScope (inClass (topS 11) 0)) .none kV doc pm an cdv ct) ⟨us, []⟩ = pure ((["self", "index"] : List Str).zip us) := fun _ _ _ _ _ _ us hl => match us, hl with | [_, _], _ => rfl
theorem hb10 : ∃ p1 p2 p3 p4, defBody (inClass (topS 12) 0) = [.Assign [.Attribute (.Name "self" p1) "count" p2] (.Name "count" p3) p4] := ⟨_, _, _, _, rfl⟩
theorem sc10 : FnScope ["self", "count"] ["self", "count"] (defScope (inClass (topS 12) 0)) := ⟨rfl, rfl, rfl, by decide +kernel, rfl, by decide +kernel, by decide +kernel⟩
theorem bi10 : ∀ (kV doc pm : Value) (an : Option Addr) (cdv ct : Value) (us : List Value), us.length = (["self", "count"] : List Str).length → bindArgs (PySem.W.fnOf "__init__" "BadCount.__init__" (defArgs (inClass (topS 12) 0)) (defBody (inClass (topS 12) 0)) (defScope (inClass (topS 12) 0)) .none kV doc pm an cdv ct) ⟨us, []⟩ = pure ((["self", "count"] : List Str).zip us) := fun _ _ _ _ _ _ us hl => match us, hl with | [_, _], _ => rfl
theorem hb11 : ∃ p1 p2 p3 p4 q1 q2 q3 q4, defBody (inClass (topS 13) 0) = [.Assign [.Attribute (.Name "self" p1) "index" p2] (.Name "index" p3) p4, .Assign [.Attribute (.Name "self" q1) "what" q2] (.Name "what" q3) q4] := ⟨_, _, _, _, _, _, _, _, rfl⟩
theorem bk11 : ∀ (kV doc pm : Value) (an : Option Addr) (cdv ct : Value) (u v1 v2 : Value), bindArgs (PySem.W.fnOf "__init__" "BadAsk.__init__" (defArgs (inClass (topS 13) 0)) (defBody (inClass (topS 13) 0)) (defScope (inClass (topS 13) 0)) .none kV doc pm an cdv ct) ⟨[u], [("what", v1), ("index", v2)]⟩ = pure [(("self" : Str), u), ("index", v2), ("what", v1)] := fun _ _ _ _ _ _ _ _ _ => rfl
theorem sc11 : FnScope ["self", "index", "what"] ["self", "index", "what"] (defScope (inClass (topS 13) 0)) := ⟨rfl, rfl, rfl, by decide +kernel, rfl, by decide +kernel, by decide +kernel⟩
theorem bi11 : ∀ (kV doc pm : Value) (an : Option Addr) (cdv ct : Value) (us : List Value), us.length = (["self", "index", "what"] : List Str).length → bindArgs (PySem.W.fnOf "__init__" "BadAsk.__init__" (defArgs (inClass (topS 13) 0)) (defBody (inClass (topS 13) 0)) (defScope (inClass (topS 13) 0)) .none kV doc pm an cdv ct) ⟨us, []⟩ = pure ((["self", "index", "what"] : List Str).zip us) := fun _ _ _ _ _ _ us hl => match us, hl with | [_, _, _], _ => rfl
theorem hb12 : ∃ p1 p2 p3 p4, defBody (inClass (topS 14) 0) = [.Assign [.Attribute (.Name "self" p1) "index" p2] (.Name "index" p3) p4] := ⟨_, _, _, _, rfl⟩
theorem sc12 : FnScope ["self", "index"] ["self", "index"] (defScope (inClass (topS 14) 0)) := ⟨rfl, rfl, rfl, by decide +kernel, rfl, by decide +kernel, by decide +kernel⟩
theorem bi12 : ∀ (kV doc pm : Value) (an : Option Addr) (cdv ct : Value) (us : List Value), us.length = (["self", "index"] : List Str).length → bindArgs (PySem.W.fnOf "__init__" "BadText.__init__" (defArgs (inClass (topS 14) 0)) (defBody (inClass (topS 14) 0)) (defScope (inClass (topS 14) 0)) .none kV doc pm an cdv ct) ⟨us, []⟩ = pure ((["self", "index"] : List Str).zip us) := fun _ _ _ _ _ _ us hl => match us, hl with | [_, _], _ => rfl
theorem hb13 : ∃ p1 p2 p3 p4 q1 q2 q3 q4, defBody (inClass (topS 15) 0) = [.Assign [.Attribute (.Name "self" p1) "index" p2] (.Name "index" p3) p4, .Assign [.Attribute (.Name "self" q1) "what" q2] (.Name "what" q3) q4] := ⟨_, _, _, _, _, _, _, _, rfl⟩
theorem bk13 : ∀ (kV doc pm : Value) (an : Option Addr) (cdv ct : Value) (u v1 v2 : Value), bindArgs (PySem.W.fnOf "__init__" "BadAnswers.__init__" (defArgs (inClass (topS 15) 0)) (defBody (inClass (topS 15) 0)) (defScope (inClass (topS 15) 0)) .none kV doc pm an cdv ct) ⟨[u], [("what", v1), ("index", v2)]⟩ = pure [(("self" : Str), u), ("index", v2), ("what", v1)] := fun _ _ _ _ _ _ _ _ _ => rfl
theorem sc13 : FnScope ["self", "index", "what"] ["self", "index", "what"] (defScope (inClass (topS 15) 0)) := ⟨rfl, rfl, rfl, by decide +kernel, rfl, by decide +kernel, by decide +kernel⟩
theorem bi13 : ∀ (kV doc pm : Value) (an : Option Addr) (cdv ct : Value) (us : List Value), us.length = (["self", "index", "what"] : List Str).length → bindArgs (PySem.W.fnOf "__init__" "BadAnswers.__init__" (defArgs (inClass (topS 15) 0)) (defBody (inClass (topS 15) 0)) (defScope (inClass (topS 15) 0)) .none kV doc pm an cdv ct) ⟨us, []⟩ = pure ((["self", "index", "what"] : List Str).zip us) := fun _ _ _ _ _ _ us hl => match us, hl with | [_, _, _], _ => rfl
theorem hb14 : ∃ p1 p2 p3 p4, defBody (inClass (topS 16) 0) = [.Assign [.Attribute (.Name "self" p1) "modulus" p2] (.Name "modulus" p3) p4] := ⟨_, _, _, _, rfl⟩
theorem sc14 : FnScope ["self", "modulus"] ["self", "modulus"] (defScope (inClass (topS 16) 0)) := ⟨rfl, rfl, rfl, by decide +kernel, rfl, by decide +kernel, by decide +kernel⟩
theorem bi14 : ∀ (kV doc pm : Value) (an : Option Addr) (cdv ct : Value) (us : List Value), us.length = (["self", "modulus"] : List Str).length → bindArgs (PySem.W.fnOf "__init__" "BadModulus.__init__" (defArgs (inClass (topS 16) 0)) (defBody (inClass (topS 16) 0)) (defScope (inClass (topS 16) 0)) .none kV doc pm an cdv ct) ⟨us, []⟩ = pure ((["self", "modulus"] : List Str).zip us) := fun _ _ _ _ _ _ us hl => match us, hl with | [_, _], _ => rfl
theorem hb16 : ∃ p1 p2 p3 p4, defBody (inClass (topS 18) 0) = [.Assign [.Attribute (.Name "self" p1) "index" p2] (.Name "index" p3) p4] := ⟨_, _, _, _, rfl⟩
theorem sc16 : FnScope ["self", "index"] ["self", "index"] (defScope (inClass (topS 18) 0)) := ⟨rfl, rfl, rfl, by decide +kernel, rfl, by decide +kernel, by decide +kernel⟩
theorem bi16 : ∀ (kV doc pm : Value) (an : Option Addr) (cdv ct : Value) (us : List Value), us.length = (["self", "index"] : List Str).length → bindArgs (PySem.W.fnOf "__init__" "NotColumns.__init__" (defArgs (inClass (topS 18) 0)) (defBody (inClass (topS 18) 0)) (defScope (inClass (topS 18) 0)) .none kV doc pm an cdv ct) ⟨us, []⟩ = pure ((["self", "index"] : List Str).zip us) := fun _ _ _ _ _ _ us hl => match us, hl with | [_, _], _ => rfl
theorem hb17 : ∃ p1 p2 p3 p4, defBody (inClass (topS 19) 0) = [.Assign [.Attribute (.Name "self" p1) "group" p2] (.Name "group" p3) p4] := ⟨_, _, _, _, rfl⟩
theorem sc17 : FnScope ["self", "group"] ["self", "group"] (defScope (inClass (topS 19) 0)) := ⟨rfl, rfl, rfl, by decide +kernel, rfl, by decide +kernel, by decide +kernel⟩
theorem bi17 : ∀ (kV doc pm : Value) (an : Option Addr) (cdv ct : Value) (us : List Value), us.length = (["self", "group"] : List Str).length → bindArgs (PySem.W.fnOf "__init__" "NoGroup.__init__" (defArgs (inClass (topS 19) 0)) (defBody (inClass (topS 19) 0)) (defScope (inClass (topS 19) 0)) .none kV doc pm an cdv ct) ⟨us, []⟩ = pure ((["self", "group"] : List Str).zip us) := fun _ _ _ _ _ _ us hl => match us, hl with | [_, _], _ => rfl
theorem hb18 : ∃ p1 p2 p3 p4, defBody (inClass (topS 20) 0) = [.Assign [.Attribute (.Name "self" p1) "what" p2] (.Name "what" p3) p4] := ⟨_, _, _, _, rfl⟩
theorem sc18 : FnScope ["self", "what"] ["self", "what"] (defScope (inClass (topS 20) 0)) := ⟨rfl, rfl, rfl, by decide +kernel, rfl, by decide +kernel, by decide +kernel⟩
theorem bi18 : ∀ (kV doc pm : Value) (an : Option Addr) (cdv ct : Value) (us : List Value), us.length = (["self", "what"] : List Str).length → bindArgs (PySem.W.fnOf "__init__" "BadWalk.__init__" (defArgs (inClass (topS 20) 0)) (defBody (inClass (topS 20) 0)) (defScope (inClass (topS 20) 0)) .none kV doc pm an cdv ct) ⟨us, []⟩ = pure ((["self", "what"] : List Str).zip us) := fun _ _ _ _ _ _ us hl => match us, hl with | [_, _], _ => rfl
theorem hb19 : ∃ p1 p2 p3 p4, defBody (inClass (topS 21) 0) = [.Assign [.Attribute (.Name "self" p1) "answer" p2] (.Name "answer" p3) p4] := ⟨_, _, _, _, rfl⟩
theorem sc19 : FnScope ["self", "answer"] ["self", "answer"] (defScope (inClass (topS 21) 0)) := ⟨rfl, rfl, rfl, by decide +kernel, rfl, by decide +kernel, by decide +kernel⟩
theorem bi19 : ∀ (kV doc pm : Value) (an : Option Addr) (cdv ct : Value) (us : List Value), us.length = (["self", "answer"] : List Str).length → bindArgs (PySem.W.fnOf "__init__" "NoAnswer.__init__" (defArgs (inClass (topS 21) 0)) (defBody (inClass (topS 21) 0)) (defScope (inClass (topS 21) 0)) .none kV doc pm an cdv ct) ⟨us, []⟩ = pure ((["self", "answer"] : List Str).zip us) := fun _ _ _ _ _ _ us hl => match us, hl with | [_, _], _ => rfl
theorem hb20 : ∃ p1 p2 p3 p4, defBody (inClass (topS 22) 0) = [.Assign [.Attribute (.Name "self" p1) "letter" p2] (.Name "letter" p3) p4] := ⟨_, _, _, _, rfl⟩
theorem sc20 : FnScope ["self", "letter"] ["self", "letter"] (defScope (inClass (topS 22) 0)) := ⟨rfl, rfl, rfl, by decide +kernel, rfl, by decide +kernel, by decide +kernel⟩
theorem bi20 : ∀ (kV doc pm : Value) (an : Option Addr) (cdv ct : Value) (us : List Value), us.length = (["self", "letter"] : List Str).length → bindArgs (PySem.W.fnOf "__init__" "CantTake.__init__" (defArgs (inClass (topS 22) 0)) (defBody (inClass (topS 22) 0)) (defScope (inClass (topS 22) 0)) .none kV doc pm an cdv ct) ⟨us, []⟩ = pure ((["self", "letter"] : List Str).zip us) := fun _ _ _ _ _ _ us hl => match us, hl with | [_, _], _ => rfl
theorem hb21 : ∃ p1 p2 p3 p4, defBody (inClass (topS 23) 0) = [.Assign [.Attribute (.Name "self" p1) "most" p2] (.Name "most" p3) p4] := ⟨_, _, _, _, rfl⟩
theorem sc21 : FnScope ["self", "most"] ["self", "most"] (defScope (inClass (topS 23) 0)) := ⟨rfl, rfl, rfl, by decide +kernel, rfl, by decide +kernel, by decide +kernel⟩
theorem bi21 : ∀ (kV doc pm : Value) (an : Option Addr) (cdv ct : Value) (us : List Value), us.length = (["self", "most"] : List Str).length → bindArgs (PySem.W.fnOf "__init__" "BadMost.__init__" (defArgs (inClass (topS 23) 0)) (defBody (inClass (topS 23) 0)) (defScope (inClass (topS 23) 0)) .none kV doc pm an cdv ct) ⟨us, []⟩ = pure ((["self", "most"] : List Str).zip us) := fun _ _ _ _ _ _ us hl => match us, hl with | [_, _], _ => rfl
theorem hb22 : ∃ p1 p2 p3 p4, defBody (inClass (topS 24) 0) = [.Assign [.Attribute (.Name "self" p1) "count" p2] (.Name "count" p3) p4] := ⟨_, _, _, _, rfl⟩
theorem sc22 : FnScope ["self", "count"] ["self", "count"] (defScope (inClass (topS 24) 0)) := ⟨rfl, rfl, rfl, by decide +kernel, rfl, by decide +kernel, by decide +kernel⟩
theorem bi22 : ∀ (kV doc pm : Value) (an : Option Addr) (cdv ct : Value) (us : List Value), us.length = (["self", "count"] : List Str).length → bindArgs (PySem.W.fnOf "__init__" "TooMany.__init__" (defArgs (inClass (topS 24) 0)) (defBody (inClass (topS 24) 0)) (defScope (inClass (topS 24) 0)) .none kV doc pm an cdv ct) ⟨us, []⟩ = pure ((["self", "count"] : List Str).zip us) := fun _ _ _ _ _ _ us hl => match us, hl with | [_, _], _ => rfl
theorem hb23 : ∃ p1 p2 p3 p4, defBody (inClass (topS 25) 0) = [.Assign [.Attribute (.Name "self" p1) "what" p2] (.Name "what" p3) p4] := ⟨_, _, _, _, rfl⟩
theorem sc23 : FnScope ["self", "what"] ["self", "what"] (defScope (inClass (topS 25) 0)) := ⟨rfl, rfl, rfl, by decide +kernel, rfl, by decide +kernel, by decide +kernel⟩
theorem bi23 : ∀ (kV doc pm : Value) (an : Option Addr) (cdv ct : Value) (us : List Value), us.length = (["self", "what"] : List Str).length → bindArgs (PySem.W.fnOf "__init__" "BadBudget.__init__" (defArgs (inClass (topS 25) 0)) (defBody (inClass (topS 25) 0)) (defScope (inClass (topS 25) 0)) .none kV doc pm an cdv ct) ⟨us, []⟩ = pure ((["self", "what"] : List Str).zip us) := fun _ _ _ _ _ _ us hl => match us, hl with | [_, _], _ => rfl
theorem hb24 : ∃ p1 p2 p3 p4, defBody (inClass (topS 26) 0) = [.Assign [.Attribute (.Name "self" p1) "index" p2] (.Name "index" p3) p4] := ⟨_, _, _, _, rfl⟩
theorem sc24 : FnScope ["self", "index"] ["self", "index"] (defScope (inClass (topS 26) 0)) := ⟨rfl, rfl, rfl, by decide +kernel, rfl, by decide +kernel, by decide +kernel⟩
theorem bi24 : ∀ (kV doc pm : Value) (an : Option Addr) (cdv ct : Value) (us : List Value), us.length = (["self", "index"] : List Str).length → bindArgs (PySem.W.fnOf "__init__" "BadLines.__init__" (defArgs (inClass (topS 26) 0)) (defBody (inClass (topS 26) 0)) (defScope (inClass (topS 26) 0)) .none kV doc pm an cdv ct) ⟨us, []⟩ = pure ((["self", "index"] : List Str).zip us) := fun _ _ _ _ _ _ us hl => match us, hl with | [_, _], _ => rfl
theorem hb25 : ∃ p1 p2 p3 p4, defBody (inClass (topS 27) 0) = [.Assign [.Attribute (.Name "self" p1) "what" p2] (.Name "what" p3) p4] := ⟨_, _, _, _, rfl⟩
theorem sc25 : FnScope ["self", "what"] ["self", "what"] (defScope (inClass (topS 27) 0)) := ⟨rfl, rfl, rfl, by decide +kernel, rfl, by decide +kernel, by decide +kernel⟩
theorem bi25 : ∀ (kV doc pm : Value) (an : Option Addr) (cdv ct : Value) (us : List Value), us.length = (["self", "what"] : List Str).length → bindArgs (PySem.W.fnOf "__init__" "BadBlock.__init__" (defArgs (inClass (topS 27) 0)) (defBody (inClass (topS 27) 0)) (defScope (inClass (topS 27) 0)) .none kV doc pm an cdv ct) ⟨us, []⟩ = pure ((["self", "what"] : List Str).zip us) := fun _ _ _ _ _ _ us hl => match us, hl with | [_, _], _ => rfl
theorem hb26 : ∃ p1 p2 p3 p4, defBody (inClass (topS 28) 0) = [.Assign [.Attribute (.Name "self" p1) "way" p2] (.Name "way" p3) p4] := ⟨_, _, _, _, rfl⟩
theorem sc26 : FnScope ["self", "way"] ["self", "way"] (defScope (inClass (topS 28) 0)) := ⟨rfl, rfl, rfl, by decide +kernel, rfl, by decide +kernel, by decide +kernel⟩
theorem bi26 : ∀ (kV doc pm : Value) (an : Option Addr) (cdv ct : Value) (us : List Value), us.length = (["self", "way"] : List Str).length → bindArgs (PySem.W.fnOf "__init__" "BadWay.__init__" (defArgs (inClass (topS 28) 0)) (defBody (inClass (topS 28) 0)) (defScope (inClass (topS 28) 0)) .none kV doc pm an cdv ct) ⟨us, []⟩ = pure ((["self", "way"] : List Str).zip us) := fun _ _ _ _ _ _ us hl => match us, hl with | [_, _], _ => rfl
theorem hb27 : ∃ p1 p2 p3 p4, defBody (inClass (topS 29) 0) = [.Assign [.Attribute (.Name "self" p1) "index" p2] (.Name "index" p3) p4] := ⟨_, _, _, _, rfl⟩
theorem sc27 : FnScope ["self", "index"] ["self", "index"] (defScope (inClass (topS 29) 0)) := ⟨rfl, rfl, rfl, by decide +kernel, rfl, by decide +kernel, by decide +kernel⟩
theorem bi27 : ∀ (kV doc pm : Value) (an : Option Addr) (cdv ct : Value) (us : List Value), us.length = (["self", "index"] : List Str).length → bindArgs (PySem.W.fnOf "__init__" "BadPoints.__init__" (defArgs (inClass (topS 29) 0)) (defBody (inClass (topS 29) 0)) (defScope (inClass (topS 29) 0)) .none kV doc pm an cdv ct) ⟨us, []⟩ = pure ((["self", "index"] : List Str).zip us) := fun _ _ _ _ _ _ us hl => match us, hl with | [_, _], _ => rfl
theorem hb28 : ∃ p1 p2 p3 p4 q1 q2 q3 q4, defBody (inClass (topS 30) 0) = [.Assign [.Attribute (.Name "self" p1) "path" p2] (.Name "path" p3) p4, .Assign [.Attribute (.Name "self" q1) "what" q2] (.Name "what" q3) q4] := ⟨_, _, _, _, _, _, _, _, rfl⟩
theorem bk28 : ∀ (kV doc pm : Value) (an : Option Addr) (cdv ct : Value) (u v1 v2 : Value), bindArgs (PySem.W.fnOf "__init__" "BadPlan.__init__" (defArgs (inClass (topS 30) 0)) (defBody (inClass (topS 30) 0)) (defScope (inClass (topS 30) 0)) .none kV doc pm an cdv ct) ⟨[u], [("what", v1), ("path", v2)]⟩ = pure [(("self" : Str), u), ("path", v2), ("what", v1)] := fun _ _ _ _ _ _ _ _ _ => rfl
theorem sc28 : FnScope ["self", "path", "what"] ["self", "path", "what"] (defScope (inClass (topS 30) 0)) := ⟨rfl, rfl, rfl, by decide +kernel, rfl, by decide +kernel, by decide +kernel⟩
theorem bi28 : ∀ (kV doc pm : Value) (an : Option Addr) (cdv ct : Value) (us : List Value), us.length = (["self", "path", "what"] : List Str).length → bindArgs (PySem.W.fnOf "__init__" "BadPlan.__init__" (defArgs (inClass (topS 30) 0)) (defBody (inClass (topS 30) 0)) (defScope (inClass (topS 30) 0)) .none kV doc pm an cdv ct) ⟨us, []⟩ = pure ((["self", "path", "what"] : List Str).zip us) := fun _ _ _ _ _ _ us hl => match us, hl with | [_, _, _], _ => rfl
theorem hb30 : ∃ p1 p2 p3 p4, defBody (inClass (topS 32) 0) = [.Assign [.Attribute (.Name "self" p1) "index" p2] (.Name "index" p3) p4] := ⟨_, _, _, _, rfl⟩
theorem sc30 : FnScope ["self", "index"] ["self", "index"] (defScope (inClass (topS 32) 0)) := ⟨rfl, rfl, rfl, by decide +kernel, rfl, by decide +kernel, by decide +kernel⟩
theorem bi30 : ∀ (kV doc pm : Value) (an : Option Addr) (cdv ct : Value) (us : List Value), us.length = (["self", "index"] : List Str).length → bindArgs (PySem.W.fnOf "__init__" "BadStranger.__init__" (defArgs (inClass (topS 32) 0)) (defBody (inClass (topS 32) 0)) (defScope (inClass (topS 32) 0)) .none kV doc pm an cdv ct) ⟨us, []⟩ = pure ((["self", "index"] : List Str).zip us) := fun _ _ _ _ _ _ us hl => match us, hl with | [_, _], _ => rfl
theorem hb31 : ∃ p1 p2 p3 p4 q1 q2 q3 q4, defBody (inClass (topS 33) 0) = [.Assign [.Attribute (.Name "self" p1) "what" p2] (.Name "what" p3) p4, .Assign [.Attribute (.Name "self" q1) "index" q2] (.Name "index" q3) q4] := ⟨_, _, _, _, _, _, _, _, rfl⟩
theorem bk31 : ∀ (kV doc pm : Value) (an : Option Addr) (cdv ct : Value) (u v1 v2 : Value), bindArgs (PySem.W.fnOf "__init__" "BadPoly.__init__" (defArgs (inClass (topS 33) 0)) (defBody (inClass (topS 33) 0)) (defScope (inClass (topS 33) 0)) .none kV doc pm an cdv ct) ⟨[u], [("index", v1), ("what", v2)]⟩ = pure [(("self" : Str), u), ("what", v2), ("index", v1)] := fun _ _ _ _ _ _ _ _ _ => rfl
theorem sc31 : FnScope ["self", "what", "index"] ["self", "what", "index"] (defScope (inClass (topS 33) 0)) := ⟨rfl, rfl, rfl, by decide +kernel, rfl, by decide +kernel, by decide +kernel⟩
theorem bi31 : ∀ (kV doc pm : Value) (an : Option Addr) (cdv ct : Value) (us : List Value), us.length = (["self", "what", "index"] : List Str).length → bindArgs (PySem.W.fnOf "__init__" "BadPoly.__init__" (defArgs (inClass (topS 33) 0)) (defBody (inClass (topS 33) 0)) (defScope (inClass (topS 33) 0)) .none kV doc pm an cdv ct) ⟨us, []⟩ = pure ((["self", "what", "index"] : List Str).zip us) := fun _ _ _ _ _ _ us hl => match us, hl with | [_, _, _], _ => rfl
theorem hb33 : ∃ p1 p2 p3 p4, defBody (inClass (topS 35) 0) = [.Assign [.Attribute (.Name "self" p1) "index" p2] (.Name "index" p3) p4] := ⟨_, _, _, _, rfl⟩
theorem sc33 : FnScope ["self", "index"] ["self", "index"] (defScope (inClass (topS 35) 0)) := ⟨rfl, rfl, rfl, by decide +kernel, rfl, by decide +kernel, by decide +kernel⟩
theorem bi33 : ∀ (kV doc pm : Value) (an : Option Addr) (cdv ct : Value) (us : List Value), us.length = (["self", "index"] : List Str).length → bindArgs (PySem.W.fnOf "__init__" "BadValues.__init__" (defArgs (inClass (topS 35) 0)) (defBody (inClass (topS 35) 0)) (defScope (inClass (topS 35) 0)) .none kV doc pm an cdv ct) ⟨us, []⟩ = pure ((["self", "index"] : List Str).zip us) := fun _ _ _ _ _ _ us hl => match us, hl with | [_, _], _ => rfl
theorem hb34 : ∃ p1 p2 p3 p4, defBody (inClass (topS 36) 0) = [.Assign [.Attribute (.Name "self" p1) "entry" p2] (.Name "entry" p3) p4] := ⟨_, _, _, _, rfl⟩
theorem sc34 : FnScope ["self", "entry"] ["self", "entry"] (defScope (inClass (topS 36) 0)) := ⟨rfl, rfl, rfl, by decide +kernel, rfl, by decide +kernel, by decide +kernel⟩
theorem bi34 : ∀ (kV doc pm : Value) (an : Option Addr) (cdv ct : Value) (us : List Value), us.length = (["self", "entry"] : List Str).length → bindArgs (PySem.W.fnOf "__init__" "NoEntry.__init__" (defArgs (inClass (topS 36) 0)) (defBody (inClass (topS 36) 0)) (defScope (inClass (topS 36) 0)) .none kV doc pm an cdv ct) ⟨us, []⟩ = pure ((["self", "entry"] : List Str).zip us) := fun _ _ _ _ _ _ us hl => match us, hl with | [_, _], _ => rfl
theorem hb35 : ∃ p1 p2 p3 p4, defBody (inClass (topS 37) 0) = [.Assign [.Attribute (.Name "self" p1) "result" p2] (.Name "result" p3) p4] := ⟨_, _, _, _, rfl⟩
theorem sc35 : FnScope ["self", "result"] ["self", "result"] (defScope (inClass (topS 37) 0)) := ⟨rfl, rfl, rfl, by decide +kernel, rfl, by decide +kernel, by decide +kernel⟩
theorem bi35 : ∀ (kV doc pm : Value) (an : Option Addr) (cdv ct : Value) (us : List Value), us.length = (["self", "result"] : List Str).length → bindArgs (PySem.W.fnOf "__init__" "NoResult.__init__" (defArgs (inClass (topS 37) 0)) (defBody (inClass (topS 37) 0)) (defScope (inClass (topS 37) 0)) .none kV doc pm an cdv ct) ⟨us, []⟩ = pure ((["self", "result"] : List Str).zip us) := fun _ _ _ _ _ _ us hl => match us, hl with | [_, _], _ => rfl
theorem hb36 : ∃ p1 p2 p3 p4 q1 q2 q3 q4, defBody (inClass (topS 38) 0) = [.Assign [.Attribute (.Name "self" p1) "what" p2] (.Name "what" p3) p4, .Assign [.Attribute (.Name "self" q1) "index" q2] (.Name "index" q3) q4] := ⟨_, _, _, _, _, _, _, _, rfl⟩
theorem bk36 : ∀ (kV doc pm : Value) (an : Option Addr) (cdv ct : Value) (u v1 v2 : Value), bindArgs (PySem.W.fnOf "__init__" "BadProgram.__init__" (defArgs (inClass (topS 38) 0)) (defBody (inClass (topS 38) 0)) (defScope (inClass (topS 38) 0)) .none kV doc pm an cdv ct) ⟨[u], [("index", v1), ("what", v2)]⟩ = pure [(("self" : Str), u), ("what", v2), ("index", v1)] := fun _ _ _ _ _ _ _ _ _ => rfl
theorem sc36 : FnScope ["self", "what", "index"] ["self", "what", "index"] (defScope (inClass (topS 38) 0)) := ⟨rfl, rfl, rfl, by decide +kernel, rfl, by decide +kernel, by decide +kernel⟩
theorem bi36 : ∀ (kV doc pm : Value) (an : Option Addr) (cdv ct : Value) (us : List Value), us.length = (["self", "what", "index"] : List Str).length → bindArgs (PySem.W.fnOf "__init__" "BadProgram.__init__" (defArgs (inClass (topS 38) 0)) (defBody (inClass (topS 38) 0)) (defScope (inClass (topS 38) 0)) .none kV doc pm an cdv ct) ⟨us, []⟩ = pure ((["self", "what", "index"] : List Str).zip us) := fun _ _ _ _ _ _ us hl => match us, hl with | [_, _, _], _ => rfl
theorem hb38 : ∃ p1 p2 p3 p4, defBody (inClass (topS 40) 0) = [.Assign [.Attribute (.Name "self" p1) "index" p2] (.Name "index" p3) p4] := ⟨_, _, _, _, rfl⟩
theorem sc38 : FnScope ["self", "index"] ["self", "index"] (defScope (inClass (topS 40) 0)) := ⟨rfl, rfl, rfl, by decide +kernel, rfl, by decide +kernel, by decide +kernel⟩
theorem bi38 : ∀ (kV doc pm : Value) (an : Option Addr) (cdv ct : Value) (us : List Value), us.length = (["self", "index"] : List Str).length → bindArgs (PySem.W.fnOf "__init__" "BadAlong.__init__" (defArgs (inClass (topS 40) 0)) (defBody (inClass (topS 40) 0)) (defScope (inClass (topS 40) 0)) .none kV doc pm an cdv ct) ⟨us, []⟩ = pure ((["self", "index"] : List Str).zip us) := fun _ _ _ _ _ _ us hl => match us, hl with | [_, _], _ => rfl
theorem hb39 : ∃ p1 p2 p3 p4, defBody (inClass (topS 41) 0) = [.Assign [.Attribute (.Name "self" p1) "many" p2] (.Name "many" p3) p4] := ⟨_, _, _, _, rfl⟩
theorem sc39 : FnScope ["self", "many"] ["self", "many"] (defScope (inClass (topS 41) 0)) := ⟨rfl, rfl, rfl, by decide +kernel, rfl, by decide +kernel, by decide +kernel⟩
theorem bi39 : ∀ (kV doc pm : Value) (an : Option Addr) (cdv ct : Value) (us : List Value), us.length = (["self", "many"] : List Str).length → bindArgs (PySem.W.fnOf "__init__" "TooGreat.__init__" (defArgs (inClass (topS 41) 0)) (defBody (inClass (topS 41) 0)) (defScope (inClass (topS 41) 0)) .none kV doc pm an cdv ct) ⟨us, []⟩ = pure ((["self", "many"] : List Str).zip us) := fun _ _ _ _ _ _ us hl => match us, hl with | [_, _], _ => rfl
theorem hb41 : ∃ p1 p2 p3 p4 q1 q2 q3 q4, defBody (inClass (topS 43) 0) = [.Assign [.Attribute (.Name "self" p1) "index" p2] (.Name "index" p3) p4, .Assign [.Attribute (.Name "self" q1) "what" q2] (.Name "what" q3) q4] := ⟨_, _, _, _, _, _, _, _, rfl⟩
theorem bk41 : ∀ (kV doc pm : Value) (an : Option Addr) (cdv ct : Value) (u v1 v2 : Value), bindArgs (PySem.W.fnOf "__init__" "BadEdit.__init__" (defArgs (inClass (topS 43) 0)) (defBody (inClass (topS 43) 0)) (defScope (inClass (topS 43) 0)) .none kV doc pm an cdv ct) ⟨[u], [("what", v1), ("index", v2)]⟩ = pure [(("self" : Str), u), ("index", v2), ("what", v1)] := fun _ _ _ _ _ _ _ _ _ => rfl
theorem sc41 : FnScope ["self", "index", "what"] ["self", "index", "what"] (defScope (inClass (topS 43) 0)) := ⟨rfl, rfl, rfl, by decide +kernel, rfl, by decide +kernel, by decide +kernel⟩
theorem bi41 : ∀ (kV doc pm : Value) (an : Option Addr) (cdv ct : Value) (us : List Value), us.length = (["self", "index", "what"] : List Str).length → bindArgs (PySem.W.fnOf "__init__" "BadEdit.__init__" (defArgs (inClass (topS 43) 0)) (defBody (inClass (topS 43) 0)) (defScope (inClass (topS 43) 0)) .none kV doc pm an cdv ct) ⟨us, []⟩ = pure ((["self", "index", "what"] : List Str).zip us) := fun _ _ _ _ _ _ us hl => match us, hl with | [_, _, _], _ => rfl
theorem hb42 : ∃ p1 p2 p3 p4, defBody (inClass (topS 44) 0) = [.Assign [.Attribute (.Name "self" p1) "what" p2] (.Name "what" p3) p4] := ⟨_, _, _, _, rfl⟩
theorem sc42 : FnScope ["self", "what"] ["self", "what"] (defScope (inClass (topS 44) 0)) := ⟨rfl, rfl, rfl, by decide +kernel, rfl, by decide +kernel, by decide +kernel⟩
theorem bi42 : ∀ (kV doc pm : Value) (an : Option Addr) (cdv ct : Value) (us : List Value), us.length = (["self", "what"] : List Str).length → bindArgs (PySem.W.fnOf "__init__" "BadGoal.__init__" (defArgs (inClass (topS 44) 0)) (defBody (inClass (topS 44) 0)) (defScope (inClass (topS 44) 0)) .none kV doc pm an cdv ct) ⟨us, []⟩ = pure ((["self", "what"] : List Str).zip us) := fun _ _ _ _ _ _ us hl => match us, hl with | [_, _], _ => rfl
theorem hb44 : ∃ p1 p2 p3 p4, defBody (inClass (topS 46) 0) = [.Assign [.Attribute (.Name "self" p1) "weights" p2] (.Name "weights" p3) p4] := ⟨_, _, _, _, rfl⟩
theorem sc44 : FnScope ["self", "weights"] ["self", "weights"] (defScope (inClass (topS 46) 0)) := ⟨rfl, rfl, rfl, by decide +kernel, rfl, by decide +kernel, by decide +kernel⟩
theorem bi44 : ∀ (kV doc pm : Value) (an : Option Addr) (cdv ct : Value) (us : List Value), us.length = (["self", "weights"] : List Str).length → bindArgs (PySem.W.fnOf "__init__" "Clashing.__init__" (defArgs (inClass (topS 46) 0)) (defBody (inClass (topS 46) 0)) (defScope (inClass (topS 46) 0)) .none kV doc pm an cdv ct) ⟨us, []⟩ = pure ((["self", "weights"] : List Str).zip us) := fun _ _ _ _ _ _ us hl => match us, hl with | [_, _], _ => rfl
end Hd
set_option Elab.async false
set_option linter.all false
set_option maxRecDepth 100000
set_option maxHeartbeats 1000000
namespace Hd
open PySem PySem.Spec PyProof.Rows L2 Gk He
section
variable {K : PySem.W.Frag} {mg : Str → Option Value} {h : Heap} {S C : Addr} {nm f g ql : Str} {stm : Stmt}
theorem rowB_ok (h : Hx.rowB K S C nm = true) : ∃ q N bs sn sub ab col dd k0 k1 k2 k3 k5, K.lookup C = some (excClassObj nm q C N bs [.ref S, .type "ValueError", .type "Exception", .type "BaseException", .type "object"] true sn sub ab col dd k0 k1 k2 k3 k5 "ValueError.__new__") := by
  unfold Hx.rowB at h
  cases e : K.lookup C with
  | none =>
    rw [e] at h
    cases h
  | some u =>
    rw [e] at h
    obtain ⟨oc, od, dt, osl⟩ := u
    cases oc with
    | type t =>
      cases dt with
      | cls cd =>
        obtain ⟨a1, h1⟩ := ba h
        obtain ⟨a2, h2⟩ := ba h1
        obtain ⟨a3, h3⟩ := ba h2
        obtain ⟨a4, h4⟩ := ba h3
        obtain ⟨a5, h5⟩ := ba h4
        obtain ⟨m1, m2, m3, m4, m5, m6, m7, m8, m9, m10, m11⟩ := cd
        obtain ⟨l⟩ := osl
        have b1 := of_decide_eq_true a1
        have b2 : m1 = nm := of_decide_eq_true a2
        have b3 : m3 = _ := of_decide_eq_true a3
        have b4 : m6 = true := a4
        have b5 : m11 = false := by
          cases z : m11 with
          | false => rfl
          | true =>
            rw [z] at a5
            cases a5
        have b6 : (match (generalizing := false) l with
          | [_, _, _, _, some (.builtin n), _] => decide (n = "ValueError.__new__")
          | _ => false) = true := h5
        subst b1 b2 b3 b4 b5
        split at b6
        · have b7 := of_decide_eq_true b6
          subst b7
          exact ⟨_, _, _, _, _, _, _, _, _, _, _, _, _, rfl⟩
        · cases b6
      | _ => cases h
    | _ => cases dt <;> cases h
theorem find_ok {r : Option Value} (h : Hx.findB K C f r = true) : PySem.W.findIn K (.ref C) f = some r := eqO_ok h
theorem mk0_of (X : K.In h) (G : h.Ns mainGlobals mg) (gl : (Fa.glo nm).ok K = true) (c : Hx.nulB K nm = true) : E0 K mg (ga K "SlopeError") (ga K nm) nm := by
  obtain ⟨c, ex⟩ := ba c
  obtain ⟨r, c1⟩ := ba c
  obtain ⟨sa, c2⟩ := ba c1
  obtain ⟨gt, c3⟩ := ba c2
  obtain ⟨gg, c4⟩ := ba c3
  obtain ⟨cl, kp⟩ := ba c4
  obtain ⟨q, N, bs, sn, sub, ab, col, dd, k0, k1, k2, k3, k5, row⟩ := rowB_ok r
  exact mkE0 X G (eqO_ok gl) row (find_ok sa) (find_ok gt) (find_ok gg) (find_ok cl) kp ex
theorem mk1_of (X : K.In h) (G : h.Ns mainGlobals mg) (gl : (Fa.glo nm).ok K = true) (c : Hx.oneB K (nm, f) = true)
    (F : ∃ fd, FunD K "__init__" ql (defArgs stm) (defBody stm) (defScope stm) [] [] (ma K (ga K nm) "__init__") fd)
    (hb : ∃ p1 p2 p3 p4, defBody stm = [.Assign [.Attribute (.Name "self" p1) f p2] (.Name f p3) p4]) (sc : FnScope ["self", f] ["self", f] (defScope stm))
    (h1 : (f == ("__debug__" : Str)) = false) (h2 : (f == ("__classdict__" : Str)) = false)
    (bi : ∀ (kV doc pm : Value) (an : Option Addr) (cdv ct : Value) (us : List Value), us.length = (["self", f] : List Str).length → bindArgs (PySem.W.fnOf "__init__" ql (defArgs stm) (defBody stm) (defScope stm) .none kV doc pm an cdv ct) ⟨us, []⟩ = pure ((["self", f] : List Str).zip us)) :
    E1 K mg (ga K "SlopeError") (ga K nm) nm f := by
  obtain ⟨c, d⟩ := ba c
  obtain ⟨no, d2⟩ := ba d
  obtain ⟨iC, tI⟩ := ba d2
  obtain ⟨r, c1⟩ := ba c
  obtain ⟨sa, c2⟩ := ba c1
  obtain ⟨gt, c3⟩ := ba c2
  obtain ⟨gg, c4⟩ := ba c3
  obtain ⟨cl, kp⟩ := ba c4
  obtain ⟨q, N, bs, sn, sub, ab, col, dd, k0, k1, k2, k3, k5, row⟩ := rowB_ok r
  obtain ⟨fd, F⟩ := F
  obtain ⟨oc, od, dV, kV, doc, pm, an, cdv, ct, osl, e, l, cc, dfl, kwd⟩ := F.ex
  have dn : dV = .none := by
    rcases dfl with ⟨_, z⟩ | ⟨z, _⟩
    · exact z
    · exact absurd rfl z
  subst dn
  rw [e] at l
  exact mkE1 X G (eqO_ok gl) row (find_ok sa) (find_ok gt) (find_ok gg) (find_ok cl) kp (find_ok no) (find_ok iC) (of_decide_eq_true tI) l cc F.kp hb sc h1 h2 bi
theorem mk2_of (X : K.In h) (G : h.Ns mainGlobals mg) (gl : (Fa.glo nm).ok K = true) (c : Hx.twoB K (nm, f, g) = true)
    (F : ∃ fd, FunD K "__init__" ql (defArgs stm) (defBody stm) (defScope stm) [] [] (ma K (ga K nm) "__init__") fd)
    (hb : ∃ p1 p2 p3 p4 q1 q2 q3 q4, defBody stm = [.Assign [.Attribute (.Name "self" p1) f p2] (.Name f p3) p4, .Assign [.Attribute (.Name "self" q1) g q2] (.Name g q3) q4]) (sc : FnScope ["self", f, g] ["self", f, g] (defScope stm))
    (h1 : (f == ("__debug__" : Str)) = false) (h2 : (f == ("__classdict__" : Str)) = false) (i1 : (g == ("__debug__" : Str)) = false) (i2 : (g == ("__classdict__" : Str)) = false)
    (bi : ∀ (kV doc pm : Value) (an : Option Addr) (cdv ct : Value) (us : List Value), us.length = (["self", f, g] : List Str).length → bindArgs (PySem.W.fnOf "__init__" ql (defArgs stm) (defBody stm) (defScope stm) .none kV doc pm an cdv ct) ⟨us, []⟩ = pure ((["self", f, g] : List Str).zip us))
    (bk : ∀ (kV doc pm : Value) (an : Option Addr) (cdv ct : Value) (u v1 v2 : Value), bindArgs (PySem.W.fnOf "__init__" ql (defArgs stm) (defBody stm) (defScope stm) .none kV doc pm an cdv ct) ⟨[u], [(g, v1), (f, v2)]⟩ = pure [(("self" : Str), u), (f, v2), (g, v1)]) :
    E2 K mg (ga K "SlopeError") (ga K nm) nm f g := by
  obtain ⟨c, d⟩ := ba c
  obtain ⟨no, d1⟩ := ba d
  obtain ⟨no2, d2⟩ := ba d1
  obtain ⟨iC, tI⟩ := ba d2
  obtain ⟨r, c1⟩ := ba c
  obtain ⟨sa, c2⟩ := ba c1
  obtain ⟨gt, c3⟩ := ba c2
  obtain ⟨gg, c4⟩ := ba c3
  obtain ⟨cl, kp⟩ := ba c4
  obtain ⟨q, N, bs, sn, sub, ab, col, dd, k0, k1, k2, k3, k5, row⟩ := rowB_ok r
  obtain ⟨fd, F⟩ := F
  obtain ⟨oc, od, dV, kV, doc, pm, an, cdv, ct, osl, e, l, cc, dfl, kwd⟩ := F.ex
  have dn : dV = .none := by
    rcases dfl with ⟨_, z⟩ | ⟨z, _⟩
    · exact z
    · exact absurd rfl z
  subst dn
  rw [e] at l
  exact mkE2 X G (eqO_ok gl) row (find_ok sa) (find_ok gt) (find_ok gg) (find_ok cl) kp (find_ok no) (find_ok no2) (find_ok iC) (of_decide_eq_true tI) l cc F.kp hb sc h1 h2 i1 i2 bi bk
theorem fun_of {x : Str} {a : Addr} (F : ∃ fd, FunD K x x (defArgs stm) (defBody stm) (defScope stm) [] [] a fd) : ∃ fd, Fun K x x stm a fd := by
  obtain ⟨fd, F⟩ := F
  obtain ⟨oc, od, dV, kV, doc, pm, an, cdv, ct, osl, e, l, cc, dfl, kwd⟩ := F.ex
  have dn : dV = .none := by
    rcases dfl with ⟨_, z⟩ | ⟨z, _⟩
    · exact z
    · exact absurd rfl z
  subst dn
  rw [e] at l
  exact ⟨_, fun_mk (st := stm) l cc F.kp⟩
theorem law_of {a : Addr} (F : ∃ fd, FunD K "law" "law" (defArgs sLaw) (defBody sLaw) (defScope sLaw) [] [] a fd) : ∃ fd, Fun K "law" "law" sLaw a fd ∧ ∀ (s : Shared) (u : Value), BindsTo s fd ⟨[u], []⟩ [("_law_script", u)] := by
  obtain ⟨fd, F⟩ := F
  obtain ⟨oc, od, dV, kV, doc, pm, an, cdv, ct, osl, e, l, cc, dfl, kwd⟩ := F.ex
  have dn : dV = .none := by
    rcases dfl with ⟨_, z⟩ | ⟨z, _⟩
    · exact z
    · exact absurd rfl z
  subst dn
  rw [e] at l
  exact ⟨_, fun_mk (st := sLaw) l cc F.kp, fun s u => .of_eq rfl⟩
end
theorem walk_E {l : PySem.W.OpenLaw} {n k : Nat} {q : Program} {loose : List Str} {XP : (Str → Option Value) → Heap → Prop} {YP : World → Heap → Prop} {d : DefRec} {CX : CXT} {x : Str}
    (hn : l.most = some n) (hn2 : n ≤ sizeLine) (hdf : d.params.defaults = []) (rm : Room k callerA)
    (F : ∀ (w : World) (mg : Str → Option Value) (fa : Addr) (h : Heap), YP w h → h.Ns mainGlobals mg → mg d.name = some (.ref fa) →
      ∃ (K : PySem.W.Frag) (sp : Sp) (fd : FuncData), K.In h ∧ (∀ (s : Shared) (u : Value), BindsTo s fd ⟨[u], []⟩ [(x, u)]) ∧
        (∀ (H : Hp) (a : Addr) (ns : List Int), ns.length ≤ n → (∀ z ∈ ns, Builtin.Int.intBits z ≤ 1048576) → Only H → SqL K H a (ns.map V.int) → sp [.ref a] H (fun v _ => v = .bl true) fun _ _ _ => False) ∧
        ∀ base : Heap, K.In base → base.Ns mainGlobals mg → GOk l.prog w K mg base CX k fa fd [x] sp)
    (hCX : ∀ (H : Hp) (s : Shared) (e : Value) (s' : Shared), CX [] H s (fun _ _ _ => False) e s' → False) :
    PySem.W.WalkO q loose XP YP l.row.toRowW d [] (fun f vs => PySem.call f vs) := by
  refine Att.attach_callB hn hdf ?_
  intro w s0 s1 mg mb fa o pm cd doc a vs ns Gr Y ho hd hcd hmg hobj hints hlen hbits hg
  obtain ⟨K, sp, fd, KX, hb, hsp, hF⟩ := F w mg fa _ Y Gr.T.g hmg
  exact end_call KX Gr.T.g Gr.T.b Gr.T.builtins Gr.T.nolimit hg hobj hints (Nat.le_trans hlen hn2) rm hF hb
    (fun H hO hS => hsp H a ns hlen hbits hO hS) (fun H e s' => hCX H s1 e s')
theorem facts {P : Program} {w : World} {K : PySem.W.Frag} {h : Heap} {mg : Str → Option Value} {fa : Addr} (KX : K.In h) (G : h.Ns mainGlobals mg) (hmg : mg ("law" : Str) = some (.ref fa)) (c : Hx.SaysH K) :
    ∃ fd : FuncData, (∀ (s : Shared) (u : Value), BindsTo s fd ⟨[u], []⟩ [("_law_script", u)]) ∧ ∀ base : Heap, K.In base → base.Ns mainGlobals mg → GOk P w K mg base CX0 5 fa fd ["_law_script"] (spLaw K) := by
  obtain ⟨cd, cx⟩ := c
  obtain ⟨cw, cx⟩ := ba cx
  obtain ⟨c1, cx⟩ := ba cx
  obtain ⟨c2, c0⟩ := ba cx
  obtain ⟨w1, cw⟩ := ba cw
  obtain ⟨w2, cw⟩ := ba cw
  obtain ⟨w3, cw⟩ := ba cw
  obtain ⟨w4, cw⟩ := ba cw
  obtain ⟨w5, w6⟩ := ba cw
  have d1 := List.all_eq_true.mp c1
  have d2 := List.all_eq_true.mp c2
  have d0 := List.all_eq_true.mp c0
  have e0 := mk1_of (nm := "BadRatio") (f := "what") (ql := "BadRatio.__init__") (stm := inClass (topS 2) 0) KX G (cd.fact 1 (f := .glo "BadRatio") rfl) (d1 ("BadRatio", "what") (List.mem_of_getElem? (i := 0) rfl)) (cd.def_ 10 (d := Hx.dIn "BadRatio" "BadRatio.__init__" 2) rfl) hb0 sc0 (by decide) (by decide) bi0
  have e1 := mk2_of (nm := "BadMould") (f := "what") (g := "index") (ql := "BadMould.__init__") (stm := inClass (topS 3) 0) KX G (cd.fact 32 (f := .glo "BadMould") rfl) (d2 ("BadMould", "what", "index") (List.mem_of_getElem? (i := 0) rfl)) (cd.def_ 41 (d := Hx.dIn "BadMould" "BadMould.__init__" 3) rfl) hb1 sc1 (by decide) (by decide) (by decide) (by decide) bi1 bk1
  have e2 := mk1_of (nm := "BadLetter") (f := "letter") (ql := "BadLetter.__init__") (stm := inClass (topS 4) 0) KX G (cd.fact 2 (f := .glo "BadLetter") rfl) (d1 ("BadLetter", "letter") (List.mem_of_getElem? (i := 1) rfl)) (cd.def_ 11 (d := Hx.dIn "BadLetter" "BadLetter.__init__" 4) rfl) hb2 sc2 (by decide) (by decide) bi2
  have e3 := mk1_of (nm := "BadNumbers") (f := "index") (ql := "BadNumbers.__init__") (stm := inClass (topS 5) 0) KX G (cd.fact 3 (f := .glo "BadNumbers") rfl) (d1 ("BadNumbers", "index") (List.mem_of_getElem? (i := 2) rfl)) (cd.def_ 12 (d := Hx.dIn "BadNumbers" "BadNumbers.__init__" 5) rfl) hb3 sc3 (by decide) (by decide) bi3
  have e4 := mk1_of (nm := "BadCell") (f := "cell") (ql := "BadCell.__init__") (stm := inClass (topS 6) 0) KX G (cd.fact 4 (f := .glo "BadCell") rfl) (d1 ("BadCell", "cell") (List.mem_of_getElem? (i := 3) rfl)) (cd.def_ 13 (d := Hx.dIn "BadCell" "BadCell.__init__" 6) rfl) hb4 sc4 (by decide) (by decide) bi4
  have e5 := mk1_of (nm := "BadOrder") (f := "what") (ql := "BadOrder.__init__") (stm := inClass (topS 7) 0) KX G (cd.fact 5 (f := .glo "BadOrder") rfl) (d1 ("BadOrder", "what") (List.mem_of_getElem? (i := 4) rfl)) (cd.def_ 14 (d := Hx.dIn "BadOrder" "BadOrder.__init__" 7) rfl) hb5 sc5 (by decide) (by decide) bi5
  have e6 := mk2_of (nm := "BadWeb") (f := "what") (g := "index") (ql := "BadWeb.__init__") (stm := inClass (topS 8) 0) KX G (cd.fact 33 (f := .glo "BadWeb") rfl) (d2 ("BadWeb", "what", "index") (List.mem_of_getElem? (i := 1) rfl)) (cd.def_ 42 (d := Hx.dIn "BadWeb" "BadWeb.__init__" 8) rfl) hb6 sc6 (by decide) (by decide) (by decide) (by decide) bi6 bk6
  have e7 := mk1_of (nm := "BadPoint") (f := "point") (ql := "BadPoint.__init__") (stm := inClass (topS 9) 0) KX G (cd.fact 6 (f := .glo "BadPoint") rfl) (d1 ("BadPoint", "point") (List.mem_of_getElem? (i := 5) rfl)) (cd.def_ 15 (d := Hx.dIn "BadPoint" "BadPoint.__init__" 9) rfl) hb7 sc7 (by decide) (by decide) bi7
  have e8 := mk1_of (nm := "BadTie") (f := "tie") (ql := "BadTie.__init__") (stm := inClass (topS 10) 0) KX G (cd.fact 7 (f := .glo "BadTie") rfl) (d1 ("BadTie", "tie") (List.mem_of_getElem? (i := 6) rfl)) (cd.def_ 16 (d := Hx.dIn "BadTie" "BadTie.__init__" 10) rfl) hb8 sc8 (by decide) (by decide) bi8
  have e9 := mk1_of (nm := "BadGrouping") (f := "index") (ql := "BadGrouping.__init__") (stm := inClass (topS 11) 0) KX G (cd.fact 8 (f := .glo "BadGrouping") rfl) (d1 ("BadGrouping", "index") (List.mem_of_getElem? (i := 7) rfl)) (cd.def_ 17 (d := Hx.dIn "BadGrouping" "BadGrouping.__init__" 11) rfl) hb9 sc9 (by decide) (by decide) bi9
  have e10 := mk1_of (nm := "BadCount") (f := "count") (ql := "BadCount.__init__") (stm := inClass (topS 12) 0) KX G (cd.fact 9 (f := .glo "BadCount") rfl) (d1 ("BadCount", "count") (List.mem_of_getElem? (i := 8) rfl)) (cd.def_ 18 (d := Hx.dIn "BadCount" "BadCount.__init__" 12) rfl) hb10 sc10 (by decide) (by decide) bi10
  have e11 := mk2_of (nm := "BadAsk") (f := "index") (g := "what") (ql := "BadAsk.__init__") (stm := inClass (topS 13) 0) KX G (cd.fact 34 (f := .glo "BadAsk") rfl) (d2 ("BadAsk", "index", "what") (List.mem_of_getElem? (i := 2) rfl)) (cd.def_ 43 (d := Hx.dIn "BadAsk" "BadAsk.__init__" 13) rfl) hb11 sc11 (by decide) (by decide) (by decide) (by decide) bi11 bk11
  have e12 := mk1_of (nm := "BadText") (f := "index") (ql := "BadText.__init__") (stm := inClass (topS 14) 0) KX G (cd.fact 10 (f := .glo "BadText") rfl) (d1 ("BadText", "index") (List.mem_of_getElem? (i := 9) rfl)) (cd.def_ 19 (d := Hx.dIn "BadText" "BadText.__init__" 14) rfl) hb12 sc12 (by decide) (by decide) bi12
  have e13 := mk2_of (nm := "BadAnswers") (f := "index") (g := "what") (ql := "BadAnswers.__init__") (stm := inClass (topS 15) 0) KX G (cd.fact 35 (f := .glo "BadAnswers") rfl) (d2 ("BadAnswers", "index", "what") (List.mem_of_getElem? (i := 3) rfl)) (cd.def_ 44 (d := Hx.dIn "BadAnswers" "BadAnswers.__init__" 15) rfl) hb13 sc13 (by decide) (by decide) (by decide) (by decide) bi13 bk13
  have e14 := mk1_of (nm := "BadModulus") (f := "modulus") (ql := "BadModulus.__init__") (stm := inClass (topS 16) 0) KX G (cd.fact 11 (f := .glo "BadModulus") rfl) (d1 ("BadModulus", "modulus") (List.mem_of_getElem? (i := 10) rfl)) (cd.def_ 20 (d := Hx.dIn "BadModulus" "BadModulus.__init__" 16) rfl) hb14 sc14 (by decide) (by decide) bi14
  have e15 := mk0_of (nm := "NotFree") KX G (cd.fact 40 (f := .glo "NotFree") rfl) (d0 "NotFree" (List.mem_of_getElem? (i := 0) rfl))
  have e16 := mk1_of (nm := "NotColumns") (f := "index") (ql := "NotColumns.__init__") (stm := inClass (topS 18) 0) KX G (cd.fact 12 (f := .glo "NotColumns") rfl) (d1 ("NotColumns", "index") (List.mem_of_getElem? (i := 11) rfl)) (cd.def_ 21 (d := Hx.dIn "NotColumns" "NotColumns.__init__" 18) rfl) hb16 sc16 (by decide) (by decide) bi16
  have e17 := mk1_of (nm := "NoGroup") (f := "group") (ql := "NoGroup.__init__") (stm := inClass (topS 19) 0) KX G (cd.fact 13 (f := .glo "NoGroup") rfl) (d1 ("NoGroup", "group") (List.mem_of_getElem? (i := 12) rfl)) (cd.def_ 22 (d := Hx.dIn "NoGroup" "NoGroup.__init__" 19) rfl) hb17 sc17 (by decide) (by decide) bi17
  have e18 := mk1_of (nm := "BadWalk") (f := "what") (ql := "BadWalk.__init__") (stm := inClass (topS 20) 0) KX G (cd.fact 14 (f := .glo "BadWalk") rfl) (d1 ("BadWalk", "what") (List.mem_of_getElem? (i := 13) rfl)) (cd.def_ 23 (d := Hx.dIn "BadWalk" "BadWalk.__init__" 20) rfl) hb18 sc18 (by decide) (by decide) bi18
  have e19 := mk1_of (nm := "NoAnswer") (f := "answer") (ql := "NoAnswer.__init__") (stm := inClass (topS 21) 0) KX G (cd.fact 15 (f := .glo "NoAnswer") rfl) (d1 ("NoAnswer", "answer") (List.mem_of_getElem? (i := 14) rfl)) (cd.def_ 24 (d := Hx.dIn "NoAnswer" "NoAnswer.__init__" 21) rfl) hb19 sc19 (by decide) (by decide) bi19
  have e20 := mk1_of (nm := "CantTake") (f := "letter") (ql := "CantTake.__init__") (stm := inClass (topS 22) 0) KX G (cd.fact 16 (f := .glo "CantTake") rfl) (d1 ("CantTake", "letter") (List.mem_of_getElem? (i := 15) rfl)) (cd.def_ 25 (d := Hx.dIn "CantTake" "CantTake.__init__" 22) rfl) hb20 sc20 (by decide) (by decide) bi20
  have e21 := mk1_of (nm := "BadMost") (f := "most") (ql := "BadMost.__init__") (stm := inClass (topS 23) 0) KX G (cd.fact 17 (f := .glo "BadMost") rfl) (d1 ("BadMost", "most") (List.mem_of_getElem? (i := 16) rfl)) (cd.def_ 26 (d := Hx.dIn "BadMost" "BadMost.__init__" 23) rfl) hb21 sc21 (by decide) (by decide) bi21
  have e22 := mk1_of (nm := "TooMany") (f := "count") (ql := "TooMany.__init__") (stm := inClass (topS 24) 0) KX G (cd.fact 18 (f := .glo "TooMany") rfl) (d1 ("TooMany", "count") (List.mem_of_getElem? (i := 17) rfl)) (cd.def_ 27 (d := Hx.dIn "TooMany" "TooMany.__init__" 24) rfl) hb22 sc22 (by decide) (by decide) bi22
  have e23 := mk1_of (nm := "BadBudget") (f := "what") (ql := "BadBudget.__init__") (stm := inClass (topS 25) 0) KX G (cd.fact 19 (f := .glo "BadBudget") rfl) (d1 ("BadBudget", "what") (List.mem_of_getElem? (i := 18) rfl)) (cd.def_ 28 (d := Hx.dIn "BadBudget" "BadBudget.__init__" 25) rfl) hb23 sc23 (by decide) (by decide) bi23
  have e24 := mk1_of (nm := "BadLines") (f := "index") (ql := "BadLines.__init__") (stm := inClass (topS 26) 0) KX G (cd.fact 20 (f := .glo "BadLines") rfl) (d1 ("BadLines", "index") (List.mem_of_getElem? (i := 19) rfl)) (cd.def_ 29 (d := Hx.dIn "BadLines" "BadLines.__init__" 26) rfl) hb24 sc24 (by decide) (by decide) bi24
  have e25 := mk1_of (nm := "BadBlock") (f := "what") (ql := "BadBlock.__init__") (stm := inClass (topS 27) 0) KX G (cd.fact 21 (f := .glo "BadBlock") rfl) (d1 ("BadBlock", "what") (List.mem_of_getElem? (i := 20) rfl)) (cd.def_ 30 (d := Hx.dIn "BadBlock" "BadBlock.__init__" 27) rfl) hb25 sc25 (by decide) (by decide) bi25
  have e26 := mk1_of (nm := "BadWay") (f := "way") (ql := "BadWay.__init__") (stm := inClass (topS 28) 0) KX G (cd.fact 22 (f := .glo "BadWay") rfl) (d1 ("BadWay", "way") (List.mem_of_getElem? (i := 21) rfl)) (cd.def_ 31 (d := Hx.dIn "BadWay" "BadWay.__init__" 28) rfl) hb26 sc26 (by decide) (by decide) bi26
  have e27 := mk1_of (nm := "BadPoints") (f := "index") (ql := "BadPoints.__init__") (stm := inClass (topS 29) 0) KX G (cd.fact 23 (f := .glo "BadPoints") rfl) (d1 ("BadPoints", "index") (List.mem_of_getElem? (i := 22) rfl)) (cd.def_ 32 (d := Hx.dIn "BadPoints" "BadPoints.__init__" 29) rfl) hb27 sc27 (by decide) (by decide) bi27
  have e28 := mk2_of (nm := "BadPlan") (f := "path") (g := "what") (ql := "BadPlan.__init__") (stm := inClass (topS 30) 0) KX G (cd.fact 36 (f := .glo "BadPlan") rfl) (d2 ("BadPlan", "path", "what") (List.mem_of_getElem? (i := 4) rfl)) (cd.def_ 45 (d := Hx.dIn "BadPlan" "BadPlan.__init__" 30) rfl) hb28 sc28 (by decide) (by decide) (by decide) (by decide) bi28 bk28
  have e29 := mk0_of (nm := "BadPath") KX G (cd.fact 41 (f := .glo "BadPath") rfl) (d0 "BadPath" (List.mem_of_getElem? (i := 1) rfl))
  have e30 := mk1_of (nm := "BadStranger") (f := "index") (ql := "BadStranger.__init__") (stm := inClass (topS 32) 0) KX G (cd.fact 24 (f := .glo "BadStranger") rfl) (d1 ("BadStranger", "index") (List.mem_of_getElem? (i := 23) rfl)) (cd.def_ 33 (d := Hx.dIn "BadStranger" "BadStranger.__init__" 32) rfl) hb30 sc30 (by decide) (by decide) bi30
  have e31 := mk2_of (nm := "BadPoly") (f := "what") (g := "index") (ql := "BadPoly.__init__") (stm := inClass (topS 33) 0) KX G (cd.fact 37 (f := .glo "BadPoly") rfl) (d2 ("BadPoly", "what", "index") (List.mem_of_getElem? (i := 5) rfl)) (cd.def_ 46 (d := Hx.dIn "BadPoly" "BadPoly.__init__" 33) rfl) hb31 sc31 (by decide) (by decide) (by decide) (by decide) bi31 bk31
  have e32 := mk0_of (nm := "UnlikePolys") KX G (cd.fact 42 (f := .glo "UnlikePolys") rfl) (d0 "UnlikePolys" (List.mem_of_getElem? (i := 2) rfl))
  have e33 := mk1_of (nm := "BadValues") (f := "index") (ql := "BadValues.__init__") (stm := inClass (topS 35) 0) KX G (cd.fact 25 (f := .glo "BadValues") rfl) (d1 ("BadValues", "index") (List.mem_of_getElem? (i := 24) rfl)) (cd.def_ 34 (d := Hx.dIn "BadValues" "BadValues.__init__" 35) rfl) hb33 sc33 (by decide) (by decide) bi33
  have e34 := mk1_of (nm := "NoEntry") (f := "entry") (ql := "NoEntry.__init__") (stm := inClass (topS 36) 0) KX G (cd.fact 26 (f := .glo "NoEntry") rfl) (d1 ("NoEntry", "entry") (List.mem_of_getElem? (i := 25) rfl)) (cd.def_ 35 (d := Hx.dIn "NoEntry" "NoEntry.__init__" 36) rfl) hb34 sc34 (by decide) (by decide) bi34
  have e35 := mk1_of (nm := "NoResult") (f := "result") (ql := "NoResult.__init__") (stm := inClass (topS 37) 0) KX G (cd.fact 27 (f := .glo "NoResult") rfl) (d1 ("NoResult", "result") (List.mem_of_getElem? (i := 26) rfl)) (cd.def_ 36 (d := Hx.dIn "NoResult" "NoResult.__init__" 37) rfl) hb35 sc35 (by decide) (by decide) bi35
  have e36 := mk2_of (nm := "BadProgram") (f := "what") (g := "index") (ql := "BadProgram.__init__") (stm := inClass (topS 38) 0) KX G (cd.fact 38 (f := .glo "BadProgram") rfl) (d2 ("BadProgram", "what", "index") (List.mem_of_getElem? (i := 6) rfl)) (cd.def_ 47 (d := Hx.dIn "BadProgram" "BadProgram.__init__" 38) rfl) hb36 sc36 (by decide) (by decide) (by decide) (by decide) bi36 bk36
  have e37 := mk0_of (nm := "BadChain") KX G (cd.fact 43 (f := .glo "BadChain") rfl) (d0 "BadChain" (List.mem_of_getElem? (i := 3) rfl))
  have e38 := mk1_of (nm := "BadAlong") (f := "index") (ql := "BadAlong.__init__") (stm := inClass (topS 40) 0) KX G (cd.fact 28 (f := .glo "BadAlong") rfl) (d1 ("BadAlong", "index") (List.mem_of_getElem? (i := 27) rfl)) (cd.def_ 37 (d := Hx.dIn "BadAlong" "BadAlong.__init__" 40) rfl) hb38 sc38 (by decide) (by decide) bi38
  have e39 := mk1_of (nm := "TooGreat") (f := "many") (ql := "TooGreat.__init__") (stm := inClass (topS 41) 0) KX G (cd.fact 29 (f := .glo "TooGreat") rfl) (d1 ("TooGreat", "many") (List.mem_of_getElem? (i := 28) rfl)) (cd.def_ 38 (d := Hx.dIn "TooGreat" "TooGreat.__init__" 41) rfl) hb39 sc39 (by decide) (by decide) bi39
  have e40 := mk0_of (nm := "BadShape") KX G (cd.fact 44 (f := .glo "BadShape") rfl) (d0 "BadShape" (List.mem_of_getElem? (i := 4) rfl))
  have e41 := mk2_of (nm := "BadEdit") (f := "index") (g := "what") (ql := "BadEdit.__init__") (stm := inClass (topS 43) 0) KX G (cd.fact 39 (f := .glo "BadEdit") rfl) (d2 ("BadEdit", "index", "what") (List.mem_of_getElem? (i := 7) rfl)) (cd.def_ 48 (d := Hx.dIn "BadEdit" "BadEdit.__init__" 43) rfl) hb41 sc41 (by decide) (by decide) (by decide) (by decide) bi41 bk41
  have e42 := mk1_of (nm := "BadGoal") (f := "what") (ql := "BadGoal.__init__") (stm := inClass (topS 44) 0) KX G (cd.fact 30 (f := .glo "BadGoal") rfl) (d1 ("BadGoal", "what") (List.mem_of_getElem? (i := 29) rfl)) (cd.def_ 39 (d := Hx.dIn "BadGoal" "BadGoal.__init__" 44) rfl) hb42 sc42 (by decide) (by decide) bi42
  have e43 := mk0_of (nm := "BadBench") KX G (cd.fact 45 (f := .glo "BadBench") rfl) (d0 "BadBench" (List.mem_of_getElem? (i := 5) rfl))
  have e44 := mk1_of (nm := "Clashing") (f := "weights") (ql := "Clashing.__init__") (stm := inClass (topS 46) 0) KX G (cd.fact 31 (f := .glo "Clashing") rfl) (d1 ("Clashing", "weights") (List.mem_of_getElem? (i := 30) rfl)) (cd.def_ 40 (d := Hx.dIn "Clashing" "Clashing.__init__" 46) rfl) hb44 sc44 (by decide) (by decide) bi44
  have e45 := mk0_of (nm := "NoAnswers") KX G (cd.fact 46 (f := .glo "NoAnswers") rfl) (d0 "NoAnswers" (List.mem_of_getElem? (i := 6) rfl))
  have e46 := mk0_of (nm := "NothingDone") KX G (cd.fact 47 (f := .glo "NothingDone") rfl) (d0 "NothingDone" (List.mem_of_getElem? (i := 7) rfl))
  obtain ⟨dM, hM⟩ := fun_of (stm := topS 51) (cd.def_ 0 (d := Hx.dFn "_law_mixed" 51) rfl)
  obtain ⟨dH, hH⟩ := fun_of (stm := topS 50) (cd.def_ 1 (d := Hx.dFn "_law_hand" 50) rfl)
  obtain ⟨dT, hT⟩ := fun_of (stm := topS 52) (cd.def_ 2 (d := Hx.dFn "_law_take" 52) rfl)
  obtain ⟨dF, hF⟩ := fun_of (stm := topS 53) (cd.def_ 3 (d := Hx.dFn "_law_first" 53) rfl)
  obtain ⟨dS, hS⟩ := fun_of (stm := topS 54) (cd.def_ 4 (d := Hx.dFn "_law_second" 54) rfl)
  obtain ⟨dA, hA⟩ := fun_of (stm := topS 55) (cd.def_ 5 (d := Hx.dFn "_law_all" 55) rfl)
  obtain ⟨dC, hC⟩ := fun_of (stm := topS 56) (cd.def_ 6 (d := Hx.dFn "_law_couples" 56) rfl)
  obtain ⟨dO, hO⟩ := fun_of (stm := topS 57) (cd.def_ 7 (d := Hx.dFn "_law_single" 57) rfl)
  obtain ⟨dG, hG⟩ := fun_of (stm := topS 58) (cd.def_ 8 (d := Hx.dFn "_law_caught" 58) rfl)
  obtain ⟨dL, hL, bL⟩ := law_of (cd.def_ 9 (d := Hx.dFn "law" 59) rfl)
  have gl := glo_ok KX G (cd.fact 57 (f := .glo "law") rfl)
  have e := hmg.symm.trans gl
  cases e
  have gM := glo_ok KX G (cd.fact 48 (f := .glo "_law_mixed") rfl)
  have gH := glo_ok KX G (cd.fact 49 (f := .glo "_law_hand") rfl)
  have gT := glo_ok KX G (cd.fact 50 (f := .glo "_law_take") rfl)
  have gF := glo_ok KX G (cd.fact 51 (f := .glo "_law_first") rfl)
  have gS_ := glo_ok KX G (cd.fact 52 (f := .glo "_law_second") rfl)
  have gA := glo_ok KX G (cd.fact 53 (f := .glo "_law_all") rfl)
  have gC := glo_ok KX G (cd.fact 54 (f := .glo "_law_couples") rfl)
  have gO := glo_ok KX G (cd.fact 55 (f := .glo "_law_single") rfl)
  have gG := glo_ok KX G (cd.fact 56 (f := .glo "_law_caught") rfl)
  have gS := glo_ok KX G (cd.fact 0 (f := .glo "SlopeError") rfl)
  have n_len := free_ok KX G (cd.fact 58 (f := .free "len") rfl)
  have n_int := free_ok KX G (cd.fact 59 (f := .free "int") rfl)
  have n_abs := free_ok KX G (cd.fact 60 (f := .free "abs") rfl)
  have n_isinstance := free_ok KX G (cd.fact 61 (f := .free "isinstance") rfl)
  have n_ValueError := free_ok KX G (cd.fact 62 (f := .free "ValueError") rfl)
  have n_repr := free_ok KX G (cd.fact 63 (f := .free "repr") rfl)
  have n_range := free_ok KX G (cd.fact 64 (f := .free "range") rfl)
  have n_KeyError := free_ok KX G (cd.fact 65 (f := .free "KeyError") rfl)
  have n_IndexError := free_ok KX G (cd.fact 66 (f := .free "IndexError") rfl)
  have n_LookupError := free_ok KX G (cd.fact 67 (f := .free "LookupError") rfl)
  have n_TypeError := free_ok KX G (cd.fact 68 (f := .free "TypeError") rfl)
  have n_ArithmeticError := free_ok KX G (cd.fact 69 (f := .free "ArithmeticError") rfl)
  have xg : XG K := ⟨eqO_ok w1, of_decide_eq_true w2⟩
  have xb : XB K (ga K "SlopeError") := ⟨w4, of_decide_eq_true w5, of_decide_eq_true w6⟩
  have ne : ∀ i, i < 47 → ga K "SlopeError" ≠ ga K (Hx.nms.getD i "") := by
    intro i hi z
    have m : Hx.nms.getD i "" ∈ Hx.nms := by
      have hl : i < Hx.nms.length := hi
      rw [List.getD_eq_getElem?_getD, List.getElem?_eq_getElem hl]
      exact List.getElem_mem hl
    have y := List.all_eq_true.mp w3 _ m
    have y2 : (!Nat.beq (ga K "SlopeError") (ga K (Hx.nms.getD i ""))) = true := y
    rw [← z, Nat.beq_refl] at y2
    cases y2
  have T : TX K mg (ga K "SlopeError") (fun i => ga K (Hx.nms.getD i "")) := { tb := ⟨n_len, n_int, n_abs⟩, g := xg, b := xb, gS := gS, nS := ne, iso := n_isinstance, ve := n_ValueError, rep := n_repr, ran := n_range, e0 := e0, e1 := e1, e2 := e2, e3 := e3, e4 := e4, e5 := e5, e6 := e6, e7 := e7, e8 := e8, e9 := e9, e10 := e10, e11 := e11, e12 := e12, e13 := e13, e14 := e14, e15 := e15, e16 := e16, e17 := e17, e18 := e18, e19 := e19, e20 := e20, e21 := e21, e22 := e22, e23 := e23, e24 := e24, e25 := e25, e26 := e26, e27 := e27, e28 := e28, e29 := e29, e30 := e30, e31 := e31, e32 := e32, e33 := e33, e34 := e34, e35 := e35, e36 := e36, e37 := e37, e38 := e38, e39 := e39, e40 := e40, e41 := e41, e42 := e42, e43 := e43, e44 := e44, e45 := e45, e46 := e46 }
  have L : TL K mg _ _ _ _ _ _ _ _ _ _ _ _ _ _ _ _ _ _ := { hM := hM, gM := gM, hH := hH, gH := gH, hT := hT, gT := gT, hF := hF, gF := gF, hS := hS, gS := gS_, hA := hA, gA := gA, hC := hC, gC := gC, hO := hO, gO := gO, hG := hG, gG := gG, k1 := n_KeyError, k2 := n_IndexError, k3 := n_LookupError, k4 := n_TypeError, k5 := n_ArithmeticError }
  exact ⟨dL, bL, fun base _ _ => ok_law hL T L⟩
end Hd
open PySem PySem.W PySem.Calls PyProof.Rows
theorem PySem.Challenge.cw_thinslopes_k71_all_errors_side_by_side_holds : PySem.Challenge.rw_thinslopes_k71_all_errors_side_by_side.Holds := by
  w_on; o_law
  refine HandSHeadRun.head_any (r := OpenLaw.row PySem.Challenge.rw_thinslopes_k71_all_errors_side_by_side) (q := HandSHeadRun.qR) (H := Hx.hk) (ob := Hx.ob) (M := 23678) (loose := []) (d := HandSHeadRun.topDef (OpenLaw.row PySem.Challenge.rw_thinslopes_k71_all_errors_side_by_side).prog 59) (kwd := []) Hx.ob_eq
    (by kernel_rfl) (fun s => by kernel_rfl) HandSHeadRun.runR (by kernel_rfl) (by kernel_rfl) (by kernel_rfl) (by rfl) (by first | assumption | decide +kernel) (by decide +kernel) ⟨rfl, rfl, rfl, rfl, rfl, by decide +kernel⟩ ?hw ?hc
  case hw => w_witness2
  case hc =>
    refine Hd.walk_E (l := PySem.Challenge.rw_thinslopes_k71_all_errors_side_by_side) (n := 63) (k := 5) (x := "_law_script") (CX := L2.CX0) rfl (by decide) (by kernel_rfl) ⟨rfl, by decide, by decide⟩ ?F (fun _ _ _ _ z => z)
    intro w mg fa h Y G hmg0
    obtain ⟨K, KX, c⟩ := Y
    have hmg : mg ("law" : PySem.Str) = some (.ref fa) := by
      have e : (HandSHeadRun.topDef (OpenLaw.row PySem.Challenge.rw_thinslopes_k71_all_errors_side_by_side).prog 59).name = ("law" : PySem.Str) := by kernel_rfl
      rw [← e]
      exact hmg0
    obtain ⟨fd, hb, hF⟩ := Hd.facts (P := (PySem.Challenge.rw_thinslopes_k71_all_errors_side_by_side).prog) (w := w) KX G hmg c
    exact ⟨K, Hd.spLaw K, fd, KX, hb, fun H a ns hl _ _ hS => ⟨a, ns, rfl, hS, hl, fun _ => rfl⟩, hF⟩
