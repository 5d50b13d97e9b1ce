import PyProof.Rows.All
import PySem.Challenge.RW_thinslopes_k77_all_results_keep_their_th
import Wide.All
import OpenK.AllK
import Wide.FinOn
import KE.KStateDown
import HandS.Base
import HandS.Call
import HandS.Defaults
import HandS.Words
import HandS.Head0
import HandS.Head1
import HandS.Head2
import HandS.HeadHook1
import HandS.HeadHook2
import HandS.ForMost
import HandS.ForExc
import HandS.EndBits
import HandS.Wide
import HandS.ExcInit
import HandS.ExcIs
import HandS.IsInst
import HandS.Flow
import HandS.Style
import KE.KExcIs
import HandS.TryMany
import HandS.ExcValue
import PyProof.ReprBulk
import HandS.Iter
import HandS.Walk
import PyProof.EnumMake
import PyProof.TupleIter
import KE.DataMinMax
import HandS.SortKw
import HandS.GenList
import HandS.ExcField
import HandS.CallSlots
import HandS.TupAny
import HandS.More
import HandS.Zip
import HandS.Gcd
import HandS.TupLe
import HandS.Property
import HandS.MakeKwOnly
import HandS.NoneIn
import HandS.Deep
import PyProof.Rows.SeqMore
import HandS.Sort
set_option Elab.async false
set_option linter.all false
set_option maxRecDepth 100000
set_option maxHeartbeats 2000000
/-! the head: what is asked of the objects behind the top, and the run -/
namespace Hx
open PySem PySem.Spec PyProof.Rows L2 He
def top (i : Nat) : Stmt := PySem.Challenge.pw_thinslopes_k77_all_results_keep_their_th.main.body.getD i (.Pass ⟨0, 0, 0, 0⟩)
def dFn (x : Str) (i : Nat) : DefD := ⟨(x, none), x, x, defArgs (top i), defBody (top i), defScope (top i), [], []⟩
def dIn (x ql : Str) (i : Nat) : DefD := ⟨(x, some "__init__"), "__init__", ql, defArgs (inClass (top i) 0), defBody (inClass (top i) 0), defScope (inClass (top i) 0), [], []⟩
def clE (x : Str) (l : List Str) : Str × List Str := (x, l)
def fn : List DefD := ([dFn "_law_hand" 73, dFn "_law_mixed" 74, dFn "_law_take" 75, dFn "_law_all" 76, dFn "_law_answers" 77, dFn "_law_groups" 78, dFn "_law_bounds" 79, dFn "_law_plans" 80, dFn "law" 81, dIn "Weights" "Weights.__init__" 1, dIn "Hidden" "Hidden.__init__" 3, dIn "Missing" "Missing.__init__" 5, dIn "Meeting" "Meeting.__init__" 6, dIn "Core" "Core.__init__" 8, dIn "Block" "Block.__init__" 10, dIn "Fewest" "Fewest.__init__" 12, dIn "Dependent" "Dependent.__init__" 13, dIn "Recovered" "Recovered.__init__" 15, dIn "Clash" "Clash.__init__" 16, dIn "Given" "Given.__init__" 17, dIn "Parted" "Parted.__init__" 18, dIn "Bounds" "Bounds.__init__" 20, dIn "Chain" "Chain.__init__" 22, dIn "LeastBoth" "LeastBoth.__init__" 24] : List DefD) ++ ([dIn "Played" "Played.__init__" 26, dIn "Come" "Come.__init__" 28, dIn "Never" "Never.__init__" 29, dIn "Untold" "Untold.__init__" 30, dIn "Piece" "Piece.__init__" 32, dIn "Walk" "Walk.__init__" 34, dIn "Balance" "Balance.__init__" 36, dIn "FewestGroups" "FewestGroups.__init__" 38, dIn "SideLot" "SideLot.__init__" 40, dIn "WebCore" "WebCore.__init__" 41, dIn "Run" "Run.__init__" 43, dIn "RunTable" "RunTable.__init__" 45, dIn "Apart" "Apart.__init__" 46, dIn "Lost" "Lost.__init__" 48, dIn "Mended" "Mended.__init__" 49, dIn "Worse" "Worse.__init__" 50, dIn "Whole" "Whole.__init__" 52, dIn "RestWeights" "RestWeights.__init__" 54, dIn "RestHidden" "RestHidden.__init__" 55, dIn "Bent" "Bent.__init__" 57, dIn "Parts" "Parts.__init__" 58, dIn "SideBounds" "SideBounds.__init__" 60, dIn "Taken" "Taken.__init__" 62, dIn "Solved" "Solved.__init__" 64] : List DefD) ++ ([dIn "Ladder" "Ladder.__init__" 65, dIn "Ring" "Ring.__init__" 66, dIn "Unseen" "Unseen.__init__" 68, dIn "Filled" "Filled.__init__" 69, dIn "Twice" "Twice.__init__" 70, dIn "Explained" "Explained.__init__" 71] : List DefD)
def tab : List (Str × List Str) := ([clE "Weights" ["row"], clE "Hidden" ["numbers"], clE "Missing" ["column"], clE "Meeting" ["row", "first", "second"], clE "Core" ["strikes", "cells"], clE "Block" ["rows", "columns", "places", "most"], clE "Fewest" ["count", "row"], clE "Dependent" ["row", "numbers"], clE "Recovered" ["numbers", "filling"], clE "Clash" ["weights"], clE "Given" ["rows"], clE "Parted" ["answer", "numbers"], clE "Bounds" ["low", "low_budget", "blocks", "high", "high_budget", "cored", "cored_budget"], clE "Chain" ["cells"], clE "LeastBoth" ["row_groups", "column_groups", "many"], clE "Played" ["path", "answers"], clE "Come" ["path", "book", "filling"], clE "Never" ["path", "answer", "weights"], clE "Untold" ["path", "filling", "hidden"], clE "Piece" ["points", "ties", "groups"], clE "Walk" ["points", "groups"], clE "Balance" ["plus", "minus", "times", "groups"], clE "FewestGroups" ["groups", "first", "many"], clE "SideLot" ["points", "ties", "most"]] : List (Str × List Str)) ++ ([clE "WebCore" ["strikes", "ties"], clE "Run" ["spots", "slopes", "answer", "products"], clE "RunTable" ["rows", "products"], clE "Apart" ["terms"], clE "Lost" ["answers", "numbers"], clE "Mended" ["wrong", "answers", "numbers"], clE "Worse" ["most"], clE "Whole" ["bottom", "weights", "numbers"], clE "RestWeights" ["row"], clE "RestHidden" ["numbers"], clE "Bent" ["spots", "along", "back", "bends", "answer", "products"], clE "Parts" ["base", "lots"], clE "SideBounds" ["low", "bars", "high", "book"], clE "Taken" ["steps", "turns", "missing"], clE "Solved" ["steps", "letters"], clE "Ladder" ["read", "taken", "solved", "told"], clE "Ring" ["points"], clE "Unseen" ["numbers", "strangers"], clE "Filled" ["numbers", "strangers"], clE "Twice" ["first", "second"], clE "Explained" ["strangers", "numbers"]] : List (Str × List Str))
def fg : List Str := (["_law_hand", "_law_mixed", "_law_take", "_law_all", "_law_answers", "_law_groups", "_law_bounds", "_law_plans", "law", "Weights", "Hidden", "Missing", "Meeting", "Core", "Block", "Fewest", "Dependent", "Recovered", "Clash", "Given", "Parted", "Bounds", "Chain", "LeastBoth"] : List Str) ++ (["Played", "Come", "Never", "Untold", "Piece", "Walk", "Balance", "FewestGroups", "SideLot", "WebCore", "Run", "RunTable", "Apart", "Lost", "Mended", "Worse", "Whole", "RestWeights", "RestHidden", "Bent", "Parts", "SideBounds", "Taken", "Solved"] : List Str) ++ (["Ladder", "Ring", "Unseen", "Filled", "Twice", "Explained"] : List Str)
def ff : List Str := (["abs", "int", "isinstance", "len", "list", "range", "repr"] : List Str)
def fa : List Fa := fg.map Fa.glo ++ (ff.map Fa.free ++ (tab.map (fun p => Fa.mkr p.1) ++ tab.flatMap fun p => Fa.cls p.1 :: p.2.map (Fa.noat p.1)))
def adr : List Addr := ([3, 1, 31, 30, 28, 27, 52, 51, 49, 48, 73, 72, 70, 69, 94, 93, 91, 90, 115, 114, 112, 111, 136, 135] : List Addr) ++ ([133, 132, 157, 156, 154, 153, 178, 177, 175, 174, 199, 198, 196, 195, 220, 219, 217, 216, 241, 240, 238, 237, 262, 261] : List Addr) ++ ([259, 258, 283, 282, 280, 279, 304, 303, 301, 300, 325, 324, 322, 321, 346, 345, 343, 342, 367, 366, 364, 363, 388, 387] : List Addr) ++ ([385, 384, 409, 408, 406, 405, 430, 429, 427, 426, 451, 450, 448, 447, 472, 471, 469, 468, 493, 492, 490, 489, 514, 513] : List Addr) ++ ([511, 510, 535, 534, 532, 531, 556, 555, 553, 552, 577, 576, 574, 573, 598, 597, 595, 594, 619, 618, 616, 615, 640, 639] : List Addr) ++ ([637, 636, 661, 660, 658, 657, 682, 681, 679, 678, 703, 702, 700, 699, 724, 723, 721, 720, 745, 744, 742, 741, 766, 765] : List Addr) ++ ([763, 762, 787, 786, 784, 783, 808, 807, 805, 804, 829, 828, 826, 825, 850, 849, 847, 846, 871, 870, 868, 867, 892, 891] : List Addr) ++ ([889, 888, 913, 912, 910, 909, 934, 933, 931, 930, 955, 954, 952, 951, 966, 965, 973, 972, 980, 979, 985, 984, 990, 989] : List Addr) ++ ([995, 994, 1000, 999, 1005, 1004, 1012, 1011] : List Addr)
def sysB (K : PySem.W.Frag) : Bool := match K.lookup PySem.sysModules with
  | some o => decide (o.cls = .type "dict")
  | none => false
abbrev AlH : Type := AlD × Bool
abbrev SaysH (K : PySem.W.Frag) : Prop := SaysD fa fn K ∧ sysB K = true
def obsH (g : Addr → Option Obj) : AlH := (obsD fa fn (frG g adr), sysB (frG g adr))
def hk : PySem.W.Hook where
  α := AlH
  obs := fun s => obsH s.heap.get?
  val := fun _ => (valD fn, true)
  says := fun _ h => ∃ K : PySem.W.Frag, K.In h ∧ SaysH K
  of := fun _ _ e => ⟨_, frG_in, congrArg (fun z : AlH => z.1) e, congrArg (fun z : AlH => z.2) e⟩
  keeps := fun _ _ _ ⟨K, hK, c⟩ k => ⟨K, PySem.W.Frag.In.keeps hK k, c⟩
def ob (s : PySem.W.SharedT) : AlH := obsH (HandSHeadRun.getT s)
theorem ob_eq (s : PySem.W.SharedT) : ob s = hk.obs s.abs := by
  have e : HandSHeadRun.getT s = s.abs.heap.get? := funext (HandSHeadRun.getT_eq s)
  unfold ob
  rw [e]
  rfl
abbrev R : PySem.W.OpenRow := PySem.W.OpenLaw.row PySem.Challenge.rw_thinslopes_k77_all_results_keep_their_th
def keep : List Nat := ([1, 3, 5, 6, 8, 10, 12, 13, 15, 16, 17, 18, 20, 22, 24, 26, 28, 29, 30, 32, 34, 36, 38, 40] : List Nat) ++ ([41, 43, 45, 46, 48, 49, 50, 52, 54, 55, 57, 58, 60, 62, 64, 65, 66, 68, 69, 70, 71, 73, 74, 75] : List Nat) ++ ([76, 77, 78, 79, 80, 81] : List Nat)
end Hx
namespace HandSHeadRun
open PySem PySem.W PySem.Calls PyProof.Rows Hx
/-- the state behind the top -/
noncomputable def endR (w : World) (os : OsState) : Option SharedT := endF (stepQ (denQ tabQ) R.prog w) 21396 R.prog w os
abbrev qR : Program := view R.prog keep
noncomputable def seenR (s : SharedT) := seenQ qR [] (importedModules R.prog.main.body) (fun s => xlAt qR [] s && recOk R.toRowW.records s) s.abs
abbrev goodR := openGood qR []
theorem runA (w : World) (os : OsState) : (endR w os).map (fun s => ((seenR s).1, (seenR s).2.1, (seenR s).2.2.1, (seenR s).2.2.2.1)) = some (expectedOf qR, bltViewBooted, true, true) := by kernel_rfl
theorem runA2 (w : World) (os : OsState) : (endR w os).map (fun s => ((seenR s).2.2.2.2.1, (seenR s).2.2.2.2.2.1, (seenR s).2.2.2.2.2.2.1)) = some (pinGoodD (drecsOf qR), plainGoodE qR (looseW qR []), plainGoodD qR []) := by kernel_rfl
theorem runA3 (w : World) (os : OsState) : (endR w os).map (fun s => ((seenR s).2.2.2.2.2.2.2.1, (seenR s).2.2.2.2.2.2.2.2)) = some (wideGood qR, clsGoodW qR []) := by kernel_rfl
theorem runL (w : World) (os : OsState) : (endR w os).map (fun s => looksF R.prog (boot_heap w.params) s.abs) = some true := by kernel_rfl
theorem runB (w : World) (os : OsState) : (endR w os).map (fun s => (He.obsD fa fn (He.frG (getT s) adr), sysB (He.frG (getT s) adr))) = some (He.valD fn, true) := by kernel_rfl
section
variable {α F G Y A1 A2 A3 A4 A5 A6 A7 A8 A9 : Type} {seenF : α → A1 × A2 × A3 × A4 × A5 × A6 × A7 × A8 × A9} {gg : A1 × A2 × A3 × A4 × A5 × A6 × A7 × A8 × A9} {o : Option α} {f : α → F} {l : F} {S : α → G} {g : G} {p : α → Y} {y : Y}
theorem joinA (h1 : o.map (fun s => ((seenF s).1, (seenF s).2.1, (seenF s).2.2.1, (seenF s).2.2.2.1)) = some (gg.1, gg.2.1, gg.2.2.1, gg.2.2.2.1)) (h2 : o.map (fun s => ((seenF s).2.2.2.2.1, (seenF s).2.2.2.2.2.1, (seenF s).2.2.2.2.2.2.1)) = some (gg.2.2.2.2.1, gg.2.2.2.2.2.1, gg.2.2.2.2.2.2.1))
    (h3 : o.map (fun s => ((seenF s).2.2.2.2.2.2.2.1, (seenF s).2.2.2.2.2.2.2.2)) = some (gg.2.2.2.2.2.2.2.1, gg.2.2.2.2.2.2.2.2)) : o.map (fun s => seenF s) = some gg := by
  cases o with
  | none => cases h1
  | some s =>
    have e1 := Option.some.inj h1
    have e2 := Option.some.inj h2
    have e3 := Option.some.inj h3
    simp only [Prod.mk.injEq] at e1 e2 e3
    show some (seenF s) = some gg
    obtain ⟨a1, a2, a3, a4⟩ := e1
    obtain ⟨a5, a6, a7⟩ := e2
    obtain ⟨a8, a9⟩ := e3
    generalize seenF s = x at *
    obtain ⟨x1, x2, x3, x4, x5, x6, x7, x8, x9⟩ := x
    obtain ⟨y1, y2, y3, y4, y5, y6, y7, y8, y9⟩ := gg
    dsimp only at a1 a2 a3 a4 a5 a6 a7 a8 a9
    subst a1 a2 a3 a4 a5 a6 a7 a8 a9
    rfl
theorem joinR (h1 : o.map (fun s => S s) = some g) (h2 : o.map (fun s => f s) = some l) (h3 : o.map p = some y) : o.map (fun s => (f s, S s, p s)) = some (l, g, y) := by
  cases o with
  | none => cases h1
  | some s =>
    have e1 : S s = g := Option.some.inj h1
    have e2 : f s = l := Option.some.inj h2
    have e3 : p s = y := Option.some.inj h3
    show some (f s, S s, p s) = some (l, g, y)
    rw [e1, e2, e3]
end
theorem runR (w : World) : RunEq R qR hk ob 21396 [] w := by
  intro os
  show (endR w os).map (fun s => (looksF R.prog (boot_heap w.params) s.abs, seenR s, He.obsD fa fn (He.frG (getT s) adr), sysB (He.frG (getT s) adr))) = some (true, goodR, He.valD fn, true)
  exact joinR (joinA (runA w os) (runA2 w os) (runA3 w os)) (runL w os) (runB w os)
end HandSHeadRun
set_option Elab.async false
set_option linter.all false
set_option maxRecDepth 100000
set_option maxHeartbeats 4000000
/-! A def's promise where no display is being shown around it, so that repr of data may be called within. -/
namespace Gk
open PySem PySem.Spec PyProof.Rows L2
/-- nothing is being shown -/
def Quiet (A : Around) : Prop := A.guards = some []
theorem Quiet.dp {A : Around} {en : Env} (q : Quiet A) : Quiet (A.deeper en) := q
structure GOk (P : Program) (w : World) (K : PySem.W.Frag) (mg : Str → Option Value) (base : Heap)
    (CX : CXT) (k : Nat) (f : Addr) (fd : FuncData) (ps : List Str) (sp : Sp) : Prop where
  ln : ∀ xs H Q E, sp xs H Q E → xs.length = ps.length
  go : ∀ (A : Around) (ou : List Env) (st : Shared) (H : Hp) (ar : Args) (vs : List Value) (xs : List V) (Q : VK) (E : XK),
    Quiet A → Room k A → Env0 P w K mg base A ou st H → BindsTo st fd ar (ps.zip vs) → Vals xs vs → sp xs H Q E →
    codeAny (model P w) A (.call (.ref f) ar) (CR CX ou P w H st Q E) st
section
variable {P : Program} {w : World} {K : PySem.W.Frag} {mg : Str → Option Value} {base : Heap} {CX : CXT}
theorem GOk.up {j k : Nat} {f : Addr} {fd : FuncData} {ps : List Str} {sp : Sp}
    (G : GOk P w K mg base CX j f fd ps sp) (h : j ≤ k) : GOk P w K mg base CX k f fd ps sp :=
  ⟨G.ln, fun A ou st H ar vs xs Q E q r => G.go A ou st H ar vs xs Q E q (r.mono h)⟩
theorem GOk.ofF {k : Nat} {f : Addr} {fd : FuncData} {ps : List Str} {sp : Sp}
    (F : FnOk P w K mg base CX k f fd ps sp) : GOk P w K mg base CX k f fd ps sp :=
  ⟨F.len, fun A ou st H ar vs xs Q E _ r => F.run A ou st H ar vs xs Q E r⟩
/-- the body of a def, read where nothing is being shown -/
theorem g_body {nm ql : Str} {stm : Stmt} {f : Addr} {fd : FuncData} {N ps : List Str} {k : Nat} {sp : Sp}
    (F : ∃ (oc : Value) (od : Option Addr) (dV kV dc pm : Value) (an : Option Addr) (cv ct : Value) (sl : Array (Option Value)),
      fd = PySem.W.fnOf nm ql (defArgs stm) (defBody stm) (defScope stm) dV kV dc pm an cv ct ∧
      K.lookup f = some ⟨oc, od, .func fd, sl⟩ ∧ PySem.W.codeIn K cv ql = true)
    (S : FnScope N ps (defScope stm)) (ln : ∀ xs H Q E, sp xs H Q E → xs.length = ps.length)
    (hb : ∀ (cv : Value) (A : Around) (ou : List Env) (st : Shared) (H : Hp) (xs : List V) (Q : VK) (E : XK),
      Quiet A → Room k (A.deeper (envOfC ql (defScope stm) st.heap.objs.size f cv)) → sp xs H Q E →
      ∃ t, PSs (cxOf CX P w K mg base N ql (defScope stm) f cv A ou st H E) (defBody stm) t ∧
        t { nx := fun _ H' => Q .non H', rt := Q } (start N xs) H) :
    GOk P w K mg base CX (k + 1) f fd ps sp := by
  obtain ⟨oc, od, dV, kV, dc, pm, an, cv, ct, sl, ef, lk, hc⟩ := F
  subst ef
  refine ⟨ln, fun A ou st H ar vs xs Q E qa rm e0 bd rv hs => ?_⟩
  have e1 := ln _ _ _ _ hs
  have kin : K.In st.heap := e0.mod.kin.keeps fun b o z => (e0.bs b o z).1
  have nol : st.heap.NoLimit := e0.mod.nolimit.keeps fun b o z => (e0.bs b o z).1
  have knd : ∀ y ∈ ps.zip vs, (defScope stm).names.lookup y.1 = some .local ∨
      ((defScope stm).names.lookup y.1 = some .cell ∧
        ((cellsFrom (st.heap.objs.size + 1) (defScope stm).names []).lookup y.1).isSome = true) := by
    rintro ⟨n, v⟩ hy
    cases S.par n (List.of_mem_zip hy).1 with
    | inl z => exact Or.inl z
    | inr z => exact Or.inr ⟨z, PySem.W.cellsFrom_some _ _ _ (Or.inl z)⟩
  refine codeAny_call_function rm.depth (kin _ _ lk) rfl S.co S.gen rfl (PySem.W.codeRec_of kin hc) (bd _ _ _ _ ?_)
  refine wpAny_newFunctionEnv_cells S.kind knd fun en hen s1 ic => ?_
  subst hen
  refine ⟨nol.keeps ic.toInCall.keep, codeAny_func ?_⟩
  obtain ⟨t, pt, ht⟩ := hb cv A ou st H xs Q E qa (rm.deeper _) hs
  have J := inv_start (CX := CX) (E := E) S rm.hd e0 e1 rv ic
  refine wpAny_mono (pt.run [] s1 (start N xs) H _ J ht) (fun fl s2 z => ?_) fun _ _ z => z
  cases fl with
  | ret u =>
    obtain ⟨v, σ2, H2, J2, rr, q2⟩ := z
    exact ⟨v, H2, J2.os, J2.bare, J2.base, J2.hok, rr, q2⟩
  | next =>
    obtain ⟨σ2, H2, J2, q2⟩ := z
    exact ⟨V.non, H2, J2.os, J2.bare, J2.base, J2.hok, rfl, q2⟩
  | brk => exact z.elim fun _ z => z.elim fun _ z => z.2.elim
  | cont => exact z.elim fun _ z => z.elim fun _ z => z.2.elim
theorem fun_ex {nm ql : Str} {stm : Stmt} {f : Addr} {fd : FuncData} (F : Fun K nm ql stm f fd) :
    ∃ (oc : Value) (od : Option Addr) (dV kV dc pm : Value) (an : Option Addr) (cv ct : Value) (sl : Array (Option Value)),
      fd = PySem.W.fnOf nm ql (defArgs stm) (defBody stm) (defScope stm) dV kV dc pm an cv ct ∧
      K.lookup f = some ⟨oc, od, .func fd, sl⟩ ∧ PySem.W.codeIn K cv ql = true := by
  obtain ⟨oc, od, kV, dc, pm, an, cv, ct, sl, a, b, c⟩ := F.ex
  exact ⟨oc, od, .none, kV, dc, pm, an, cv, ct, sl, a, b, c⟩
end
section
variable {X : Cx} {CX : CXT} {k : Nat} {f : Addr} {fd : FuncData} {ps : List Str} {sp : Sp} {dvs : List V} {ds : List Value} {E : XK}
theorem g_run {pins : List (Addr × Obj)} {σ : L2.St} {H : Hp} {st : Shared} {Q : VK} {vs : List Value} {xs : List V}
    (G : GOk X.prog X.w X.K X.mg X.base CX k f fd ps sp) (qa : Quiet X.A) (rm : Room k X.A) (hb : Binds X.K fd ps ds)
    (hd : Vals dvs ds) (hx : Passes CX X E) (I : Inv X pins σ H st) (r : Vals xs vs) (h : sp (xs ++ dvs) H Q E) :
    wpAny (model X.prog X.w) X.A (call (.ref f) vs) (EP X pins σ Q) X.xe st := by
  have rr : Vals (xs ++ dvs) (vs ++ ds) := Vals.append r hd
  have el : (vs ++ ds).length = ps.length := (Vals.length rr).symm.trans (G.ln _ _ _ _ h)
  have c := G.go X.A X.stack st H ⟨vs, []⟩ (vs ++ ds) (xs ++ dvs) Q E qa rm I.env0 (hb st vs I.kIn el) rr h
  refine wpAny_call (codeAny_mono c fun res s2 z => ?_)
  cases res with
  | error e => exact hx pins σ H st e s2 I z
  | ok fl => cases fl <;> first | exact I.after z | exact False.elim z
theorem pe_g {x : Str} {p pos : Pos} {e : Expr} {es : List Expr} {t : TA}
    (G : GOk X.prog X.w X.K X.mg X.base CX k f fd ps sp) (qa : Quiet X.A) (rm : Room k X.A) (hg : Gl X x)
    (hm : X.mg x = some (.ref f)) (hk : PySem.W.keepIn X.K (.ref f) = true) (hb : Binds X.K fd ps ds) (hd : Vals dvs ds)
    (hx : Passes CX X E) (ha : PA X (e :: es) t) (hdb : (x == ("__debug__" : Str)) = false := by decide)
    (he : starEach (e :: es) X.env = (false, eval e X.env) :: starEach es X.env := by rfl)
    (hpl : (backTo pos (starEach es X.env)).any (·.1) = false := by rfl) :
    PE X (.Call (.Name x p) (e :: es) [] pos) (tCall sp dvs E t) := by
  constructor
  intro pins s σ H Q I h
  refine wpAny_Call_Name_kw (ld_glob I hg hm ?_ hdb)
  refine PySem.W.callWith_K (h₀ := X.base) I.ok.mod.kin hk ?_ he hpl
  refine thn (ha.run pos pins s σ H _ I h) fun us s1 z => ?_
  obtain ⟨xs, H1, I1, r, q⟩ := z
  exact ⟨I1.kIn, g_run G qa rm hb hd hx I1 r q⟩
end
/-! ### repr of data -/
/-- repr(x): x a whole of data without dicts -/
def rRepr (K : PySem.W.Frag) : List V → Hp → VK → Prop := fun xs H Q => ∃ (x : V) (d : PyData), xs = [x] ∧ Dp K H x d ∧
  d.showable = true ∧ d.hasDict = false ∧ d.depth ≤ 50 ∧ d.shown.length ≤ sizeLine ∧ Q (.str d.shown) H
theorem call_repr {X : Cx} (qa : Quiet X.A) (hu : X.A.units + 64 < cLine) : CallR X (.builtin "repr") (rRepr X.K) := by
  intro pins s σ H xs us Q I r h
  obtain ⟨x, d, rfl, hd, sh, nd, dp, sz, q⟩ := h
  obtain ⟨u, rfl, ru⟩ := vals1 r
  obtain ⟨as, rd⟩ := Dp.reads I d x u hd ru
  have keep : ∀ (h' : Heap) (t : Tok) (tk : Nat), (∀ b o, s.heap.get? b = some o → h'.get? b = some o) →
      EP X pins σ Q (.str d.shown t) { s with heap := h', toks := tk } :=
    fun h' t tk k => ⟨.str d.shown, H, I.kept (t' := tk) k, ⟨t, rfl⟩, q⟩
  have flat : ∀ (t : Tok) (tk : Nat), EP X pins σ Q (.str d.shown t) { s with toks := tk } :=
    fun t tk => ⟨.str d.shown, H, I.tok tk, ⟨t, rfl⟩, q⟩
  cases d with
  | none => cases rd; exact PySem.P.repr_of_none (flat _ _)
  | bool b => cases rd; exact PySem.P.repr_of_bool (flat _ _)
  | int i =>
    cases rd
    exact PySem.P.repr_of_int (of_decide_eq_true (by simpa only [PyData.showable] using sh)) (flat _ _)
  | str y => cases rd; exact PySem.P.repr_of_str (flat _ _) sz
  | list ds =>
    cases rd with
    | list a1 a2 a3 a4 => exact repr_of_reads' (.list a1 a2 a3 a4) sh (PyData.noDict_hsm nd) qa (by omega) (fun _ _ z => z) (fun h' t tk k => keep h' t tk k) sz
  | tuple ds =>
    cases rd with
    | tuple a1 a2 a3 a4 => exact repr_of_reads' (.tuple a1 a2 a3 a4) sh (PyData.noDict_hsm nd) qa (by omega) (fun _ _ z => z) (fun h' t tk k => keep h' t tk k) sz
  | dict kv => simp only [PyData.hasDict] at nd; cases nd
/-! ### the end of a law's row, the law's def being quiet -/
/-- the law's call, from a heap in which at most the script is tracked -/
theorem end_core {P : Program} {w : World} {K : PySem.W.Frag} {mg mb : Str → Option Value} {CX : CXT} {k : Nat} {fa a : Addr} {fd : FuncData}
    {x : Str} {sp : Sp} {st : Shared} {vs : List Value} {H : Hp}
    (KX : K.In st.heap) (hn : st.heap.Ns mainGlobals mg) (hb : st.heap.Ns builtinsNs mb)
    (hbb : ∀ y : Str, y ≠ "__name__" → mb y = bootBuiltins y) (hlim : st.heap.NoLimit) (hg : st.gens = #[])
    (ha : st.heap.get? a = some { cls := .type "list", data := .seq vs.toArray }) (rm : Room k callerA)
    (G : ∀ base : Heap, K.In base → base.Ns mainGlobals mg → GOk P w K mg base CX k fa fd [x] sp)
    (hbind : ∀ (s : Shared) (u : Value), BindsTo s fd ⟨[u], []⟩ [(x, u)])
    (hsp : sp [.ref a] H (fun v _ => v = .bl true) fun _ _ _ => False)
    (hCX : ∀ e s', CX [] H st (fun _ _ _ => False) e s' → False)
    (hO : Only H) (hok : HOk P w H st.heap) (hA : ∀ b, H b ≠ none → b = a) (hK : H a ≠ none → K.lookup a = none) :
    codeAny (model P w) callerA (.call (.ref fa) ⟨[.ref a], []⟩)
      (fun r s' => r = .ok (.ret (.bool true)) ∧ OldK st.heap s'.heap ∧ s'.os = st.os ∧ AllBare s'.gens) st := by
  have only : ∀ {b : Addr} {u : HO}, H b = some u → b = a := fun {b u} q => hA b (by rw [q]; exact fun z => nomatch z)
  have under : ∀ {b : Addr} {o : Obj}, st.heap.get? b = some o → H b = none → (hidT st.heap H).get? b = some o :=
    fun z n => hidT_get z n
  have free : ∀ {b : Addr} {o : Obj} {es : Array DictEntry} {ep : Nat}, st.heap.get? b = some o → o.data = .dict es ep → H b = none := by
    intro b o es ep z d
    cases q : H b with
    | none => rfl
    | some u =>
      have z2 := z
      rw [only q, ha] at z2
      have z3 := Option.some.inj z2
      rw [← z3] at d
      exact nomatch d
  have ns' : ∀ {b : Addr} {m : Str → Option Value}, st.heap.Ns b m → (hidT st.heap H).Ns b m := by
    rintro b m ⟨o, es, ep, z, d, r⟩
    exact ⟨o, es, ep, under z (free z d), d, r⟩
  have kin : K.In (hidT st.heap H) := by
    intro b o z
    refine under (KX b o z) ?_
    cases q : H b with
    | none => rfl
    | some u =>
      have e1 := only q
      rw [e1] at z q
      rw [hK (by rw [q]; exact fun z => nomatch z)] at z
      exact nomatch z
  obtain ⟨mc, l1, l2⟩ := hlim
  have md : Mod K mg (hidT st.heap H) := ⟨kin, ns' hn, ⟨mb, ns' hb, hbb⟩, ⟨mc, ns' l1, l2⟩⟩
  have e0 : Env0 P w K mg (hidT st.heap H) callerA [] st H :=
    ⟨rfl, md, fun b o z => of_hidT z, Nat.le_of_eq (hidT_size _ _), trivial, fun b z => absurd (show b ∈ ([] : List Addr) from z) List.not_mem_nil, hok, .of_eq hg⟩
  have c := (G _ kin (ns' hn)).go callerA [] st H ⟨[.ref a], []⟩ [.ref a] [.ref a] _ _ rfl rm e0 (hbind st (.ref a)) (.cons rfl .nil) hsp
  refine codeAny_mono c fun r s' z => ?_
  cases r with
  | error e => exact (hCX e s' z).elim
  | ok fl =>
    cases fl with
    | next => exact False.elim z
    | brk => exact False.elim z
    | cont => exact False.elim z
    | ret u =>
      obtain ⟨v, H2, os, br, un, ok2, rv, q⟩ := z
      have q2 : v = .bl true := q
      rw [q2] at rv
      have rv2 : u = Value.bool true := rv
      rw [rv2]
      refine ⟨rfl, OldK.of_keep fun b o y => ?_, os, br⟩
      cases q3 : H b with
      | none => exact un.keep b o y q3 (fun z => absurd (show b ∈ ([] : List Addr) from z) List.not_mem_nil) List.not_mem_nil
      | some u2 =>
        rcases hO b with z | ⟨ob, ys, z⟩
        · rw [q3] at z
          exact nomatch z
        · obtain ⟨y1, _⟩ := hok b _ z
          obtain ⟨y2, _⟩ := ok2 b _ (un.frzs b ob _ z)
          rw [y] at y1
          rw [Option.some.inj y1]
          exact y2
theorem end_call {P : Program} {w : World} {K : PySem.W.Frag} {mg mb : Str → Option Value} {CX : CXT} {k : Nat} {fa a : Addr} {fd : FuncData}
    {x : Str} {sp : Sp} {st : Shared} {vs : List Value} {ns : List Int}
    (KX : K.In st.heap) (hn : st.heap.Ns mainGlobals mg) (hb : st.heap.Ns builtinsNs mb)
    (hbb : ∀ y : Str, y ≠ "__name__" → mb y = bootBuiltins y) (hlim : st.heap.NoLimit) (hg : st.gens = #[])
    (ha : st.heap.get? a = some { cls := .type "list", data := .seq vs.toArray }) (hi : IntsAre vs ns) (hl : ns.length ≤ sizeLine) (rm : Room k callerA)
    (G : ∀ base : Heap, K.In base → base.Ns mainGlobals mg → GOk P w K mg base CX k fa fd [x] sp)
    (hbind : ∀ (s : Shared) (u : Value), BindsTo s fd ⟨[u], []⟩ [(x, u)])
    (hsp : ∀ H : Hp, Only H → SqL K H a (ns.map V.int) → sp [.ref a] H (fun v _ => v = .bl true) fun _ _ _ => False)
    (hCX : ∀ H e s', CX [] H st (fun _ _ _ => False) e s' → False) :
    codeAny (model P w) callerA (.call (.ref fa) ⟨[.ref a], []⟩)
      (fun r s' => r = .ok (.ret (.bool true)) ∧ OldK st.heap s'.heap ∧ s'.os = st.os ∧ AllBare s'.gens) st := by
  have rv := vals_ints hi
  have ln := hi.length
  cases hk : K.lookup a with
  | some o =>
    have z := KX a o hk
    rw [ha] at z
    have z2 := (Option.some.inj z).symm
    subst z2
    let H0 : Hp := fun _ => none
    have S0 : SqL K H0 a (ns.map V.int) := .inr ⟨_, vs.toArray, _, hk, rfl, rfl, rfl, by rw [List.size_toArray, ln]; exact hl, by simpa using rv⟩
    have O0 : Only H0 := fun _ => .inl rfl
    exact end_core KX hn hb hbb hlim hg ha rm G hbind (hsp H0 O0 S0) (hCX H0) O0 (fun b u z => nomatch (show (none : Option HO) = some u from z))
      (fun b z => absurd rfl z) (fun z => absurd rfl z)
  | none =>
    let fz : HO := .frz { cls := .type "list", data := .seq vs.toArray } (.lst (ns.map V.int))
    let H1 : Hp := fun b => if b = a then some fz else none
    have at_a : H1 a = some fz := if_pos rfl
    have off : ∀ b, b ≠ a → H1 b = none := fun b hb => if_neg hb
    have O1 : Only H1 := by
      intro b
      by_cases e : b = a
      · exact .inr ⟨_, _, by rw [e]; exact at_a⟩
      · exact .inl (off b e)
    have on : ∀ b, H1 b ≠ none → b = a := by
      intro b z
      by_cases e : b = a
      · exact e
      · exact absurd (off b e) z
    refine end_core KX hn hb hbb hlim hg ha rm G hbind (hsp H1 O1 (.inl (.inr ⟨_, at_a⟩))) (hCX H1) O1 (fun b u z => ?_) on fun _ => hk
    have e : b = a := on b (by rw [z]; exact fun z => nomatch z)
    subst e
    rw [at_a] at z
    have z2 := Option.some.inj z
    subst z2
    exact ⟨ha, by rw [List.length_map]; exact hl, vs, _, rv, ha⟩
theorem walk_G {l : PySem.W.OpenLaw} {n k : Nat} {q : Program} {loose : List Str} {XP : (Str → Option Value) → Heap → Prop} {YP : World → Heap → Prop}
    {d : DefRec} {K : Params → PySem.W.Frag} {CX : World → CXT} {sp : World → Sp} {x : Str}
    (hn : l.most = some n) (hn2 : n ≤ sizeLine) (hdf : d.params.defaults = []) (rm : Room k callerA)
    (hY : ∀ (w : World) (h : Heap), YP w h → (K w.params).In h)
    (F : ∀ (w : World) (mg : Str → Option Value) (fa : Addr) (h : Heap), (K w.params).In h → h.Ns mainGlobals mg → mg d.name = some (.ref fa) →
      ∃ fd : FuncData, (∀ (s : Shared) (u : Value), BindsTo s fd ⟨[u], []⟩ [(x, u)]) ∧
        ∀ base : Heap, (K w.params).In base → base.Ns mainGlobals mg → GOk l.prog w (K w.params) mg base (CX w) k fa fd [x] (sp w))
    (hsp : ∀ (w : World) (H : Hp) (a : Addr) (ns : List Int), ns.length ≤ n → (∀ z ∈ ns, Builtin.Int.intBits z ≤ 1048576) → Only H →
      SqL (K w.params) H a (ns.map V.int) → sp w [.ref a] H (fun v _ => v = .bl true) fun _ _ _ => False)
    (hCX : ∀ (w : World) (H : Hp) (s : Shared) (e : Value) (s' : Shared), CX w [] H s (fun _ _ _ => False) e s' → False) :
    PySem.W.WalkO q loose XP YP l.row.toRowW d [] (fun f vs => PySem.call f vs) := by
  refine Att.attach_callB hn hdf ?_
  intro w s0 s1 mg mb fa o pm cd doc a vs ns Gr Y ho hd hcd hmg hobj hints hlen hbits hg
  have KX := hY w _ Y
  obtain ⟨fd, hb, hF⟩ := F w mg fa _ KX Gr.T.g hmg
  exact end_call KX Gr.T.g Gr.T.b Gr.T.builtins Gr.T.nolimit hg hobj hints (Nat.le_trans hlen hn2) rm hF hb
    (fun H hO hS => hsp w H a ns hlen hbits hO hS) (fun H e s' => hCX w H s1 e s')
end Gk
set_option Elab.async false
set_option linter.all false
set_option maxRecDepth 100000
set_option maxHeartbeats 4000000
/-! Exceptions of the program's own classes held as values: made, asked for their class, their fields read. -/
namespace Gk
open PySem PySem.Spec PyProof.Rows L2
/-- the chain behind a class that stands directly under the class at S -/
def XM (S : Addr) : List Value := [.ref S, .type "ValueError", .type "Exception", .type "BaseException", .type "object"]
/-- what stands of every class of errors -/
structure XG (K : PySem.W.Frag) : Prop where
  gt : PySem.W.specialIn K (.builtin "object.__class__") "__get__" = some (some (.builtin "getset_descriptor.__get__"))
  tk : PySem.W.takesIn K (.builtin "object.__class__") = some true
/-- an error class under the class at S -/
structure XC (K : PySem.W.Frag) (S C : Addr) (nm : Str) : Prop where
  row : ∃ q N bs sn sub ab col dd k0 k1 k2 k3 k5, K.lookup C = some (excClassObj nm q C N bs (XM S) true sn sub ab col dd k0 k1 k2 k3 k5 "ValueError.__new__")
  sa : PySem.W.findIn K (.ref C) "__setattr__" = some (some (.builtin "object.__setattr__"))
  ga : PySem.W.findIn K (.ref C) "__getattribute__" = some (some (.builtin "BaseException.__getattribute__"))
  gg : PySem.W.findIn K (.ref C) "__getattr__" = some none
  cl : PySem.W.findIn K (.ref C) "__class__" = some (some (.builtin "object.__class__"))
  kp : PySem.W.keepIn K (.ref C) = true
section
variable {K : PySem.W.Frag} {S C D : Addr} {nm nm' : Str}
theorem XC.cls (x : XC K S C nm) : ∃ cd, PySem.W.clsIn K C = some cd ∧ cd.mro = .ref C :: XM S ∧ cd.hasDict = true := by
  obtain ⟨q, N, bs, sn, sub, ab, col, dd, k0, k1, k2, k3, k5, e⟩ := x.row
  refine ⟨_, by unfold PySem.W.clsIn; rw [e], rfl, rfl⟩
theorem XC.mro (x : XC K S C nm) (b : Value) : PySem.W.mroIn K C b = some ((Value.ref C :: XM S).contains b) := by
  obtain ⟨cd, e, m, _⟩ := x.cls
  unfold PySem.W.mroIn
  rw [e, Option.bind_some, m, if_neg (by intro z; exact nomatch z)]
theorem XC.dct (x : XC K S C nm) : PySem.W.hasDictIn K C = true := by
  obtain ⟨cd, e, _, h⟩ := x.cls
  unfold PySem.W.hasDictIn
  rw [e]
  exact h
theorem XC.typ (x : XC K S C nm) : PySem.W.typeIn K (.ref C) = some (.type "type") := by
  obtain ⟨q, N, bs, sn, sub, ab, col, dd, k0, k1, k2, k3, k5, e⟩ := x.row
  show (K.lookup C).map (·.cls) = _
  rw [e]
  rfl
theorem XC.bex (x : XC K S C nm) : PySem.W.subIn K (.ref C) (.type "BaseException") = some true := x.mro _
theorem XC.obj (x : XC K S C nm) : PySem.W.mroIn K C (.type "object") = some true := x.mro _
theorem refs_XM : PySem.HandSPX.refsVE (XM S) = true := by
  show (([.type "ValueError", .type "Exception", .type "BaseException", .type "object"] : List Value) == PySem.HandSPX.veTail) = true
  decide +kernel
theorem XC.oex (x : XC K S C nm) : OexC K C := by
  obtain ⟨q, N, bs, sn, sub, ab, col, dd, k0, k1, k2, k3, k5, e⟩ := x.row
  exact ⟨⟨nm, q, N, bs, XM S, sn, sub, ab, col, dd, k0, k1, k2, k3, k5, e, refs_XM⟩, x.sa, x.bex, x.typ, x.kp⟩
/-- classes of unlike names stand apart -/
theorem XC.ne (x : XC K S C nm) (y : XC K S D nm') (h : nm ≠ nm') : C ≠ D := by
  rintro rfl
  obtain ⟨q, N, bs, sn, sub, ab, col, dd, k0, k1, k2, k3, k5, e⟩ := x.row
  obtain ⟨q', N', bs', sn', sub', ab', col', dd', l0, l1, l2, l3, l5, e'⟩ := y.row
  rw [e] at e'
  have z := Option.some.inj e'
  injection z with _ _ z2 _
  injection z2 with z3
  injection z3 with z4
  exact h z4
theorem beq_ref (a b : Addr) : (Value.ref a == Value.ref b) = decide (a = b) := by
  by_cases h : a = b
  · subst h
    simp
  · rw [decide_eq_false h]
    exact beq_eq_false_iff_ne.mpr fun e => h (Value.ref.inj e)
theorem XC.kitSame (x : XC K S C nm) : PySem.W.kitOne K (.ref C) (.ref C) = some true := by
  unfold PySem.W.kitOne
  rw [if_pos (by simp)]
theorem XC.kitNe (x : XC K S C nm) (y : XC K S D nm') (h : C ≠ D) (hS : S ≠ D) : PySem.W.kitOne K (.ref C) (.ref D) = some false := by
  obtain ⟨cd, e, _⟩ := y.cls
  have e1 : (Value.ref C == Value.ref D) = false := by rw [beq_ref, decide_eq_false h]
  have e2 : (Value.ref S == Value.ref D) = false := by rw [beq_ref, decide_eq_false hS]
  unfold PySem.W.kitOne
  rw [e1, if_neg Bool.false_ne_true]
  unfold PySem.W.kitCls
  simp only [e, y.typ, Option.isSome_some, Bool.true_and, beq_self_eq_true, if_true]
  show PySem.W.mroIn K C (.ref D) = some false
  rw [x.mro]
  have e1' : (Value.ref D == Value.ref C) = false := by rw [beq_ref, decide_eq_false (Ne.symm h)]
  have e2' : (Value.ref D == Value.ref S) = false := by rw [beq_ref, decide_eq_false (Ne.symm hS)]
  simp only [XM, List.contains_cons, e1', e2', Bool.false_or, List.contains_nil, Bool.or_false]
  rfl
theorem XC.kitTy (x : XC K S C nm) {T : String} {b : Bool} (hm : PySem.W.kitMeta T = true) (h : ([.type "ValueError", .type "Exception", .type "BaseException", .type "object"] : List Value).contains (.type T) = b) :
    PySem.W.kitOne K (.ref C) (.type T) = some b := by
  unfold PySem.W.kitOne
  rw [if_neg (by intro z; cases (beq_iff_eq.mp z))]
  unfold PySem.W.kitCls
  simp only [hm, if_true]
  show PySem.W.mroIn K C (.type T) = some b
  rw [x.mro]
  have e1 : (Value.type T == Value.ref C) = false := beq_eq_false_iff_ne.mpr fun z => nomatch z
  have e2 : (Value.type T == Value.ref S) = false := beq_eq_false_iff_ne.mpr fun z => nomatch z
  rw [← h]
  simp only [XM, List.contains_cons, e1, e2, Bool.false_or]
/-- the class S itself -/
structure XB (K : PySem.W.Frag) (S : Addr) : Prop where
  ic : PySem.W.isClsIn K S = true
  ty : PySem.W.typeIn K (.ref S) = some (.type "type")
  bx : PySem.W.subIn K (.ref S) (.type "BaseException") = some true
theorem XC.kitBase (x : XC K S C nm) (y : XB K S) : PySem.W.kitOne K (.ref C) (.ref S) = some true := by
  unfold PySem.W.kitOne
  by_cases h : (Value.ref C == Value.ref S) = true
  · rw [if_pos h]
  · rw [if_neg h]
    unfold PySem.W.kitCls
    have i : (PySem.W.clsIn K S).isSome = true := y.ic
    simp only [i, y.ty, Bool.true_and, beq_self_eq_true, if_true]
    show PySem.W.mroIn K C (.ref S) = some true
    rw [x.mro]
    simp [XM]
theorem XC.exm (x : XC K S C nm) (y : XB K S) (h : C ≠ S) : PySem.W.exmOne K (.ref C) (.ref S) = some true := by
  have k := x.kitBase y
  unfold PySem.W.kitOne at k
  rw [if_neg (by rw [beq_ref, decide_eq_false h]; exact Bool.false_ne_true)] at k
  unfold PySem.W.exmOne
  rw [if_pos (by rw [y.bx] <;> rfl)]
  exact k
end
/-- an error of the class at C at e, its dict at d | none -/
def XAt (H : Hp) (e C : Addr) (fs : List (Str × V)) : Prop :=
  (fs = [] ∧ H e = some (exo e C none)) ∨ ∃ d, d ≠ e ∧ H e = some (exo e C (some d)) ∧ H d = some (exd d fs)
section
variable {X : Cx} {pins : List (Addr × Obj)} {σ : L2.St} {H : Hp} {st : Shared} {e C S : Addr} {fs : List (Str × V)} {nm : Str}
theorem XAt.keep {H' : Hp} (x : XAt H e C fs) (k : ∀ b o, H b = some o → H' b = some o) : XAt H' e C fs := by
  rcases x with ⟨a, b⟩ | ⟨d, n, a, b⟩
  · exact .inl ⟨a, k _ _ b⟩
  · exact .inr ⟨d, n, k _ _ a, k _ _ b⟩
theorem XAt.inst (x : XAt H e C fs) (I : Inv X pins σ H st) : ∃ ox od, PySem.W.InstAt st.heap e ox C od := by
  rcases x with ⟨_, a⟩ | ⟨d, _, a, b⟩
  · obtain ⟨t, h⟩ := exo_at I.hok a
    exact ⟨_, none, h, rfl, rfl, trivial⟩
  · obtain ⟨t, h⟩ := exo_at I.hok a
    obtain ⟨mA, ⟨o, es, ep, g, _⟩, _⟩ := exd_at I.hok b
    exact ⟨_, some o, h, rfl, rfl, g⟩
/-- isinstance(e, c) -/
def rIsX (K : PySem.W.Frag) (S : Addr) : List V → Hp → VK → Prop := fun xs H Q => ∃ (e C : Addr) (fs : List (Str × V)) (nm : Str) (c : V) (u : Value) (b : Bool),
  xs = [.ref e, c] ∧ ClsV c u ∧ XAt H e C fs ∧ XC K S C nm ∧ PySem.W.kitOne K (.ref C) u = some b ∧ Q (.bl b) H
def rIsXT (K : PySem.W.Frag) (S : Addr) : List V → Hp → VK → Prop := fun xs H Q => ∃ (e C tp : Addr) (fs : List (Str × V)) (nm : Str) (cs : List V) (us : List Value) (b : Bool),
  xs = [.ref e, .ref tp] ∧ H tp = some (.tup cs) ∧ Paired ClsV cs us ∧ XAt H e C fs ∧ XC K S C nm ∧ PySem.W.kitAny K (.ref C) us = some b ∧ Q (.bl b) H
theorem XC.kitx (x : XC X.K S C nm) (g : XG X.K) {ox : Obj} {od : Option Obj} : PySem.W.KitX X.K (.ref e) (.ref C) (fun h => PySem.W.InstAt h e ox C od) := by
  obtain ⟨cd, z, _⟩ := x.cls
  exact PySem.W.kitx_exc (by rw [z]; rfl) x.ga x.gg x.bex x.cl g.gt g.tk x.obj
theorem call_isX (g : XG X.K) : CallR X (.builtin "isinstance") (rIsX X.K S) := by
  intro pins s σ H xs us Q I r h
  obtain ⟨e, C, fs, nm, c, u, b, rfl, hc, hx, x, hk, q⟩ := h
  obtain ⟨u1, u2, rfl, r1, r2⟩ := vals2 r
  cases (show u1 = Value.ref e from r1)
  cases hc.eq r2
  obtain ⟨ox, od, J⟩ := hx.inst I
  exact PySem.W.kia_one (x.kitx g) I.kIn J hk (fun z => nomatch z) fun tk => ⟨.bl b, H, I.tok tk, rfl, q⟩
theorem call_isXT (g : XG X.K) : CallR X (.builtin "isinstance") (rIsXT X.K S) := by
  intro pins s σ H xs us Q I r h
  obtain ⟨e, C, tp, fs, nm, cs, ws, b, rfl, ht, hc, hx, x, hk, q⟩ := h
  obtain ⟨u1, u2, rfl, r1, r2⟩ := vals2 r
  cases (show u1 = Value.ref e from r1)
  cases (show u2 = Value.ref tp from r2)
  obtain ⟨ox, od, J⟩ := hx.inst I
  obtain ⟨_, its, rv, o, h1, h2, n, h3⟩ := (show ObjOk X.prog X.w H s.heap tp (.tup cs) from I.hok tp _ ht)
  cases ClsV.all hc rv
  obtain ⟨oc, odd, dt, sl⟩ := o
  dsimp only at h2 h3
  cases h2
  cases h3
  exact PySem.W.kia_tup (x.kitx g) I.kIn J h1 hk (fun z => nomatch z) fun tk => ⟨.bl b, H, I.tok tk, rfl, q⟩
/-- e.f -/
def tXf (K : PySem.W.Frag) (S : Addr) (f : Str) (te : TE) : TE := fun σ H Q => te σ H fun x H1 => ∃ (e C d : Addr) (fs : List (Str × V)) (nm : Str) (v : V),
  x = .ref e ∧ H1 e = some (exo e C (some d)) ∧ H1 d = some (exd d fs) ∧ XC K S C nm ∧ PySem.W.findIn K (.ref C) f = some none ∧ fs.lookup f = some v ∧ Q v H1
theorem pe_xf {o : Expr} {f : Str} {te : TE} {pos : Pos} (he : PE X o te) (hb : attributeBase o f X.env (eval o X.env) = eval o X.env := by rfl) :
    PE X (.Attribute o f pos) (tXf X.K S f te) := by
  refine ⟨fun pins s σ H Q I h => ?_⟩
  refine attr_of hb (thn (he.run pins s σ H _ I h) fun u s1 z => ?_)
  obtain ⟨y, H1, I1, ry, e, C, d, fs, nm, v, rfl, ea, ed, x, hno, hl, q⟩ := z
  cases (show u = Value.ref e from ry)
  obtain ⟨t1, ho⟩ := exo_at I1.hok ea
  obtain ⟨mA, hns, rel⟩ := exd_at I1.hok ed
  obtain ⟨od, hod, hlook⟩ := lookIn_ns hns
  have J : PySem.W.InstAt s1.heap e _ C (some od) := ⟨ho, rfl, rfl, hod⟩
  have rr := rel f
  rw [hl] at rr
  obtain ⟨w, hw, rw'⟩ := RelO.some_of rr
  exact HandSPX.exc_get I1.kIn J x.ga x.gg x.bex (PySem.W.findObj_own x.dct hno rfl (by rw [hlook, hw])) (handed_of rw') ⟨v, H1, I1.tok _, rw', q⟩
end
end Gk
set_option Elab.async false
set_option linter.all false
set_option maxRecDepth 100000
set_option maxHeartbeats 4000000
namespace Gk
open PySem PySem.Spec PyProof.Rows L2
/-- C(e, ..) as a value, C an error class with an __init__ of its own that keeps sp -/
def tMkV (C : Addr) (sp : Sp) (dvs : List V) (ta : TA) : TE := fun σ H Q => ta σ H fun vs H1 => vs.length ≤ 1000 ∧
  ∀ a, H1 a = none → sp (.ref a :: (vs ++ dvs)) (upd H1 a (exo a C none)) (fun v H2 => v = .non ∧ Q (.ref a) H2) fun _ _ _ => False
section
variable {X : Cx} {CX : CXT} {k : Nat} {C fI : Addr} {fd : FuncData} {ps : List Str} {sp : Sp} {dvs : List V} {ds : List Value}
theorem run_mkx {pins : List (Addr × Obj)} {σ : L2.St} {H : Hp} {st : Shared} {Q : VK} {us : List Value} {vs : List V} (T : OexC X.K C)
    (iC : PySem.W.findIn X.K (.ref C) "__init__" = some (some (.ref fI))) (tI : PySem.W.typeIn X.K (.ref fI) = some (.type "function"))
    (F : FnOk X.prog X.w X.K X.mg X.base CX k fI fd ps sp) (rm : Room (k + 1) X.A) (hb : Binds X.K fd ps ds) (hd : Vals dvs ds)
    (hx : Passes CX X fun _ _ _ => False) (I : Inv X pins σ H st) (r : Vals vs us) (hz : vs.length ≤ 1000)
    (h : ∀ a, H a = none → sp (.ref a :: (vs ++ dvs)) (upd H a (exo a C none)) (fun v H2 => v = .non ∧ Q (.ref a) H2) fun _ _ _ => False) :
    wpAny (model X.prog X.w) X.A (call (.ref C) us) (EP X pins σ Q) X.xe st := by
  obtain ⟨nm, q, N, bs, bm, sn, sub, ab, col, dd, k0, k1, k2, k3, k5, hC, hbm⟩ := T.cls
  obtain ⟨hp, g, dr, tk, os⟩ := st
  have up : hp.objs.size ≤ hp.objs.size + 1 := Nat.le_succ _
  have old : ∀ b o, hp.get? b = some o → ((hp.push (PySem.W.kdv_tup us)).push (PySem.HandSPX.excO C hp.objs.size)).get? b = some o :=
    fun b o z => Heap.get?_push_of_some _ (Heap.get?_push_of_some _ z)
  have new : ((hp.push (PySem.W.kdv_tup us)).push (PySem.HandSPX.excO C hp.objs.size)).get? (hp.objs.size + 1) = some (PySem.HandSPX.excO C hp.objs.size) := by heap_get
  have J : Inv X pins σ (upd H (hp.objs.size + 1) (exo (hp.objs.size + 1) C none)) ⟨(hp.push (PySem.W.kdv_tup us)).push (PySem.HandSPX.excO C hp.objs.size), g, dr, tk, os⟩ :=
    I.laid (t' := tk) old up (exo_ok new)
  have hq := h (hp.objs.size + 1) (I.hok.fresh up)
  have rr : Vals (V.ref (hp.objs.size + 1) :: (vs ++ dvs)) (Value.ref (hp.objs.size + 1) :: (us ++ ds)) := .cons rfl (Vals.append r hd)
  have el : (Value.ref (hp.objs.size + 1) :: us ++ ds).length = ps.length := (Vals.length rr).symm.trans (F.len _ _ _ _ hq)
  have sz : us.length ≤ sizeLine := by
    have z := Vals.length r
    rw [sizeLine_eq]
    omega
  have run := F.run _ X.stack _ _ ⟨Value.ref (hp.objs.size + 1) :: us, []⟩ (Value.ref (hp.objs.size + 1) :: (us ++ ds)) _ _ (fun _ _ _ => False) (rm.make C us []) (J.env0.make C us [])
    (hb _ (Value.ref (hp.objs.size + 1) :: us) J.kIn el) rr hq
  refine wpAny_call (PySem.HandSPX.call_own PySem.F.excBase_ValueError (fun Y => PySem.HandSPX.refsVE_contains Y bm hbm) (I.kIn _ _ hC) (PySem.W.looks_findIn I.kIn iC)
    (fun self => PySem.W.bind_fn I.kIn self tI) sz (codeAny_mono run fun res s2 z => ?_))
  cases res with
  | error er => exact hx pins σ _ _ er s2 J z
  | ok fl =>
    cases fl with
    | ret u =>
      obtain ⟨v, H2, J2, rv, ev, q2⟩ := J.after z
      subst ev
      exact ⟨rv, V.ref (hp.objs.size + 1), H2, J2, rfl, q2⟩
    | next => exact False.elim z
    | brk => exact False.elim z
    | cont => exact False.elim z
theorem pe_mkx {x : Str} {p pos : Pos} {e : Expr} {es : List Expr} {ta : TA} (T : OexC X.K C)
    (iC : PySem.W.findIn X.K (.ref C) "__init__" = some (some (.ref fI))) (tI : PySem.W.typeIn X.K (.ref fI) = some (.type "function"))
    (F : FnOk X.prog X.w X.K X.mg X.base CX k fI fd ps sp) (rm : Room (k + 1) X.A) (hb : Binds X.K fd ps ds) (hd : Vals dvs ds)
    (hx : Passes CX X fun _ _ _ => False) (hg : Gl X x) (hm : X.mg x = some (.ref C)) (ha : PA X (e :: es) ta)
    (hdb : (x == ("__debug__" : Str)) = false := by decide) (he : starEach (e :: es) X.env = (false, eval e X.env) :: starEach es X.env := by rfl)
    (hpl : (backTo pos (starEach es X.env)).any (·.1) = false := by rfl) :
    PE X (.Call (.Name x p) (e :: es) [] pos) (tMkV C sp dvs ta) := by
  constructor
  intro pins s σ H Q I h
  refine wpAny_Call_Name_kw (ld_glob I hg hm ?_ hdb)
  refine PySem.W.callWith_K (h₀ := X.base) I.ok.mod.kin T.kC ?_ he hpl
  refine thn (ha.run pos pins s σ H _ I h) fun us s1 z => ?_
  obtain ⟨vs, H1, I1, r, hz, q⟩ := z
  exact ⟨I1.kIn, run_mkx T iC tI F rm hb hd hx I1 r hz q⟩
end
end Gk
set_option Elab.async false
set_option linter.all false
set_option maxRecDepth 100000
set_option maxHeartbeats 4000000
namespace PySem
namespace KwMake
open PySem.W PySem.Calls PyProof.Rows PySem.HandSPX
section
variable {prog : Program} {w : World} {M : Model} {A : Around} {E : Value → Shared → Prop} {R : Result → Shared → Prop} {h : Heap} {g : Array GenState} {d : Drawn} {t : Nat} {os : OsState}
variable {nm q : Str} {C N : Addr} {bs bm bmB : List Value} {hdct : Bool} {sn : List Str} {sub : List Value} {ab : Bool} {col : Option Bool} {dd : Option Addr} {k0 k1 k2 k3 k5 : Option Value} {B newId initId : String}
theorem new_check (F : ExcBaseFacts B newId initId bmB) (hT : ∀ X : String, bm.contains (.type X) = bmB.contains (.type X)) {rest : List Value} {kw : List (Str × Value)} {Q : Unit → Shared → Prop}
    (hC : h.get? C = some (excClassObj nm q C N bs bm hdct sn sub ab col dd k0 k1 k2 k3 k5 newId))
    (hq : Q () ⟨h, g, d, t, os⟩) : wpAny M A (checkBuiltinCall newId ⟨.ref C :: rest, kw⟩) Q E ⟨h, g, d, t, os⟩ := by
  have ct : (Value.ref C :: bm).contains (.type B) = true := by rw [List.contains_cons, hT, F.hasB, Bool.or_true]
  have ns := F.noStar
  simp only [checkBuiltinCall, F.newKind, F.newSplit, F.newRow]
  repeat (first
    | refine wpAny_loadPart_at hC ?_
    | (refine wpAny_isSubtype_exc hC ?_; rw [ct])
    | refine wpAny_staticBase_exc hC ?_
    | refine wpAny_madeBy_exc hC ?_
    | simp only [bne_self_eq_false, Bool.false_eq_true, if_false]
    | wp_step)
  exact hq
theorem new_go (F : ExcBaseFacts B newId initId bmB) (hT : ∀ X : String, bm.contains (.type X) = bmB.contains (.type X)) {rest : List Value} {kw : List (Str × Value)}
    (hC : h.get? C = some (excClassObj nm q C N bs bm hdct sn sub ab col dd k0 k1 k2 k3 k5 newId))
    (hq : R (.ok (.ret (.ref (h.objs.size + 1)))) ⟨(h.push (PySem.W.kdv_tup rest)).push (excO C h.objs.size), g, d, t, os⟩) (hz : rest.length ≤ sizeLine) :
    codeAny (model prog w) A (.builtin newId ⟨.ref C :: rest, kw⟩) R ⟨h, g, d, t, os⟩ := by
  have en := F.ends
  have cB : (Value.ref C :: bm).contains (.type B) = true := by rw [List.contains_cons, hT, F.hasB, Bool.or_true]
  have cA : (Value.ref C :: bm).contains (.type "AttributeError") = false := by rw [List.contains_cons, hT, F.noAttr]; rfl
  have cN : (Value.ref C :: bm).contains (.type "NameError") = false := by rw [List.contains_cons, hT, F.noName]; rfl
  refine codeAny_builtinAt F.entry ?_
  unfold Builtin.«BaseException.__new__»
  refine wpAt_bind ?_
  show wpAt _ _ _ (stack >>= _) _ _ _
  refine wpAt_bind (wpAt_stack fun p below => wpAt_of_wpAny ?_)
  wp_walk
  refine wpAt_of_wpAny ?_
  rw [F.owner]
  repeat (first
    | with_reducible refine wpAny_madeHere_exc F.canon hC ?_
    | with_reducible refine wpAny_loadPart_at hC ?_
    | (with_reducible refine wpAny_isSubtype_exc hC ?_; first | rw [cB] | rw [cA] | rw [cN])
    | wp_step)
  show R _ _
  rw [Heap.size_push]
  exact hq
theorem type_go (F : ExcBaseFacts B newId initId bmB) (hT : ∀ X : String, bm.contains (.type X) = bmB.contains (.type X)) {rest : List Value} {kw : List (Str × Value)} {fI : Addr} {Q : Fin → Shared → Prop}
    (hC : h.get? C = some (excClassObj nm q C N bs bm hdct sn sub ab col dd k0 k1 k2 k3 k5 newId))
    (hi : W.Looks (model prog w) h (typeLookup (.ref C) "__init__") (some (.ref fI)))
    (hb : ∀ self, W.Looks (model prog w) h (bindSpecial (.ref fI) self) (.ref fI, [self])) (hz : rest.length ≤ sizeLine)
    (hq : codeAny (model prog w) A (.call (.ref fI) ⟨.ref (h.objs.size + 1) :: rest, kw⟩)
      (fun r s' => match r with | .ok (.ret v) => v = .none ∧ Q (.done (.ret (.ref (h.objs.size + 1)))) s' | .ok _ => False | .error e => E e s')
      ⟨(h.push (W.kdv_tup rest)).push (excO C h.objs.size), g, d, t, os⟩) :
    wpAny (model prog w) A (Builtin.«type.__call__» ⟨.ref C :: rest, kw⟩) Q E ⟨h, g, d, t, os⟩ := by
  repeat (first
    | with_reducible refine wpAny_loadPart_at hC ?_
    | with_reducible refine wpAny_madeBy_exc hC ?_
    | wp_step)
  refine codeAny_call_builtin_code (Code.quiet_builtin _ F.quiet) (new_check F hT hC ?_)
  refine new_go F hT hC ?_ hz
  show wpAny _ _ _ _ _ _
  have old : ∀ b o, h.get? b = some o → ((h.push (W.kdv_tup rest)).push (excO C h.objs.size)).get? b = some o :=
    fun b o z => Heap.get?_push_of_some _ (Heap.get?_push_of_some _ z)
  have hC1 := old _ _ hC
  have at1 : ((h.push (W.kdv_tup rest)).push (excO C h.objs.size)).get? (h.objs.size + 1) = some (excO C h.objs.size) := by heap_get
  have cC : (Value.ref C :: bm).contains (.ref C) = true := by simp
  have i1 := hi.keeps old
  have b1 := (hb (.ref (h.objs.size + 1))).keeps old
  unfold isInstance
  repeat (first
    | with_reducible refine wpAny_loadPart_at at1 ?_
    | (with_reducible refine wpAny_isSubtype_exc hC1 ?_; rw [cC])
    | wp_step)
  show wpAny _ _ (typeLookup (.ref C) _) _ _ _
  refine i1.at ?_
  refine wpAny_holding (wpAny_bind (b1.at ?_))
  refine wpAny_bind (wpAny_call (codeAny_mono hq fun r s2 z => ?_))
  rcases r with er | (v | _ | _ | _) <;> first | exact z | exact z.elim | skip
  obtain ⟨e0, z⟩ := z
  subst e0
  first
    | exact wpAny_pure (wpAny_pure z)
    | (wp_walk; exact z)
theorem type_check {rest : List Value} {kw : List (Str × Value)} {Q : Unit → Shared → Prop} (hC : h.get? C = some (excClassObj nm q C N bs bm hdct sn sub ab col dd k0 k1 k2 k3 k5 newId))
    (hq : Q () ⟨h, g, d, t, os⟩) : wpAny M A (checkBuiltinCall "type.__call__" ⟨.ref C :: rest, kw⟩) Q E ⟨h, g, d, t, os⟩ := by
  have f3 := tc_sub
  have ty : (⟨h, g, d, t, os⟩ : Shared).TypeIs (.ref C) "type" := ⟨_, hC, rfl⟩
  simp only [checkBuiltinCall, tc_kind, tc_split]
  repeat (any_goals (first
    | assumption
    | with_reducible refine wpAny_loadPart_at hC ?_
    | with_reducible refine wpAny_onRaise ?_
    | with_reducible refine wpAny_map ?_
    | wp_step))
theorem call_go (F : ExcBaseFacts B newId initId bmB) (hT : ∀ X : String, bm.contains (.type X) = bmB.contains (.type X)) {rest : List Value} {kw : List (Str × Value)} {fI : Addr}
    (hC : h.get? C = some (excClassObj nm q C N bs bm hdct sn sub ab col dd k0 k1 k2 k3 k5 newId))
    (hi : W.Looks (model prog w) h (typeLookup (.ref C) "__init__") (some (.ref fI)))
    (hb : ∀ self, W.Looks (model prog w) h (bindSpecial (.ref fI) self) (.ref fI, [self])) (hz : rest.length ≤ sizeLine)
    (hq : codeAny (model prog w) (A.under (.builtin "type.__call__" ⟨.ref C :: rest, kw⟩)) (.call (.ref fI) ⟨.ref (h.objs.size + 1) :: rest, kw⟩) (W.InitBack (h.objs.size + 1) R)
      ⟨(h.push (W.kdv_tup rest)).push (excO C h.objs.size), g, d, t, os⟩) :
    codeAny (model prog w) A (.call (.ref C) ⟨rest, kw⟩) R ⟨h, g, d, t, os⟩ := by
  have f1 := tc_lookup
  have f2 := tc_bind (.ref C)
  have ty : (⟨h, g, d, t, os⟩ : Shared).TypeIs (.ref C) "type" := ⟨_, hC, rfl⟩
  refine codeAny_of_tree ?_
  show wpAny _ _ (callAny (.ref C) _) _ _ _
  repeat (any_goals (first
    | assumption
    | with_reducible refine wpAny_loadPart_at hC ?_
    | wp_step))
  refine ⟨rfl, ?_⟩
  refine codeAny_call_builtin_at (Code.quiet_builtin _ (by decide +kernel)) entry_typeCall (type_check hC (type_go F hT hC hi hb hz ?_))
  refine codeAny_mono hq fun r s2 z => ?_
  rcases r with er | (v | _ | _ | _) <;> exact z
end
end KwMake
end PySem
set_option Elab.async false
set_option linter.all false
set_option maxRecDepth 100000
set_option maxHeartbeats 4000000
namespace Gk
open PySem PySem.Spec PyProof.Rows L2
/-- C(k = v, ..) as a value: g sets the values by the keywords behind the new object into the parameters' order -/
def tMkK (C : Addr) (sp : Sp) (gV : List V → List V) (m : Nat) (tk : TA) : TE := fun σ H Q => tk σ H fun zs H1 => zs.length = m ∧
  ∀ a, H1 a = none → sp (.ref a :: gV zs) (upd H1 a (exo a C none)) (fun v H2 => v = .non ∧ Q (.ref a) H2) fun _ _ _ => False
/-- how keywords alone are bound behind self -/
structure KB (fd : FuncData) (ps ks : List Str) (g : List Value → List Value) (gV : List V → List V) : Prop where
  to : ∀ (s : Shared) (u : Value) (ws : List Value), ws.length = ks.length → BindsTo s fd ⟨[u], ks.zip ws⟩ (ps.zip (u :: g ws))
  rel : ∀ {zs : List V} {ws : List Value}, Vals zs ws → Vals (gV zs) (g ws)
section
variable {X : Cx} {CX : CXT} {k : Nat} {C fI : Addr} {fd : FuncData} {ps ks : List Str} {sp : Sp} {g : List Value → List Value} {gV : List V → List V}
theorem run_mkk {pins : List (Addr × Obj)} {σ : L2.St} {H : Hp} {st : Shared} {Q : VK} {ws : List Value} {zs : List V} (T : OexC X.K C)
    (iC : PySem.W.findIn X.K (.ref C) "__init__" = some (some (.ref fI))) (tI : PySem.W.typeIn X.K (.ref fI) = some (.type "function"))
    (F : FnOk X.prog X.w X.K X.mg X.base CX k fI fd ps sp) (rm : Room (k + 1) X.A) (hb : KB fd ps ks g gV)
    (hx : Passes CX X fun _ _ _ => False) (I : Inv X pins σ H st) (r : Vals zs ws) (hz : zs.length = ks.length)
    (h : ∀ a, H a = none → sp (.ref a :: gV zs) (upd H a (exo a C none)) (fun v H2 => v = .non ∧ Q (.ref a) H2) fun _ _ _ => False) :
    wpAny (model X.prog X.w) X.A (call (.ref C) [] (ks.zip ws)) (EP X pins σ Q) X.xe st := by
  obtain ⟨nm, q, N, bs, bm, sn, sub, ab, col, dd, k0, k1, k2, k3, k5, hC, hbm⟩ := T.cls
  obtain ⟨hp, g0, dr, tk, os⟩ := st
  have up : hp.objs.size ≤ hp.objs.size + 1 := Nat.le_succ _
  have old : ∀ b o, hp.get? b = some o → ((hp.push (PySem.W.kdv_tup [])).push (PySem.HandSPX.excO C hp.objs.size)).get? b = some o :=
    fun b o z => Heap.get?_push_of_some _ (Heap.get?_push_of_some _ z)
  have new : ((hp.push (PySem.W.kdv_tup [])).push (PySem.HandSPX.excO C hp.objs.size)).get? (hp.objs.size + 1) = some (PySem.HandSPX.excO C hp.objs.size) := by heap_get
  have J : Inv X pins σ (upd H (hp.objs.size + 1) (exo (hp.objs.size + 1) C none)) ⟨(hp.push (PySem.W.kdv_tup [])).push (PySem.HandSPX.excO C hp.objs.size), g0, dr, tk, os⟩ :=
    I.laid (t' := tk) old up (exo_ok new)
  have hq := h (hp.objs.size + 1) (I.hok.fresh up)
  have rr : Vals (V.ref (hp.objs.size + 1) :: gV zs) (Value.ref (hp.objs.size + 1) :: g ws) := .cons rfl (hb.rel r)
  have run := F.run _ X.stack _ _ ⟨[Value.ref (hp.objs.size + 1)], ks.zip ws⟩ (Value.ref (hp.objs.size + 1) :: g ws) _ _ (fun _ _ _ => False)
    (rm.make C [] (ks.zip ws)) (J.env0.make C [] (ks.zip ws)) (hb.to _ _ ws ((Vals.length r).symm.trans hz)) rr hq
  refine wpAny_call (PySem.KwMake.call_go PySem.F.excBase_ValueError (fun Y => PySem.HandSPX.refsVE_contains Y bm hbm) (I.kIn _ _ hC) (PySem.W.looks_findIn I.kIn iC)
    (fun self => PySem.W.bind_fn I.kIn self tI) (Nat.zero_le _) (codeAny_mono run fun res s2 z => ?_))
  cases res with
  | error er => exact hx pins σ _ _ er s2 J z
  | ok fl =>
    cases fl with
    | ret u =>
      obtain ⟨v, H2, J2, rv, ev, q2⟩ := J.after z
      subst ev
      exact ⟨rv, V.ref (hp.objs.size + 1), H2, J2, rfl, q2⟩
    | next => exact False.elim z
    | brk => exact False.elim z
    | cont => exact False.elim z
theorem pe_mkk {x : Str} {p pos : Pos} {kws : List Keyword} {tk : TA} (T : OexC X.K C)
    (iC : PySem.W.findIn X.K (.ref C) "__init__" = some (some (.ref fI))) (tI : PySem.W.typeIn X.K (.ref fI) = some (.type "function"))
    (F : FnOk X.prog X.w X.K X.mg X.base CX k fI fd ps sp) (rm : Room (k + 1) X.A) (hb : KB fd ps ks g gV)
    (hx : Passes CX X fun _ _ _ => False) (hg : Gl X x) (hm : X.mg x = some (.ref C)) (hkw : PK X kws tk)
    (hall : (backToKw pos (keywordEach kws X.env)).all (·.1.isSome) = true := by rfl)
    (hks : (backToKw pos (keywordEach kws X.env)).filterMap (·.1) = ks := by rfl)
    (hdb : (x == ("__debug__" : Str)) = false := by decide)
    (hpl : ((backTo pos (starEach [] X.env)).any (·.1) || (backToKw pos (keywordEach kws X.env)).any (·.1.isNone)) = false := by rfl) :
    PE X (.Call (.Name x p) [] kws pos) (tMkK C sp gV ks.length tk) := by
  constructor
  intro pins s σ H Q I h
  refine wpAny_Call_Name_kw (ld_glob I hg hm ?_ hdb)
  refine PySem.W.callWith_KW0 (h₀ := X.base) I.ok.mod.kin T.kC hall ?_ hpl
  refine thn (hkw.run pos pins s σ H _ I h) fun us s1 z => ?_
  obtain ⟨vs, H1, I1, r, hz, q⟩ := z
  refine ⟨I1.kIn, ?_⟩
  rw [hks]
  exact run_mkk T iC tI F rm hb hx I1 r hz q
/-- C(): an error class without an __init__ of its own -/
theorem pe_mk0 {x : Str} {p pos : Pos} {bmB : List Value} {B newId initId : String} (F : ExcBaseFacts B newId initId bmB) (T : OexC X.K C)
    (q : PySem.W.excIn X.K C bmB newId = true) (hg : Gl X x) (hm : X.mg x = some (.ref C)) (hdb : (x == ("__debug__" : Str)) = false := by decide) :
    PE X (.Call (.Name x p) [] [] pos) (fun σ H Q => ∀ a, H a = none → Q (.ref a) (upd H a (exo a C none))) := by
  constructor
  intro pins s σ H Q I h
  refine wpAny_Call_Name_kw (ld_glob I hg hm ?_ hdb)
  refine PySem.W.callWith_K0 I.kIn T.kC ?_
  show wpAny _ _ (call (.ref C) []) _ _ _
  obtain ⟨bm, N, nm, qn, bs, hdct, sn, sub, ab, col, dd, k0, k1, k2, k3, k5, mN, hC, hN, hni, TT⟩ := exc_obj I.kIn q
  refine wpAny_call_exc_subT F TT hC hN hni (fun h' a hm => ?_) (Nat.zero_le _)
  have hn : H a = none := I.hok.gone hm.new
  obtain ⟨t, ht, _, _⟩ := hm.there
  exact ⟨.ref a, upd H a (exo a C none), I.laidN hm.keeps hm.new hn (exo_ok ht), rfl, h a hn⟩
end
end Gk
set_option Elab.async false
set_option linter.all false
set_option maxRecDepth 100000
set_option maxHeartbeats 4000000
namespace Gk
open PySem PySem.Spec PyProof.Rows L2
/-- self.f = v behind the making of an error of the class at C -/
def spI1 (K : PySem.W.Frag) (C : Addr) (f : Str) : Sp := fun vs H Q _ => ∃ (a : Addr) (v : V), vs = [.ref a, v] ∧ H a = some (exo a C none) ∧
  ∀ d, H d = none → d ≠ a → Q .non (upd (upd H d (exd d [(f, v)])) a (exo a C (some d)))
def spI2 (K : PySem.W.Frag) (C : Addr) (f g : Str) : Sp := fun vs H Q _ => ∃ (a : Addr) (v u : V), vs = [.ref a, v, u] ∧ H a = some (exo a C none) ∧
  ∀ d, H d = none → d ≠ a → Q .non (upd (upd (upd H d (exd d [(f, v)])) a (exo a C (some d))) d (exd d [(g, u), (f, v)]))
section
variable {P : Program} {w : World} {K : PySem.W.Frag} {mg : Str → Option Value} {base : Heap} {S C fI : Addr} {fd : FuncData} {nm ql f g : Str} {stm : Stmt}
theorem ok_init1 (F : Fun K "__init__" ql stm fI fd) (x : XC K S C nm) (no : PySem.W.findIn K (.ref C) f = some none)
    (hb : ∃ p1 p2 p3 p4, defBody stm = [.Assign [.Attribute (.Name "self" p1) f p2] (.Name f p3) p4]) (sc : FnScope ["self", f] ["self", f] (defScope stm))
    (h1 : (f == ("__debug__" : Str)) = false) (h2 : (f == ("__classdict__" : Str)) = false) : FnOk P w K mg base CX0 1 fI fd ["self", f] (spI1 K C f) := by
  refine F.ok sc (fun vs H Q E h => ?_) (fun cdv A outer s H vs Q E hr h => ?_)
  · obtain ⟨a, v, rfl, _⟩ := h
    rfl
  · obtain ⟨a, v, rfl, ha, q⟩ := h
    obtain ⟨p1, p2, p3, p4, eb⟩ := hb
    rw [eb]
    have vis : ∀ y ∈ (["self", f] : List Str), Vis (defScope stm) y := fun y hy => by
      rcases sc.par y hy with z | z
      · exact .inl z
      · exact .inr (.inl z)
    refine ⟨_, pss_one (ps_ost (pv 0 rfl (vis _ (by simp))) (pv 1 rfl (vis _ (by simp)) h1 h2)), ?_⟩
    exact ⟨v, rfl, .ref a, rfl, a, C, rfl, x.oex, no, .inl ⟨ha, fun d hd hne => q d hd hne⟩⟩
theorem ok_init2 (F : Fun K "__init__" ql stm fI fd) (x : XC K S C nm) (no : PySem.W.findIn K (.ref C) f = some none) (no2 : PySem.W.findIn K (.ref C) g = some none)
    (hb : ∃ p1 p2 p3 p4 q1 q2 q3 q4, defBody stm = [.Assign [.Attribute (.Name "self" p1) f p2] (.Name f p3) p4, .Assign [.Attribute (.Name "self" q1) g q2] (.Name g q3) q4])
    (sc : FnScope ["self", f, g] ["self", f, g] (defScope stm))
    (h1 : (f == ("__debug__" : Str)) = false) (h2 : (f == ("__classdict__" : Str)) = false) (k1 : (g == ("__debug__" : Str)) = false) (k2 : (g == ("__classdict__" : Str)) = false) :
    FnOk P w K mg base CX0 1 fI fd ["self", f, g] (spI2 K C f g) := by
  refine F.ok sc (fun vs H Q E h => ?_) (fun cdv A outer s H vs Q E hr h => ?_)
  · obtain ⟨a, v, u, rfl, _⟩ := h
    rfl
  · obtain ⟨a, v, u, rfl, ha, q⟩ := h
    obtain ⟨p1, p2, p3, p4, q1, q2, q3, q4, eb⟩ := hb
    rw [eb]
    have vis : ∀ y ∈ (["self", f, g] : List Str), Vis (defScope stm) y := fun y hy => by
      rcases sc.par y hy with z | z
      · exact .inl z
      · exact .inr (.inl z)
    refine ⟨_, pss_cons (ps_ost (pv 0 rfl (vis _ (by simp))) (pv 1 rfl (vis _ (by simp)) h1 h2)) (pss_one (ps_ost (pv 0 rfl (vis _ (by simp))) (pv 2 rfl (vis _ (by simp)) k1 k2))), ?_⟩
    refine ⟨v, rfl, .ref a, rfl, a, C, rfl, x.oex, no, .inl ⟨ha, fun d hd hne => ?_⟩⟩
    refine ⟨u, rfl, .ref a, rfl, a, C, rfl, x.oex, no2, .inr ⟨d, [(f, v)], upd_same, ?_, (by show 1 ≤ 900; decide), q d hd hne⟩⟩
    rw [upd_ne hne, upd_same]
end
/-- an error class of the text with one field | two fields | none -/
structure E1 (K : PySem.W.Frag) (mg : Str → Option Value) (S C : Addr) (nm f : Str) : Prop where
  xc : XC K S C nm
  gm : mg nm = some (.ref C)
  no : PySem.W.findIn K (.ref C) f = some none
  fi : ∃ (fI : Addr) (fd : FuncData), PySem.W.findIn K (.ref C) "__init__" = some (some (.ref fI)) ∧ PySem.W.typeIn K (.ref fI) = some (.type "function") ∧
    Binds K fd ["self", f] [] ∧ ∀ (P : Program) (w : World) (base : Heap), FnOk P w K mg base CX0 1 fI fd ["self", f] (spI1 K C f)
structure E2 (K : PySem.W.Frag) (mg : Str → Option Value) (S C : Addr) (nm f g : Str) : Prop where
  xc : XC K S C nm
  gm : mg nm = some (.ref C)
  no : PySem.W.findIn K (.ref C) f = some none
  no2 : PySem.W.findIn K (.ref C) g = some none
  fi : ∃ (fI : Addr) (fd : FuncData), PySem.W.findIn K (.ref C) "__init__" = some (some (.ref fI)) ∧ PySem.W.typeIn K (.ref fI) = some (.type "function") ∧
    Binds K fd ["self", f, g] [] ∧ KB fd ["self", f, g] [g, f] List.reverse List.reverse ∧
    ∀ (P : Program) (w : World) (base : Heap), FnOk P w K mg base CX0 1 fI fd ["self", f, g] (spI2 K C f g)
structure E0 (K : PySem.W.Frag) (mg : Str → Option Value) (S C : Addr) (nm : Str) : Prop where
  xc : XC K S C nm
  gm : mg nm = some (.ref C)
  ex : PySem.W.excIn K C [.type "ValueError", .type "Exception", .type "BaseException", .type "object"] "ValueError.__new__" = true
/-- a new error -/
def newX (C : Addr) (fs : List (Str × V)) (H : Hp) (Q : VK) : Prop := ∀ a H2, H a = none → Same H H2 → XAt H2 a C fs → Q (.ref a) H2
def tX1 (C : Addr) (f : Str) (ta : TA) : TE := fun σ H Q => ta σ H fun vs H1 => ∃ v, vs = [v] ∧ newX C [(f, v)] H1 Q
def tX2 (C : Addr) (f g : Str) (ta : TA) : TE := fun σ H Q => ta σ H fun vs H1 => ∃ v u, vs = [v, u] ∧ newX C [(g, u), (f, v)] H1 Q
def tX2k (C : Addr) (f g : Str) (tk : TA) : TE := fun σ H Q => tk σ H fun zs H1 => ∃ v u, zs = [u, v] ∧ newX C [(g, u), (f, v)] H1 Q
def tX0 (C : Addr) : TE := fun σ H Q => newX C [] H Q
theorem same_upd' {H : Hp} {p : Addr} {o : HO} (h : H p = none) : Same H (upd H p o) := fun b z e => by
  rw [upd_ne (ne_of_none e h)]
  exact e
theorem pe_imp {X : Cx} {e : Expr} {t t' : TE} (h : PE X e t) (k : ∀ σ H Q, t' σ H Q → t σ H Q) : PE X e t' :=
  ⟨fun pins s σ H Q I z => h.run pins s σ H Q I (k σ H Q z)⟩
section
variable {X : Cx} {S C : Addr} {nm f g : Str} {e e2 : Expr} {p pos : Pos} {kws : List Keyword} {ta tk : TA}
theorem upd_comm {H : Hp} {a d : Addr} {o u v : HO} (h : d ≠ a) : upd (upd (upd H a o) d u) a v = upd (upd H d u) a v := by
  funext b
  by_cases e : b = a
  · rw [e, upd_same, upd_same]
  · rw [upd_ne e, upd_ne e]
    by_cases e2 : b = d
    · rw [e2, upd_same, upd_same]
    · rw [upd_ne e2, upd_ne e2, upd_ne e]
theorem Same.new2 {H : Hp} {a d : Addr} {o u : HO} (ha : H a = none) (hd : H d = none) : Same H (upd (upd H d u) a o) := fun b z e => by
  rw [upd_ne (ne_of_none e ha), upd_ne (ne_of_none e hd)]
  exact e
theorem newX.mk1 {H : Hp} {Q : VK} {v : V} (h : newX C [(f, v)] H Q) : ∀ a, H a = none → spI1 X.K C f [.ref a, v] (upd H a (exo a C none)) (fun r H2 => r = .non ∧ Q (.ref a) H2) fun _ _ _ => False := fun a ha => by
  refine ⟨a, v, rfl, upd_same, fun d hd hne => ⟨rfl, ?_⟩⟩
  have hd' : H d = none := by rw [upd_ne hne] at hd; exact hd
  rw [upd_comm hne]
  exact h a _ ha (Same.new2 ha hd') (.inr ⟨d, hne, upd_same, by rw [upd_ne hne, upd_same]⟩)
theorem newX.mk2 {H : Hp} {Q : VK} {v u : V} (h : newX C [(g, u), (f, v)] H Q) : ∀ a, H a = none → spI2 X.K C f g [.ref a, v, u] (upd H a (exo a C none)) (fun r H2 => r = .non ∧ Q (.ref a) H2) fun _ _ _ => False := fun a ha => by
  refine ⟨a, v, u, rfl, upd_same, fun d hd hne => ⟨rfl, ?_⟩⟩
  have hd' : H d = none := by rw [upd_ne hne] at hd; exact hd
  rw [upd_comm hne]
  refine h a _ ha (fun b z e => ?_) (.inr ⟨d, hne, ?_, upd_same⟩)
  · rw [upd_ne (ne_of_none e hd')]
    exact Same.new2 ha hd' b z e
  · rw [upd_ne (Ne.symm hne), upd_same]
theorem E1.pe (E : E1 X.K X.mg S C nm f) (rm : Room 2 X.A) (hg : Gl X nm) (ha : PA X [e] ta) (hdb : (nm == ("__debug__" : Str)) = false := by decide)
    (hs : starEach [e] X.env = (false, eval e X.env) :: starEach [] X.env := by rfl) : PE X (.Call (.Name nm p) [e] [] pos) (tX1 C f ta) := by
  obtain ⟨fI, fd, iC, tI, hb, F⟩ := E.fi
  constructor
  intro pins s σ H Q I h
  refine wpAny_Call_Name_kw (ld_glob I hg E.gm ?_ hdb)
  refine PySem.W.callWith_K (h₀ := X.base) I.ok.mod.kin E.xc.kp ?_ hs rfl
  refine thn (ha.run pos pins s σ H _ I h) fun us s1 z => ?_
  obtain ⟨vs, H1, I1, r, v, rfl, q⟩ := z
  exact ⟨I1.kIn, run_mkx E.xc.oex iC tI (F _ _ _) rm hb .nil pass0 I1 r (by show 1 ≤ 1000; decide) q.mk1⟩
theorem E2.pe (E : E2 X.K X.mg S C nm f g) (rm : Room 2 X.A) (hg : Gl X nm) (ha : PA X [e, e2] ta) (hdb : (nm == ("__debug__" : Str)) = false := by decide)
    (hs : starEach [e, e2] X.env = (false, eval e X.env) :: starEach [e2] X.env := by rfl) (hpl : (backTo pos (starEach [e2] X.env)).any (·.1) = false := by rfl) :
    PE X (.Call (.Name nm p) [e, e2] [] pos) (tX2 C f g ta) := by
  obtain ⟨fI, fd, iC, tI, hb, _, F⟩ := E.fi
  constructor
  intro pins s σ H Q I h
  refine wpAny_Call_Name_kw (ld_glob I hg E.gm ?_ hdb)
  refine PySem.W.callWith_K (h₀ := X.base) I.ok.mod.kin E.xc.kp ?_ hs hpl
  refine thn (ha.run pos pins s σ H _ I h) fun us s1 z => ?_
  obtain ⟨vs, H1, I1, r, v, u, rfl, q⟩ := z
  exact ⟨I1.kIn, run_mkx E.xc.oex iC tI (F _ _ _) rm hb .nil pass0 I1 r (by show 2 ≤ 1000; decide) q.mk2⟩
theorem E2.pek (E : E2 X.K X.mg S C nm f g) (rm : Room 2 X.A) (hg : Gl X nm) (hkw : PK X kws tk)
    (hall : (backToKw pos (keywordEach kws X.env)).all (·.1.isSome) = true := by rfl)
    (hks : (backToKw pos (keywordEach kws X.env)).filterMap (·.1) = [g, f] := by rfl)
    (hdb : (nm == ("__debug__" : Str)) = false := by decide)
    (hpl : ((backTo pos (starEach [] X.env)).any (·.1) || (backToKw pos (keywordEach kws X.env)).any (·.1.isNone)) = false := by rfl) :
    PE X (.Call (.Name nm p) [] kws pos) (tX2k C f g tk) := by
  obtain ⟨fI, fd, iC, tI, _, hb, F⟩ := E.fi
  constructor
  intro pins s σ H Q I h
  refine wpAny_Call_Name_kw (ld_glob I hg E.gm ?_ hdb)
  refine PySem.W.callWith_KW0 (h₀ := X.base) I.ok.mod.kin E.xc.kp hall ?_ hpl
  refine thn (hkw.run pos pins s σ H _ I h) fun us s1 z => ?_
  obtain ⟨vs, H1, I1, r, v, u, rfl, q⟩ := z
  refine ⟨I1.kIn, ?_⟩
  rw [hks]
  exact run_mkk E.xc.oex iC tI (F _ _ _) rm hb pass0 I1 r rfl q.mk2
theorem E0.pe (E : E0 X.K X.mg S C nm) (hg : Gl X nm) (hdb : (nm == ("__debug__" : Str)) = false := by decide) : PE X (.Call (.Name nm p) [] [] pos) (tX0 C) := by
  refine pe_imp (pe_mk0 PySem.F.excBase_ValueError E.xc.oex E.ex hg E.gm hdb) fun σ H Q h a ha => ?_
  exact h a _ ha (same_upd' ha) (.inl ⟨rfl, upd_same⟩)
end
end Gk
set_option Elab.async false
set_option linter.all false
set_option maxRecDepth 100000
set_option maxHeartbeats 4000000
namespace Gk
open PySem PySem.Spec PyProof.Rows L2
theorem sqT_same {K : PySem.W.Frag} {H H' : Hp} {a : Addr} {xs : List V} (e : Same H H') (h : SqT K H a xs) : SqT K H' a xs := by
  rcases h with (h | ⟨o, h⟩) | h
  · exact .inl (.inl (e _ _ h))
  · exact .inl (.inr ⟨o, e _ _ h⟩)
  · exact .inr h
mutual
theorem dp_same {K : PySem.W.Frag} {H H' : Hp} (e : Same H H') : ∀ (d : PyData) (v : V), Dp K H v d → Dp K H' v d
  | .none, _, h => by cases h; exact .non
  | .bool b, _, h => by cases h; exact .bl b
  | .int i, _, h => by cases h; exact .int i
  | .str x, _, h => by cases h; exact .str x
  | .list ds, _, h => by
    cases h with
    | lst a b => exact .lst (Same.seq e a) (dpAll_same e ds _ b)
  | .tuple ds, _, h => by
    cases h with
    | tup a b => exact .tup (sqT_same e a) (dpAll_same e ds _ b)
  | .dict _, _, h => by cases h
theorem dpAll_same {K : PySem.W.Frag} {H H' : Hp} (e : Same H H') : ∀ (ds : List PyData) (vs : List V), DpAll K H vs ds → DpAll K H' vs ds
  | [], _, h => by cases h; exact .nil
  | d :: ds, _, h => by
    cases h with
    | cons a b => exact .cons (dp_same e d _ a) (dpAll_same e ds _ b)
end
/-- data that is shown in short -/
structure Showy (n k : Nat) (d : PyData) : Prop where
  sh : d.showable = true
  nd : d.hasDict = false
  dp : d.depth ≤ n
  lf : d.leavesShort 13 = true
  bk : d.bulk ≤ k
theorem Showy.fits {n k : Nat} {d : PyData} (s : Showy n k d) (hk : k ≤ 1000) : d.shown.length ≤ sizeLine :=
  PyData.shown_fits_bulk (B := 13) (by decide) (by decide) s.lf (Nat.le_trans s.bk (Nat.le_trans hk (by decide)))
theorem Showy.up {n k m j : Nat} {d : PyData} (s : Showy n k d) (h1 : n ≤ m) (h2 : k ≤ j) : Showy m j d := ⟨s.sh, s.nd, Nat.le_trans s.dp h1, s.lf, Nat.le_trans s.bk h2⟩
theorem Showy.pair {n k j : Nat} {d e : PyData} (a : Showy n k d) (b : Showy n j e) : Showy (n + 1) (k + j + 10) (.tuple [d, e]) where
  sh := by simp only [PyData.showable, PyData.showableAll, a.sh, b.sh, Bool.and_self]
  nd := by simp only [PyData.hasDict, PyData.hasDictAll, a.nd, b.nd, Bool.or_self]
  dp := by
    have h1 := a.dp
    have h2 := b.dp
    simp only [PyData.depth, PyData.depthAll]
    omega
  lf := by simp only [PyData.leavesShort, PyData.leavesShortAll, a.lf, b.lf, Bool.and_self]
  bk := by
    have h1 := a.bk
    have h2 := b.bk
    simp only [PyData.bulk, PyData.bulkAll]
    omega
/-- repr(x), x short -/
def rRep (K : PySem.W.Frag) : List V → Hp → VK → Prop := fun xs H Q => ∃ (x : V) (d : PyData), xs = [x] ∧ Dp K H x d ∧ Showy 8 1000 d ∧ Q (.str d.shown) H
theorem call_rep {X : Cx} (qa : Quiet X.A) (hu : X.A.units + 64 < cLine) : CallR X (.builtin "repr") (rRep X.K) := fun pins s σ H xs us Q I r h => by
  obtain ⟨x, d, e, hd, z, q⟩ := h
  exact call_repr qa hu pins s σ H xs us Q I r ⟨x, d, e, hd, z.sh, z.nd, Nat.le_trans z.dp (by decide), z.fits (Nat.le_refl _), q⟩
/-! ### comprehensions over a list -/
/-- what stands but the growing list D -/
def ButD (D : Addr) (H H' : Hp) : Prop := ∀ b o, b ≠ D → H b = some o → H' b = some o
/-- every item gives one item: G says what of the i-th one -/
theorem lc_map {K : PySem.W.Frag} {a : Addr} {xs : List V} {te : TE} {vs : List Nat} {j : Nat} {σ : L2.St} {H1 : Hp} {Q : VK} (G : Hp → Nat → V → Prop)
    (hw : ∀ x, wipe ((wipe σ vs).set j (some x)) vs = wipe σ vs) (ha : SqL K H1 a xs) (hl : xs.length ≤ 1000)
    (stab : ∀ (D : Addr) (acc : List V) (H4 H5 : Hp) (i : Nat) (y : V), H4 D = some (.lst acc) → ButD D H4 H5 → G H4 i y → G H5 i y)
    (he : ∀ (i : Nat) (x : V) (H' : Hp) (R : VK), xs[i]? = some x → Same H1 H' → (∀ y H4, Same H' H4 → G H4 i y → R y H4) → te ((wipe σ vs).set j (some x)) H' R)
    (k : ∀ (D : Addr) (ys : List V) (H' : Hp), Same H1 H' → H1 D = none → H' D = some (.lst ys) → ys.length = xs.length → (∀ (i : Nat) (y : V), ys[i]? = some y → G H' i y) → Q (.ref D) H')
    (D : Addr) (hD : H1 D = none) : ∃ W : Nat → Nat → Hp → Prop, (∃ m, W 0 m (upd H1 D (.lst []))) ∧ ∀ i m H, W i m H →
      ((Itl K a).stop i H ∧ Q (.ref D) H) ∨ ((Itl K a).go i H ∧ ∃ Nx : Hp → Prop, (∀ H', Nx H' → ∃ m', m' < m ∧ W (i + 1) m' H') ∧ ∀ x H', (Itl K a).yld i H x H' → gName j x (wipe σ vs) H' fun σ2 H2 => wipe σ2 vs = wipe σ vs ∧ tYes σ2 H2 fun b H3 =>
        if b = true then te σ2 H3 fun y H4 => ∃ acc, H4 D = some (.lst acc) ∧ acc.length < sizeLine ∧ Nx (upd H4 D (.lst (acc ++ [y]))) else Nx H3) := by
  refine lc_list (fun i H => ∃ ys : List V, Same H1 H ∧ H D = some (.lst ys) ∧ ys.length = i ∧ ∀ (n : Nat) (y : V), ys[n]? = some y → G H n y)
    ⟨[], same_upd' hD, upd_same, rfl, fun n y h => by simp at h⟩ (fun i H _ ⟨_, s, _⟩ => s.seq ha) ?_ ?_
  · rintro i x H hx ⟨ys, s, hd, ln, g⟩
    refine ⟨hw x, ?_⟩
    refine he i x H _ hx s fun y H4 s4 g4 => ?_
    have hd4 := s4 _ _ hd
    have hi : i < xs.length := (List.getElem?_eq_some_iff.mp hx).1
    refine ⟨ys, hd4, small1000 (by omega), ys ++ [y], fun b o e => ?_, upd_same, by rw [List.length_append, ln]; rfl, fun n z hz => ?_⟩
    · rw [upd_ne (ne_of_none e hD)]
      exact s4 b o (s b o e)
    · have bd : ButD D H4 (upd H4 D (.lst (ys ++ [y]))) := fun b o hb e => by rw [upd_ne hb]; exact e
      rcases Nat.lt_or_ge n ys.length with h | h
      · rw [List.getElem?_append_left h] at hz
        have g0 := g n z hz
        refine stab D ys H4 _ n z hd4 bd (stab D ys H _ n z hd (fun b o _ e => s4 b o e) g0)
      · rw [List.getElem?_append_right h] at hz
        have e0 : n - ys.length = 0 := by
          rcases Nat.eq_zero_or_pos (n - ys.length) with q | q
          · exact q
          · rw [List.getElem?_eq_none (by simp; omega)] at hz
            cases hz
        rw [e0] at hz
        have ez : y = z := Option.some.inj hz
        have en : n = i := by omega
        subst ez en
        exact stab D ys H4 _ n y hd4 bd g4
  · rintro H ⟨ys, s, hd, ln, g⟩
    exact k D ys H s hD hd ln g
/-- no item passes the test -/
theorem lc_empty {K : PySem.W.Frag} {a : Addr} {xs : List V} {te : TE} {tt : TT} {vs : List Nat} {j : Nat} {σ : L2.St} {H1 : Hp} {Q : VK}
    (hw : ∀ x, wipe ((wipe σ vs).set j (some x)) vs = wipe σ vs) (ha : SqL K H1 a xs)
    (ht : ∀ (i : Nat) (x : V) (H' : Hp) (R : Bool → Hp → Prop), xs[i]? = some x → Same H1 H' → (∀ H4, Same H' H4 → R false H4) → tt ((wipe σ vs).set j (some x)) H' R)
    (k : ∀ (D : Addr) (H' : Hp), Same H1 H' → H1 D = none → H' D = some (.lst []) → Q (.ref D) H')
    (D : Addr) (hD : H1 D = none) : ∃ W : Nat → Nat → Hp → Prop, (∃ m, W 0 m (upd H1 D (.lst []))) ∧ ∀ i m H, W i m H →
      ((Itl K a).stop i H ∧ Q (.ref D) H) ∨ ((Itl K a).go i H ∧ ∃ Nx : Hp → Prop, (∀ H', Nx H' → ∃ m', m' < m ∧ W (i + 1) m' H') ∧ ∀ x H', (Itl K a).yld i H x H' → gName j x (wipe σ vs) H' fun σ2 H2 => wipe σ2 vs = wipe σ vs ∧ tt σ2 H2 fun b H3 =>
        if b = true then te σ2 H3 fun y H4 => ∃ acc, H4 D = some (.lst acc) ∧ acc.length < sizeLine ∧ Nx (upd H4 D (.lst (acc ++ [y]))) else Nx H3) := by
  refine lc_list (fun i H => Same H1 H ∧ H D = some (.lst [])) ⟨same_upd' hD, upd_same⟩ (fun i H _ z => z.1.seq ha) ?_ fun H z => k D H z.1 hD z.2
  rintro i x H hx ⟨s, hd⟩
  refine ⟨hw x, ht i x H _ hx s fun H4 s4 => ?_⟩
  rw [if_neg Bool.false_ne_true]
  exact ⟨s.trans s4, s4 _ _ hd⟩
end Gk
set_option Elab.async false
set_option linter.all false
set_option maxRecDepth 100000
set_option maxHeartbeats 1000000
/-! Data that may hold dicts: what is read, how it is shown, of which type it is. -/
namespace Gk
open PySem PySem.Spec PyProof.Rows L2
mutual
inductive Dq (K : PySem.W.Frag) (H : Hp) : V → PyData → Prop where
  | non : Dq K H .non .none
  | bl (b : Bool) : Dq K H (.bl b) (.bool b)
  | int (i : Int) : Dq K H (.int i) (.int i)
  | str (x : Str) : Dq K H (.str x) (.str x)
  | lst {a : Addr} {xs : List V} {ds : List PyData} : SqL K H a xs → DqAll K H xs ds → Dq K H (.ref a) (.list ds)
  | tup {a : Addr} {xs : List V} {ds : List PyData} : SqT K H a xs → DqAll K H xs ds → Dq K H (.ref a) (.tuple ds)
  | dct {a : Addr} {kvs : List (Key × V)} {ds : List (PyData × PyData)} : H a = some (.dK kvs) → DqAll K H (kvs.map fun p => kV p.1) (ds.map (·.1)) → DqAll K H (kvs.map (·.2)) (ds.map (·.2)) → Dq K H (.ref a) (.dict ds)
inductive DqAll (K : PySem.W.Frag) (H : Hp) : List V → List PyData → Prop where
  | nil : DqAll K H [] []
  | cons {v : V} {vs : List V} {d : PyData} {ds : List PyData} : Dq K H v d → DqAll K H vs ds → DqAll K H (v :: vs) (d :: ds)
end
mutual
theorem dq_dp {K : PySem.W.Frag} {H : Hp} : ∀ (d : PyData) (v : V), Dp K H v d → Dq K H v d
  | .none, _, h => by cases h; exact .non
  | .bool b, _, h => by cases h; exact .bl b
  | .int i, _, h => by cases h; exact .int i
  | .str x, _, h => by cases h; exact .str x
  | .list ds, _, h => by
    cases h with
    | lst a b => exact .lst a (dqAll_dp ds _ b)
  | .tuple ds, _, h => by
    cases h with
    | tup a b => exact .tup a (dqAll_dp ds _ b)
  | .dict _, _, h => by cases h
theorem dqAll_dp {K : PySem.W.Frag} {H : Hp} : ∀ (ds : List PyData) (vs : List V), DpAll K H vs ds → DqAll K H vs ds
  | [], _, h => by cases h; exact .nil
  | d :: ds, _, h => by
    cases h with
    | cons a b => exact .cons (dq_dp d _ a) (dqAll_dp ds _ b)
end
theorem DqAll.length {K : PySem.W.Frag} {H : Hp} : ∀ {vs : List V} {ds : List PyData}, DqAll K H vs ds → vs.length = ds.length
  | _, _, .nil => rfl
  | _, _, .cons _ b => by rw [List.length_cons, List.length_cons, DqAll.length b]
theorem DqAll.get {K : PySem.W.Frag} {H : Hp} : ∀ {vs : List V} {ds : List PyData} {i : Nat} {v : V}, DqAll K H vs ds → vs[i]? = some v → ∃ d, ds[i]? = some d ∧ Dq K H v d
  | _, _, _, _, .nil, e => by simp at e
  | _, _, 0, _, .cons r _, e => by
    cases (Option.some.inj e)
    exact ⟨_, rfl, r⟩
  | _, _, i + 1, v, .cons _ t, e => by
    obtain ⟨d, h1, h2⟩ := DqAll.get (i := i) (v := v) t (by simpa using e)
    exact ⟨d, by simpa using h1, h2⟩
theorem DqAll.append {K : PySem.W.Frag} {H : Hp} : ∀ {xs ys : List V} {ds es : List PyData}, DqAll K H xs ds → DqAll K H ys es → DqAll K H (xs ++ ys) (ds ++ es)
  | _, _, _, _, .nil, s => s
  | _, _, _, _, .cons r t, s => .cons r (DqAll.append t s)
theorem DqAll.set {K : PySem.W.Frag} {H : Hp} {v : V} {d : PyData} (r : Dq K H v d) : ∀ {xs : List V} {ds : List PyData} (i : Nat), DqAll K H xs ds → DqAll K H (xs.set i v) (ds.set i d)
  | _, _, _, .nil => .nil
  | _, _, 0, .cons _ t => .cons r t
  | _, _, i + 1, .cons q t => .cons q (DqAll.set r i t)
theorem DqAll.take {K : PySem.W.Frag} {H : Hp} : ∀ {xs : List V} {ds : List PyData} (n : Nat), DqAll K H xs ds → DqAll K H (xs.take n) (ds.take n)
  | _, _, 0, _ => .nil
  | _, _, _ + 1, .nil => .nil
  | _, _, n + 1, .cons r t => .cons r (DqAll.take n t)
theorem DqAll.drop {K : PySem.W.Frag} {H : Hp} : ∀ {xs : List V} {ds : List PyData} (n : Nat), DqAll K H xs ds → DqAll K H (xs.drop n) (ds.drop n)
  | _, _, 0, r => r
  | _, _, _ + 1, .nil => .nil
  | _, _, n + 1, .cons _ t => DqAll.drop n t
mutual
theorem dq_same {K : PySem.W.Frag} {H H' : Hp} (e : Same H H') : ∀ (d : PyData) (v : V), Dq K H v d → Dq K H' v d
  | .none, _, h => by cases h; exact .non
  | .bool b, _, h => by cases h; exact .bl b
  | .int i, _, h => by cases h; exact .int i
  | .str x, _, h => by cases h; exact .str x
  | .list ds, _, h => by
    cases h with
    | lst a b => exact .lst (Same.seq e a) (dqAll_same e ds _ b)
  | .tuple ds, _, h => by
    cases h with
    | tup a b => exact .tup (sqT_same e a) (dqAll_same e ds _ b)
  | .dict kvs, _, h => by
    cases h with
    | dct a b c => exact .dct (e _ _ a) (dqKv_same1 e kvs _ b) (dqKv_same2 e kvs _ c)
theorem dqAll_same {K : PySem.W.Frag} {H H' : Hp} (e : Same H H') : ∀ (ds : List PyData) (vs : List V), DqAll K H vs ds → DqAll K H' vs ds
  | [], _, h => by cases h; exact .nil
  | d :: ds, _, h => by
    cases h with
    | cons a b => exact .cons (dq_same e d _ a) (dqAll_same e ds _ b)
theorem dqKv_same1 {K : PySem.W.Frag} {H H' : Hp} (e : Same H H') : ∀ (ds : List (PyData × PyData)) (vs : List V), DqAll K H vs (ds.map (·.1)) → DqAll K H' vs (ds.map (·.1))
  | [], _, h => by cases h; exact .nil
  | (d, f) :: ds, _, h => by
    cases h with
    | cons a b => exact .cons (dq_same e d _ a) (dqKv_same1 e ds _ b)
theorem dqKv_same2 {K : PySem.W.Frag} {H H' : Hp} (e : Same H H') : ∀ (ds : List (PyData × PyData)) (vs : List V), DqAll K H vs (ds.map (·.2)) → DqAll K H' vs (ds.map (·.2))
  | [], _, h => by cases h; exact .nil
  | (d, f) :: ds, _, h => by
    cases h with
    | cons a b => exact .cons (dq_same e f _ a) (dqKv_same2 e ds _ b)
end
/-- the table of modules stands as a dict -/
def SysK (K : PySem.W.Frag) : Prop := ∃ o, K.lookup sysModules = some o ∧ o.cls = .type "dict"
theorem Pairs.keys {P : Program} {w : World} : ∀ {es : List DictEntry} {kvs : List (Key × Value)} {ks : List (Key × V)}, Pairs (mixKind P w) es kvs → KV ks kvs →
    Vals (ks.map fun p => kV p.1) (es.map (·.key)) ∧ Vals (ks.map (·.2)) (es.map (·.val))
  | _, _, _, .nil, .nil => ⟨.nil, .nil⟩
  | _, _, _, .cons h1 h2 t, .cons r rs => by
    obtain ⟨a, b⟩ := Pairs.keys t rs
    refine ⟨.cons ?_ a, .cons ?_ b⟩
    · dsimp only
      rw [r.1]
      exact relV_key h1
    · dsimp only
      rw [h2]
      exact r.2
section
variable {X : Cx} {pins : List (Addr × Obj)} {σ : L2.St} {H : Hp} {s : Shared}
mutual
theorem Dq.reads (S : SysK X.K) (I : Inv X pins σ H s) : ∀ (d : PyData) (v : V) (u : Value), Dq X.K H v d → RelV v u → ∃ as, Reads s.heap u d as ∧ sysModules ∉ as
  | .none, _, _, h, r => by
    cases h
    cases r
    exact ⟨_, Reads.none, List.not_mem_nil⟩
  | .bool b, _, _, h, r => by
    cases h
    cases r
    exact ⟨_, Reads.bool b, List.not_mem_nil⟩
  | .int i, _, _, h, r => by
    cases h
    obtain ⟨t, rfl⟩ := r
    exact ⟨_, Reads.int i t, List.not_mem_nil⟩
  | .str x, _, _, h, r => by
    cases h
    obtain ⟨t, rfl⟩ := r
    exact ⟨_, Reads.str x t, List.not_mem_nil⟩
  | .list ds, _, _, h, r => by
    cases h with
    | lst hs ha =>
      cases r
      obtain ⟨its, rv, ⟨o, n, ho, hc, _, hd⟩, _⟩ := I.list hs
      obtain ⟨as, hr, hn⟩ := Dq.readsAll S I ds _ its ha rv
      refine ⟨_, Reads.list ho hc hd hr, fun z => ?_⟩
      rcases List.mem_cons.mp z with z | z
      · obtain ⟨o2, l, c2⟩ := S
        have e := I.kIn _ _ l
        rw [z, ho] at e
        rw [← Option.some.inj e, hc] at c2
        exact absurd c2 (by decide)
      · exact hn z
  | .tuple ds, _, _, h, r => by
    cases h with
    | tup hs ha =>
      cases r
      obtain ⟨its, rv, ⟨o, ho, hc, n, hd⟩, _⟩ := I.tuple hs
      obtain ⟨as, hr, hn⟩ := Dq.readsAll S I ds _ its ha rv
      exact ⟨_, Reads.tuple ho hc hd hr, hn⟩
  | .dict kvs, _, _, h, r => by
    cases h with
    | @dct a ks _ ha hk hv =>
      cases r
      obtain ⟨_, z, vs, kv, o, es, ep, ho, hx, hdt, hkeys, hp, _⟩ := I.hok a _ ha
      obtain ⟨r1, r2⟩ := Pairs.keys hp kv
      obtain ⟨as, q1, n1⟩ := Dq.readsKv1 S I kvs _ _ hk r1
      obtain ⟨bs, q2, n2⟩ := Dq.readsKv2 S I kvs _ _ hv r2
      refine ⟨_, Reads.dict ho hx.1 hdt q1 q2, fun y => ?_⟩
      rcases List.mem_append.mp y with y | y
      · rcases List.mem_cons.mp y with y | y
        · rw [← y] at z
          exact absurd z (by simp)
        · exact n1 y
      · exact n2 y
theorem Dq.readsAll (S : SysK X.K) (I : Inv X pins σ H s) : ∀ (ds : List PyData) (vs : List V) (us : List Value), DqAll X.K H vs ds → Vals vs us → ∃ as, ReadsAll s.heap us ds as ∧ sysModules ∉ as
  | [], _, _, h, r => by
    cases h
    cases r
    exact ⟨_, ReadsAll.nil, List.not_mem_nil⟩
  | d :: ds, _, _, h, r => by
    cases h with
    | cons h1 h2 =>
      cases r with
      | cons r1 r2 =>
        obtain ⟨as, q1, n1⟩ := Dq.reads S I d _ _ h1 r1
        obtain ⟨bs, q2, n2⟩ := Dq.readsAll S I ds _ _ h2 r2
        exact ⟨_, ReadsAll.cons q1 q2, fun z => (List.mem_append.mp z).elim n1 n2⟩
theorem Dq.readsKv1 (S : SysK X.K) (I : Inv X pins σ H s) : ∀ (ds : List (PyData × PyData)) (vs : List V) (us : List Value), DqAll X.K H vs (ds.map (·.1)) → Vals vs us → ∃ as, ReadsAll s.heap us (ds.map (·.1)) as ∧ sysModules ∉ as
  | [], _, _, h, r => by
    cases h
    cases r
    exact ⟨_, ReadsAll.nil, List.not_mem_nil⟩
  | (d, f) :: ds, _, _, h, r => by
    cases h with
    | cons h1 h2 =>
      cases r with
      | cons r1 r2 =>
        obtain ⟨as, q1, n1⟩ := Dq.reads S I d _ _ h1 r1
        obtain ⟨bs, q2, n2⟩ := Dq.readsKv1 S I ds _ _ h2 r2
        exact ⟨_, ReadsAll.cons q1 q2, fun z => (List.mem_append.mp z).elim n1 n2⟩
theorem Dq.readsKv2 (S : SysK X.K) (I : Inv X pins σ H s) : ∀ (ds : List (PyData × PyData)) (vs : List V) (us : List Value), DqAll X.K H vs (ds.map (·.2)) → Vals vs us → ∃ as, ReadsAll s.heap us (ds.map (·.2)) as ∧ sysModules ∉ as
  | [], _, _, h, r => by
    cases h
    cases r
    exact ⟨_, ReadsAll.nil, List.not_mem_nil⟩
  | (d, f) :: ds, _, _, h, r => by
    cases h with
    | cons h1 h2 =>
      cases r with
      | cons r1 r2 =>
        obtain ⟨as, q1, n1⟩ := Dq.reads S I f _ _ h1 r1
        obtain ⟨bs, q2, n2⟩ := Dq.readsKv2 S I ds _ _ h2 r2
        exact ⟨_, ReadsAll.cons q1 q2, fun z => (List.mem_append.mp z).elim n1 n2⟩
end
end
/-- data that is shown in short, dicts among it -/
structure Shown (n k : Nat) (d : PyData) : Prop where
  sh : d.showable = true
  dp : d.depth ≤ n
  lf : d.leavesShort 13 = true
  bk : d.bulk ≤ k
theorem Shown.fits {n k : Nat} {d : PyData} (s : Shown n k d) (hk : k ≤ 1000000) : d.shown.length ≤ sizeLine :=
  PyData.shown_fits_bulk (B := 13) (by decide) (by decide) s.lf (Nat.le_trans s.bk (Nat.le_trans hk (by decide)))
theorem Shown.up {n k m j : Nat} {d : PyData} (s : Shown n k d) (h1 : n ≤ m) (h2 : k ≤ j) : Shown m j d := ⟨s.sh, Nat.le_trans s.dp h1, s.lf, Nat.le_trans s.bk h2⟩
theorem Showy.shown {n k : Nat} {d : PyData} (s : Showy n k d) : Shown n k d := ⟨s.sh, s.dp, s.lf, s.bk⟩
/-- repr(x), x short data, dicts among it -/
def rRepD (K : PySem.W.Frag) : List V → Hp → VK → Prop := fun xs H Q => ∃ (x : V) (d : PyData), xs = [x] ∧ Dq K H x d ∧ Shown 8 1000000 d ∧ Q (.str d.shown) H
theorem call_repD {X : Cx} (S : SysK X.K) (qa : Quiet X.A) (hu : X.A.units + 64 < cLine) : CallR X (.builtin "repr") (rRepD X.K) := by
  intro pins s σ H xs us Q I r h
  obtain ⟨x, d, rfl, hd, sw, q⟩ := h
  obtain ⟨u, rfl, ru⟩ := vals1 r
  obtain ⟨as, rd, na⟩ := Dq.reads S I d x u hd ru
  have sh := sw.sh
  have sz := sw.fits (Nat.le_refl _)
  have dp := sw.dp
  have keep : ∀ (h' : Heap) (t : Tok) (tk : Nat), (∀ b o, s.heap.get? b = some o → h'.get? b = some o) →
      EP X pins σ Q (.str d.shown t) { s with heap := h', toks := tk } :=
    fun h' t tk k => ⟨.str d.shown, H, I.kept (t' := tk) k, ⟨t, rfl⟩, q⟩
  have flat : ∀ (t : Tok) (tk : Nat), EP X pins σ Q (.str d.shown t) { s with toks := tk } :=
    fun t tk => ⟨.str d.shown, H, I.tok tk, ⟨t, rfl⟩, q⟩
  cases d with
  | none => cases rd; exact PySem.P.repr_of_none (flat _ _)
  | bool b => cases rd; exact PySem.P.repr_of_bool (flat _ _)
  | int i =>
    cases rd
    exact PySem.P.repr_of_int (of_decide_eq_true (by simpa only [PyData.showable] using sh)) (flat _ _)
  | str y => cases rd; exact PySem.P.repr_of_str (flat _ _) sz
  | list ds =>
    cases rd with
    | list a1 a2 a3 a4 => exact repr_of_reads' (.list a1 a2 a3 a4) sh (fun _ => na) qa (by omega) (fun _ _ z => z) (fun h' t tk k => keep h' t tk k) sz
  | tuple ds =>
    cases rd with
    | tuple a1 a2 a3 a4 => exact repr_of_reads' (.tuple a1 a2 a3 a4) sh (fun _ => na) qa (by omega) (fun _ _ z => z) (fun h' t tk k => keep h' t tk k) sz
  | dict kv =>
    cases rd with
    | dict a1 a2 a3 a4 a5 => exact repr_of_reads' (.dict a1 a2 a3 a4 a5) sh (fun _ => na) qa (by omega) (fun _ _ z => z) (fun h' t tk k => keep h' t tk k) sz
/-- a datum's type -/
def tyD : PyData → String
  | .none => "NoneType"
  | .bool _ => "bool"
  | .int _ => "int"
  | .str _ => "str"
  | .list _ => "list"
  | .tuple _ => "tuple"
  | .dict _ => "dict"
theorem tyx_of {K : PySem.W.Frag} {H : Hp} {v : V} {d : PyData} (h : Dq K H v d) : TyX K H v (.type (tyD d)) := by
  cases h with
  | non => exact .base .non
  | bl b => exact .base (.bl b)
  | int i => exact .base (.int i)
  | str x => exact .base (.str x)
  | lst a _ =>
    rcases a with (a | ⟨o, a⟩) | ⟨o, _, _, a, c, _⟩
    · exact .base (.lst a)
    · exact .base (.frz a)
    · exact .kList a c
  | tup a _ =>
    rcases a with (a | ⟨o, a⟩) | ⟨o, _, _, a, c, _⟩
    · exact .base (.tup a)
    · exact .fTuple a
    · exact .kTuple a c
  | dct a _ _ => exact .base (.dK a)
end Gk
set_option Elab.async false
set_option linter.all false
set_option maxRecDepth 100000
/-! enumerate over a tuple; a walk over what is a list or a tuple. -/
namespace PySem
open Sem (wp)
open AutoSeq1 (wpAny_loadPart')
section
variable {pg : Program} {wd : World} {Z : Around} {X : Value → Shared → Prop} {st : Shared}
/-- the inner iterator of an enumerate: over a tuple -/
theorem nextOf_tup {r b : Addr} {k : Nat} {xs : Array Value} {v : Value} {R : Value → Shared → Prop} (hr : st.heap.IsTupleIter r b k)
    (hb : st.heap.IsTuple b xs) (hv : xs[k]? = some v)
    (hR : ∀ g, g.IsTupleIter r b (k + 1) → Heap.SameBut r st.heap g → R v { st with heap := g }) :
    wpAny (model pg wd) Z (Builtin.SmallTypes.nextOf (.ref r)) R X st := by
  obtain ⟨ob, e1, e2, e3⟩ := id hr
  obtain ⟨oc, f1, _, m, f3⟩ := hb
  unfold Builtin.SmallTypes.nextOf
  refine wpAny_bind (wpAny_callSpecial?_slot (name := Str.ofString "__next__") hr.typeIs F.slot_tuple_iterator_next
    (wpAny_call_entry F.slot_tuple_iterator_next hr.typeIs F.entry_tuple_iterator_next ?next (F.args_tuple_iterator_next_1 _)))
  case next =>
    show wpAny _ _ (field (.ref r) 0 >>= _) _ _ st
    refine wpAny_bind (wpAny_field e1 e3 (x := .ref b) rfl ?a)
    case a =>
      show wpAny _ _ (if (Value.ref b == Value.none) = true then _ else _) _ _ st
      rw [if_neg (fun z => Bool.false_ne_true z : ¬ ((Value.ref b == Value.none) = true))]
      show wpAny _ _ (field (.ref r) 1 >>= _) _ _ st
      refine wpAny_bind (wpAny_field e1 e3 (x := .int k 0) rfl ?b)
      case b =>
        show wpAny _ _ (seqItems? (.ref b) >>= _) _ _ st
        refine wpAny_bind (wpAny_seqItems f1 f3 ?c)
        case c =>
          simp only [Int.toNat_natCast, hv]
          refine wpAny_bind (wpAny_setField e1 e3 (by simp) (wpAny_pure ⟨v, rfl, wpAny_pure (hR _ ?d (Heap.SameBut.update ..))⟩))
          case d =>
            exact ⟨_, Heap.get?_update_self _ e1 (Obj.isFreed_of_fields (Obj.data_mapFields e3 _)), (Obj.cls_mapFields ..).trans e2, by
              rw [Obj.data_mapFields e3]
              simp [rawInt]⟩
theorem nextOf_tup_end {r b : Addr} {k : Nat} {xs : Array Value} {R : Value → Shared → Prop} (hh : Z.handled = none)
    (hr : st.heap.IsTupleIter r b k) (hb : st.heap.IsTuple b xs) (hv : xs[k]? = none)
    (hX : ∀ g e, Heap.ExtBut r st.heap g → (∃ o, g.get? e = some o ∧ o.cls = .type "StopIteration") → X (.ref e) { st with heap := g }) :
    wpAny (model pg wd) Z (Builtin.SmallTypes.nextOf (.ref r)) R X st := by
  obtain ⟨ob, e1, e2, e3⟩ := id hr
  obtain ⟨oc, f1, _, m, f3⟩ := hb
  unfold Builtin.SmallTypes.nextOf
  refine wpAny_bind (wpAny_callSpecial?_slot (name := Str.ofString "__next__") hr.typeIs F.slot_tuple_iterator_next
    (wpAny_call_entry F.slot_tuple_iterator_next hr.typeIs F.entry_tuple_iterator_next ?next (F.args_tuple_iterator_next_1 _)))
  case next =>
    show wpAny _ _ (field (.ref r) 0 >>= _) _ _ st
    refine wpAny_bind (wpAny_field e1 e3 (x := .ref b) rfl ?a)
    case a =>
      show wpAny _ _ (if (Value.ref b == Value.none) = true then _ else _) _ _ st
      rw [if_neg (fun z => Bool.false_ne_true z : ¬ ((Value.ref b == Value.none) = true))]
      show wpAny _ _ (field (.ref r) 1 >>= _) _ _ st
      refine wpAny_bind (wpAny_field e1 e3 (x := .int k 0) rfl ?b)
      case b =>
        show wpAny _ _ (seqItems? (.ref b) >>= _) _ _ st
        refine wpAny_bind (wpAny_seqItems f1 f3 ?c)
        case c =>
          simp only [Int.toNat_natCast, hv]
          refine wpAny_bind (wpAny_rule (wpAny_bind (wpAny_setField e1 e3 (by simp) ?d)))
          case d =>
            show wpAny _ _ (newExc (.type "StopIteration") [] >>= fun _ => _) _ _ _
            refine wpAny_bind ?e
            case e =>
              simp only [newTuple, newExc]
              refine wpAny_bind (wpAny_newObj_type ?f (by size_fits))
              case f =>
                refine wpAny_bind (m := firstArgMember _ _) (wpAny_of_eq (a := Value.none) (by first | rfl | (simp only [firstArgMember] <;> rfl)) ?g)
                case g =>
                  refine wpAny_newObj_type ?h (by size_fits)
                  case h =>
                    simp only [raiseNew]
                    refine wpAny_bind (wpAny_handled ?i)
                    case i =>
                      first | rw [show Z.in1.handled = none from hh] | rw [hh]
                      refine wpAny_bind (wpAny_pure (wpAny_throw ?j))
                      case j => exact hX _ _ (((Heap.SameBut.update ..).extBut.push _).push _) ⟨_, Heap.get?_push_size _ rfl, rfl⟩
/-- one turn of an enumerate over a tuple -/
theorem enum_tup_item {c r b : Addr} {k : Nat} {xs : Array Value} {v old : Value} {R : Value → Shared → Prop}
    (hc : IsEnum st.heap c r k old) (hr : st.heap.IsTupleIter r b k) (hb : st.heap.IsTuple b xs) (hv : xs[k]? = some v) (ne : c ≠ r)
    (hR : ∀ g, IsEnumOut g c r ((k : Int) + 1) v st.heap.objs.size → g.IsTupleIter r b (k + 1) → g.get? st.heap.objs.size = some { cls := .type "tuple", data := .seq #[.int k st.toks, v] } →
      g.objs.size = st.heap.objs.size + 1 → (∀ z o, z ≠ c → z ≠ r → st.heap.get? z = some o → g.get? z = some o) → R (.ref st.heap.objs.size) { st with heap := g, toks := st.toks + 1 }) :
    wpAny (model pg wd) Z (Builtin.«enumerate.__next__» ⟨[.ref c], []⟩) (fun q s2 => ∃ u, q = .done (.ret u) ∧ R u s2) X st := by
  obtain ⟨h0, gs, dr, tk, os⟩ := st
  show wpAny _ _ (field (.ref c) 2 >>= _) _ _ _
  refine wpAny_bind (wpAny_field hc rfl (x := .ref r) rfl ?p1)
  case p1 =>
  refine wpAny_bind (nextOf_tup hr hb hv fun h1 r1 (b1 : Heap.SameBut r h0 h1) => ?p2)
  case p2 =>
  have c1 : IsEnum h1 c r k old := (b1.2 c ne).trans hc
  show wpAny _ _ (field (.ref c) 3 >>= _) _ _ ⟨h1, gs, dr, tk, os⟩
  refine wpAny_bind (wpAny_field c1 rfl (x := rawInt k) rfl ?p3)
  case p3 =>
  show wpAny _ _ (field (.ref c) 4 >>= _) _ _ ⟨h1, gs, dr, tk, os⟩
  refine wpAny_bind (wpAny_field c1 rfl (x := .none) rfl ?p4)
  case p4 =>
  show wpAny _ _ (mkInt k >>= _) _ _ ⟨h1, gs, dr, tk, os⟩
  refine wpAny_bind (wpAny_mkInt ?p5)
  case p5 =>
  show wpAny _ _ (setField (.ref c) 3 (rawInt ((k : Int) + 1)) >>= _) _ _ ⟨h1, gs, dr, tk + 1, os⟩
  refine wpAny_bind (wpAny_setField_rec c1 (by simp) fun h2 (c2 : IsEnum h2 c r ((k : Int) + 1) old) (b2 : Heap.SameBut c h1 h2) => ?p6)
  case p6 =>
  show wpAny _ _ (setField (.ref c) 4 .none >>= _) _ _ ⟨h2, gs, dr, tk + 1, os⟩
  refine wpAny_bind (wpAny_setField_rec c2 (by simp) fun h3 (c3 : IsEnum h3 c r ((k : Int) + 1) old) (b3 : Heap.SameBut c h2 h3) => ?p7)
  case p7 =>
  show wpAny _ _ (newTuple [.int k tk, v] >>= _) _ _ ⟨h3, gs, dr, tk + 1, os⟩
  refine wpAny_bind (wpAny_newTuple ?p8)
  case p8 =>
  have c4 : IsEnum (h3.push { cls := .type "tuple", data := .seq #[.int k tk, v] }) c r ((k : Int) + 1) old := Heap.get?_push_of_some _ c3
  generalize eh : h3.push { cls := .type "tuple", data := .seq #[.int k tk, v] } = h4 at c4
  have z3 : h3.objs.size = h0.objs.size := by rw [b3.1, b2.1, b1.1]
  have lc : c < h0.objs.size := Heap.lt_size hc
  have t4 : h4.get? h0.objs.size = some { cls := .type "tuple", data := .seq #[.int k tk, v] } := by
    rw [← eh, ← z3]
    exact Heap.get?_push_size _ rfl
  have z4 : h4.objs.size = h0.objs.size + 1 := by rw [← eh, Heap.size_push, z3]
  have k4 : ∀ z o, z ≠ c → z ≠ r → h0.get? z = some o → h4.get? z = some o := fun z o n1 n2 q => by
    rw [← eh]
    exact Heap.get?_push_of_some _ (b3.extBut z o n1 (b2.extBut z o n1 (b1.extBut z o n2 q)))
  have r4 : h4.IsTupleIter r b (k + 1) := by
    rw [← eh]
    obtain ⟨o, ho, q⟩ := (r1.extBut b2.extBut (Ne.symm ne)).extBut b3.extBut (Ne.symm ne)
    exact ⟨o, Heap.get?_push_of_some _ ho, q⟩
  show wpAny _ _ (Builtin.SmallTypes.ownedTupleIsFree (.ref c) >>= _) _ _ ⟨h4, gs, dr, tk + 1, os⟩
  rw [z3]
  refine wpAny_bind ?p9
  case p9 =>
  unfold Builtin.SmallTypes.ownedTupleIsFree
  refine wpAny_bind (wpAny_field c4 rfl (x := .none) rfl (wpAny_pure ?q1))
  case q1 =>
  simp only [if_true]
  refine wpAny_bind (wpAny_rule ?q2)
  case q2 =>
  refine wpAny_bind (wpAny_field c4 rfl (x := old) rfl ?q3)
  case q3 =>
  refine wpAny_bind (wpAny_setField_rec c4 (by simp) fun h5 (c5 : IsEnum h5 c r ((k : Int) + 1) v) (b5 : Heap.SameBut c h4 h5) => ?q4)
  case q4 =>
  show wpAny _ _ (Builtin.SmallTypes.ownedTupleHandOut (.ref c) (.ref h0.objs.size) >>= _) _ _ ⟨h5, gs, dr, tk + 1, os⟩
  refine wpAny_bind ?q5
  case q5 =>
  unfold Builtin.SmallTypes.ownedTupleHandOut
  refine wpAny_bind (wpAny_setField_rec c5 (by simp) fun h6 (c6 : IsEnumOut h6 c r ((k : Int) + 1) v h0.objs.size) (b6 : Heap.SameBut c h5 h6) => ?q6)
  case q6 =>
  refine wpAny_setField_rec c6 (by simp) fun h7 (c7 : IsEnumOut h7 c r ((k : Int) + 1) v h0.objs.size) (b7 : Heap.SameBut c h6 h7) => ?q7
  case q7 =>
  refine wpAny_bind (wpAny_letGo (wpAny_pure ⟨_, rfl, hR h7 c7 ?r1 ?r2 ?r3 ?r4⟩))
  case r1 => exact ((r4.extBut b5.extBut (Ne.symm ne)).extBut b6.extBut (Ne.symm ne)).extBut b7.extBut (Ne.symm ne)
  case r2 => exact b7.extBut _ _ (Nat.ne_of_gt lc) (b6.extBut _ _ (Nat.ne_of_gt lc) (b5.extBut _ _ (Nat.ne_of_gt lc) t4))
  case r3 => rw [b7.1, b6.1, b5.1, z4]
  case r4 => exact fun z o n1 n2 q => b7.extBut z o n1 (b6.extBut z o n1 (b5.extBut z o n1 (k4 z o n1 n2 q)))
theorem pyNext_enum_tup {c r b : Addr} {k : Nat} {xs : Array Value} {v old : Value} {R : Option Value → Shared → Prop}
    (hc : IsEnum st.heap c r k old) (hr : st.heap.IsTupleIter r b k) (hb : st.heap.IsTuple b xs) (hv : xs[k]? = some v) (ne : c ≠ r)
    (hR : ∀ g, IsEnumOut g c r ((k : Int) + 1) v st.heap.objs.size → g.IsTupleIter r b (k + 1) → g.get? st.heap.objs.size = some { cls := .type "tuple", data := .seq #[.int k st.toks, v] } →
      g.objs.size = st.heap.objs.size + 1 → (∀ z o, z ≠ c → z ≠ r → st.heap.get? z = some o → g.get? z = some o) → R (some (.ref st.heap.objs.size)) { st with heap := g, toks := st.toks + 1 }) :
    wpAny (model pg wd) Z (pyNext (.ref c)) R X st := by
  have ty : st.TypeIs (.ref c) "enumerate" := ⟨_, hc, rfl⟩
  unfold pyNext
  refine wpAny_bind (wpAny_attempt (wpAny_callSpecial?_slot (name := Str.ofString "__next__") ty F.slot_enumerate_next ?p))
  case p =>
  exact wpAny_call_entry F.slot_enumerate_next ty F.entry_enumerate_next (enum_tup_item hc hr hb hv ne fun g q1 q2 q3 q4 q5 => wpAny_pure (hR g q1 q2 q3 q4 q5)) (F.args_enumerate_next_1 _)
theorem pyNext_enum_tup_end {c r b : Addr} {k : Nat} {xs : Array Value} {old : Value} {R : Option Value → Shared → Prop} (hh : Z.handled = none)
    (hc : IsEnum st.heap c r k old) (hr : st.heap.IsTupleIter r b k) (hb : st.heap.IsTuple b xs) (hv : xs[k]? = none)
    (hR : ∀ g, Heap.ExtBut r st.heap g → R none { st with heap := g }) : wpAny (model pg wd) Z (pyNext (.ref c)) R X st := by
  have ty : st.TypeIs (.ref c) "enumerate" := ⟨_, hc, rfl⟩
  unfold pyNext
  refine wpAny_bind (wpAny_attempt (wpAny_callSpecial?_slot (name := Str.ofString "__next__") ty F.slot_enumerate_next ?p))
  case p =>
  refine wpAny_call_entry F.slot_enumerate_next ty F.entry_enumerate_next ?q (F.args_enumerate_next_1 _)
  case q =>
  show wpAny _ _ (field (.ref c) 2 >>= _) _ _ _
  refine wpAny_bind (wpAny_field hc rfl (x := .ref r) rfl ?p1)
  case p1 =>
  refine wpAny_bind (nextOf_tup_end hh hr hb hv fun g x eg hx => ?p2)
  case p2 =>
  obtain ⟨o, ho, hcl⟩ := hx
  refine wpAny_bind (wpAny_isInstance (T := "StopIteration") (b := true) ⟨o, ho, hcl⟩ isSubtype_stop ?p3)
  case p3 => exact wpAny_pure (hR _ eg)
end
theorem meets_enum_tup (b : Addr) (xs : Array Value) (n : Nat) (dx : Option Addr) (sl : Array (Option Value)) :
    Meets (Builtin.«enumerate.__new__» ⟨[.type "enumerate", .ref b], []⟩) (fun _ R s => s.heap.get? b = some { cls := .type "tuple", dict := dx, data := .seq xs n, slots := sl } ∧
      R (.ok (.ret (.ref (s.heap.push { cls := .type "tuple_iterator", data := .fields #[.ref b, .int 0 0] }).objs.size)))
        { s with heap := (s.heap.push { cls := .type "tuple_iterator", data := .fields #[.ref b, .int 0 0] }).push { cls := .type "enumerate", data := .fields #[.none, .bool false, .ref s.heap.objs.size, rawInt 0, .none, .none] } }) :=
  .of_wp fun pg wd A R s h => by
    obtain ⟨h0, gs, dr, tk, os⟩ := s
    obtain ⟨hb, h⟩ := h
    have su := sub_enumerate
    have T : Heap.IsTuple (Shared.heap ⟨h0, gs, dr, tk, os⟩) b xs := ⟨_, hb, rfl, n, rfl⟩
    wp_walk using wpAny_loadPart' hb
    refine wpAny_stack_any fun sk => wpAny_pure ?p
    case p =>
    split
    · rename_i c _ _ _ _ _
      cases (c == Value.type "enumerate")
      · wp_walk using wpAny_loadPart' hb, wpAny_pyIter_tuple T
        exact ⟨_, rfl, h⟩
      · wp_walk using wpAny_loadPart' hb, wpAny_pyIter_tuple T
        exact ⟨_, rfl, h⟩
    · wp_walk using wpAny_loadPart' hb, wpAny_pyIter_tuple T
      exact ⟨_, rfl, h⟩
theorem call_enum_tup {pg : Program} {wd : World} {Z : Around} {X : Value → Shared → Prop} {st : Shared} {b : Addr} {xs : Array Value} {R : Value → Shared → Prop} (T : st.heap.IsTuple b xs)
    (hR : ∀ g, IsEnum g (st.heap.objs.size + 1) st.heap.objs.size 0 .none → g.IsTupleIter st.heap.objs.size b 0 → g.objs.size = st.heap.objs.size + 2 →
      (∀ z o, st.heap.get? z = some o → g.get? z = some o) → R (.ref (st.heap.objs.size + 1)) { st with heap := g }) :
    wpAny (model pg wd) Z (call (.type "enumerate") [.ref b]) R X st := by
  obtain ⟨⟨oc, dx, dt, sl⟩, hb, q1, n, q2⟩ := T
  dsimp only at q1 q2
  subst q1 q2
  refine callType_new F.called_enumerate (by decide) (F.typeCall_enumerate_1 _) (F.newCall_enumerate_1 _) (fun ob => F.args_object_init_2 ob _) F.entry_enumerate_new (meets_enum_tup b xs n dx sl) ⟨hb, ?p⟩
  case p =>
  have sz : (st.heap.push { cls := .type "tuple_iterator", data := .fields #[.ref b, .int 0 0] }).objs.size = st.heap.objs.size + 1 := Heap.size_push ..
  show _ ∧ _
  rw [sz]
  have en : IsEnum ((st.heap.push { cls := .type "tuple_iterator", data := .fields #[.ref b, .int 0 0] }).push
      { cls := .type "enumerate", data := .fields #[.none, .bool false, .ref st.heap.objs.size, rawInt 0, .none, .none] }) (st.heap.objs.size + 1) st.heap.objs.size 0 .none := by
    have z := Heap.get?_push_size (st.heap.push { cls := .type "tuple_iterator", data := .fields #[.ref b, .int 0 0] })
      (o := { cls := .type "enumerate", data := .fields #[.none, .bool false, .ref st.heap.objs.size, rawInt 0, .none, .none] }) rfl
    rw [sz] at z
    exact z
  refine ⟨⟨_, en, rfl⟩, hR _ en ⟨_, Heap.get?_push_of_some _ (Heap.get?_push_size _ rfl), rfl, rfl⟩ (by rw [Heap.size_push, sz]) fun z o x => ?q⟩
  case q => exact Heap.get?_push_of_some _ (Heap.get?_push_of_some _ x)
end PySem
set_option Elab.async false
set_option linter.all false
set_option maxRecDepth 100000
set_option maxHeartbeats 1000000
/-! What is a list or a tuple: walked, enumerated, made a tuple or a list of; isinstance of data. -/
namespace Gk
open PySem PySem.Spec PyProof.Rows L2
/-- at a a list or a tuple of xs -/
def SqS (K : PySem.W.Frag) (H : Hp) (a : Addr) (xs : List V) : Prop := SqL K H a xs ∨ SqT K H a xs
theorem SqS.same {K : PySem.W.Frag} {H H' : Hp} {a : Addr} {xs : List V} (h : SqS K H a xs) (e : Same H H') : SqS K H' a xs := h.elim (fun z => .inl (e.seq z)) fun z => .inr (sqT_same e z)
/-- the tuple at a, each item in a new pair -/
def Iet (K : PySem.W.Frag) (a : Addr) : It where
  go := fun i H => ∃ (xs : List V) (x : V), SqT K H a xs ∧ xs[i]? = some x
  yld := fun i H v H' => ∃ T x, v = .ref T ∧ H T = none ∧ H' = upd H T (.tup [.int (i : Nat), x]) ∧ ∀ xs, SqT K H a xs → xs[i]? = some x
  stop := fun i H => ∃ xs : List V, SqT K H a xs ∧ xs.length ≤ i
theorem turn_enumT {P : Program} {w : World} {K : PySem.W.Frag} {es : List Expr} {m : Nat} {tp : Pos} (a c r : Addr) :
    Turn P w K (.Tuple es m tp) (Iet K a) [c, r] c (fun i h => (∃ old, IsEnum h c r ((i : Nat) : Int) old) ∧ h.IsTupleIter r a i ∧ c ≠ r) where
  mem := List.mem_cons_self
  obj := fun i h st b hb => by
    obtain ⟨⟨old, h1⟩, ⟨o, h2, _, h3⟩, _⟩ := st
    rcases (show b = c ∨ b = r by simpa using hb) with z | z
    · subst z
      exact ⟨_, h1, fun v q => nomatch q⟩
    · subst z
      exact ⟨o, h2, fun v q => by rw [h3] at q; cases q⟩
  keep := fun i h h' st k => by
    obtain ⟨⟨old, h1⟩, ⟨o, h2, h3⟩, ne⟩ := st
    exact ⟨⟨old, k c (by simp) _ h1⟩, ⟨o, k r (by simp) _ h2, h3⟩, ne⟩
  item := by
    intro X hP hw hK hc i pins s σ H E I hf st hg
    subst hP hw hK
    obtain ⟨⟨old, h1⟩, h2, ne⟩ := st
    obtain ⟨xs, x, hq, hx⟩ := hg
    obtain ⟨its, rv, p, _⟩ := I.tuple hq
    obtain ⟨u, hu, ru⟩ := rv.get hx
    have l1 : c < s.heap.objs.size := Heap.lt_size h1
    have l2 : r < s.heap.objs.size := by
      obtain ⟨_, q, _⟩ := h2
      exact Heap.lt_size q
    refine pyNext_enum_tup h1 h2 (show s.heap.IsTuple a its.toArray from p) (v := u) (by simpa using hu) ne fun g c1 r1 t1 _ kp => ?_
    refine ⟨_, rfl, wpAny_letOwnedTupleGo_enum (s := { s with heap := g, toks := s.toks + 1 }) c1 fun g2 c2 sb => ?_⟩
    have t2 : g2.get? s.heap.objs.size = some { cls := .type "tuple", data := .seq #[.int i s.toks, u] } := (sb.2 _ (Nat.ne_of_gt l1)).trans t1
    have new : ObjOk X.prog X.w (upd H s.heap.objs.size (.tup [.int (i : Nat), x])) g2 s.heap.objs.size (.tup [.int (i : Nat), x]) :=
      ⟨(by decide : 2 ≤ sizeLine), [.int i s.toks, u], .cons ⟨_, rfl⟩ (.cons ru .nil), ⟨_, t2, rfl, _, rfl⟩⟩
    have J : Inv X pins σ (upd H s.heap.objs.size (.tup [.int (i : Nat), x])) { s with heap := g2, toks := s.toks + 1 } :=
      Inv.turnedNew (ch := [c, r]) I (fun b ob hb q => (sb.2 b (fun z => hb (by simp [z]))).trans (kp b ob (fun z => hb (by simp [z])) (fun z => hb (by simp [z])) q)) hf (Nat.le_refl _) new
    refine ⟨.ref s.heap.objs.size, _, J, rfl, ⟨_, x, rfl, I.hok.fresh (Nat.le_refl _), rfl, fun ys hy => by rw [I.tuple_inj hy hq]; exact hx⟩, ⟨⟨u, ?_⟩, ?_, ne⟩, fun b hb => ?_⟩
    · rw [show ((i + 1 : Nat) : Int) = (i : Int) + 1 by omega]
      exact c2
    · obtain ⟨o, q1, q2⟩ := r1
      exact ⟨o, (sb.2 r (Ne.symm ne)).trans q1, q2⟩
    · have lb : b < s.heap.objs.size := by
        rcases (show b = c ∨ b = r by simpa using hb) with z | z
        · rw [z]; exact l1
        · rw [z]; exact l2
      rw [upd_ne (Nat.ne_of_lt lb)]
      exact (hf b hb).1
  done := by
    intro X hP hw hK hc i pins s σ H E I hf st hg
    subst hP hw hK
    obtain ⟨⟨old, h1⟩, h2, ne⟩ := st
    obtain ⟨xs, hq, hx⟩ := hg
    obtain ⟨its, rv, p, _⟩ := I.tuple hq
    obtain ⟨f0, f1, _, f3, f4, f5⟩ := hf r (by simp)
    have hl := rv.length
    exact pyNext_enum_tup_end (I.ok.hd hc) h1 h2 (show s.heap.IsTuple a its.toArray from p) (by simp; omega) fun g eb => ⟨rfl, I.turned (t' := s.toks) (fun b o hb q => eb b o hb q) f0 f1 f3 f4 f5⟩
  self := fun A i s Q E st h => by
    obtain ⟨⟨_, h1⟩, _⟩ := st
    exact wpAny_pyIter_enum h1 h
/-- enumerate(xs), xs a list or a tuple -/
def iEnumS (K : PySem.W.Frag) (ta : TA) : TI := fun σ H R => ta σ H fun vs H1 => ∃ a xs, vs = [.ref a] ∧ ((SqL K H1 a xs ∧ R (Ite K a) H1) ∨ (SqT K H1 a xs ∧ R (Iet K a) H1))
theorem pi_enumS {X : Cx} {e : Expr} {ta : TA} {p pos tp : Pos} {es : List Expr} {m : Nat} (hg : Gl X "enumerate") (hm : X.mg "enumerate" = none) (ha : PA X [e] ta) (hs : starEach [e] X.env = [(false, eval e X.env)] := by rfl) :
    PI X (.Tuple es m tp) (.Call (.Name "enumerate" p) [e] [] pos) (iEnumS X.K ta) := by
  refine ⟨fun pins s σ H R I h => ?_⟩
  refine Call_ (ld_blt I hg hm boot_enumerate (PyProof.Rows.callWith_type1 (thn (ha.run pos pins s σ H _ I h) fun us s1 z => ?_) hs rfl))
  obtain ⟨vs, H1, I1, r1, a, xs, ex, z⟩ := z
  subst ex
  cases r1 with
  | cons r rr =>
    cases rr
    cases r
    have two : ∀ b : Addr, b ∈ [s1.heap.objs.size + 1, s1.heap.objs.size] → FpOk X pins H1 b := fun b hb => by
      have hle : s1.heap.objs.size ≤ b := by
        rcases (show b = s1.heap.objs.size + 1 ∨ b = s1.heap.objs.size by simpa using hb) with q | q
        · rw [q]; exact Nat.le_add_right _ _
        · rw [q]; exact Nat.le_refl _
      exact I1.fpOk hle (I1.hok.fresh hle)
    rcases z with ⟨hq, q⟩ | ⟨hq, q⟩
    · obtain ⟨its, rv, p', _⟩ := I1.list hq
      refine call_enumerate_list p'.isList fun g he hit _ hk => wpAny_pyIter_enum he ?_
      exact ⟨s1.heap.objs.size + 1, [s1.heap.objs.size + 1, s1.heap.objs.size], _, _, H1, rfl, I1.kept (t' := s1.toks) hk, turn_enum a (s1.heap.objs.size + 1) s1.heap.objs.size, ⟨⟨.none, he⟩, hit, Nat.succ_ne_self _⟩, two, q⟩
    · obtain ⟨its, rv, p', _⟩ := I1.tuple hq
      refine call_enum_tup (show s1.heap.IsTuple a its.toArray from p') fun g he hit _ hk => wpAny_pyIter_enum he ?_
      exact ⟨s1.heap.objs.size + 1, [s1.heap.objs.size + 1, s1.heap.objs.size], _, _, H1, rfl, I1.kept (t' := s1.toks) hk, turn_enumT a (s1.heap.objs.size + 1) s1.heap.objs.size, ⟨⟨.none, he⟩, hit, Nat.succ_ne_self _⟩, two, q⟩
/-- a walk over a list or a tuple -/
def iSeqS (K : PySem.W.Frag) (te : TE) : TI := fun σ H R => te σ H fun v H1 => ∃ a xs, v = .ref a ∧ ((SqL K H1 a xs ∧ R (Itl K a) H1) ∨ (SqT K H1 a xs ∧ R (Itt K a) H1))
theorem pi_seqS {X : Cx} {tg e : Expr} {te : TE} (he : PE X e te) : PI X tg e (iSeqS X.K te) := by
  refine ⟨fun pins s σ H R I h => ?_⟩
  refine thn (he.run pins s σ H _ I h) fun v s1 z => ?_
  obtain ⟨x, H1, I1, r1, a, xs, ex, z⟩ := z
  subst ex
  cases r1
  have one : ∀ b : Addr, b ∈ [s1.heap.objs.size] → FpOk X pins H1 b := fun b hb => by
    have q : b = s1.heap.objs.size := by simpa using hb
    subst q
    exact I1.fpOk (Nat.le_refl _) (I1.hok.fresh (Nat.le_refl _))
  rcases z with ⟨hq, q⟩ | ⟨hq, q⟩
  · obtain ⟨its, rv, p, _⟩ := I1.list hq
    exact wpAny_pyIter_list p.isList ⟨s1.heap.objs.size, [s1.heap.objs.size], _, _, H1, rfl, I1.kept (t' := s1.toks) fun b o e => Heap.get?_push_of_some _ e, turn_list a _, ⟨_, Heap.get?_push_size _ rfl, rfl, rfl⟩, one, q⟩
  · obtain ⟨its, rv, p, _⟩ := I1.tuple hq
    exact wpAny_pyIter_tuple (show s1.heap.IsTuple a its.toArray from p) ⟨s1.heap.objs.size, [s1.heap.objs.size], _, _, H1, rfl, I1.kept (t' := s1.toks) fun b o e => Heap.get?_push_of_some _ e, turn_tuple a _, ⟨_, Heap.get?_push_size _ rfl, rfl, rfl⟩, one, q⟩
theorem walk_enumT {K : PySem.W.Frag} {a : Addr} {xs : List V} : Walk (Iet K a) xs.length (fun H => SqT K H a xs) (YPair (fun i => some (.int (i : Nat))) (fun i => xs[i]?)) := by
  refine ⟨fun i _ hi q => ⟨xs, xs[i], q, by simp [hi]⟩, fun _ q => ⟨xs, q, Nat.le_refl _⟩, fun i H v H' _ q y => ?_⟩
  obtain ⟨T, x, h1, h2, h3, h4⟩ := y
  exact ⟨T, .int (i : Nat), x, h1, h2, h3, rfl, h4 xs q⟩
/-! ### isinstance of data -/
def isT (T a : String) : Bool := decide (a = T) || (decide (T = "int") && decide (a = "bool"))
def isD (T : String) (d : PyData) : Bool := isT T (tyD d)
/-- the built-in types that are asked for -/
def okT (T : String) : Bool := ["int", "bool", "list", "tuple", "str"].contains T
theorem kit_tab : ∀ a ∈ ["NoneType", "bool", "int", "str", "list", "tuple", "dict"], ∀ T ∈ ["int", "bool", "list", "tuple", "str"], kitB a T = some (isT T a) := by decide +kernel
theorem kit_d {K : PySem.W.Frag} {T : String} (h : okT T = true) (d : PyData) : PySem.W.kitOne K (.type (tyD d)) (.type T) = some (isD T d) :=
  kit_ty (kit_tab (tyD d) (by cases d <;> simp [tyD]) T (by unfold okT at h; simpa using h))
theorem kit_ds {K : PySem.W.Frag} (d : PyData) : ∀ (Ts : List String), (∀ T ∈ Ts, okT T = true) → PySem.W.kitAny K (.type (tyD d)) (Ts.map Value.type) = some (Ts.any fun T => isD T d)
  | [], _ => kitAny_nil
  | T :: Ts, h => kitAny_cons (kit_d (h T List.mem_cons_self) d) (fun z => by
      rw [List.any_cons, z, Bool.false_or]
      exact kit_ds d Ts fun U hU => h U (List.mem_cons_of_mem _ hU)) fun z => by rw [List.any_cons, z, Bool.true_or]
def rIsD (K : PySem.W.Frag) : List V → Hp → VK → Prop := fun xs H Q => ∃ (x : V) (d : PyData) (T : String), xs = [x, .ty T] ∧ okT T = true ∧ Dq K H x d ∧ Q (.bl (isD T d)) H
theorem call_isD {X : Cx} : CallR X (.builtin "isinstance") (rIsD X.K) := fun pins s σ H xs us Q I r h => by
  obtain ⟨x, d, T, e, ok, hd, q⟩ := h
  exact call_isi pins s σ H xs us Q I r ⟨x, .ty T, _, _, _, e, .ty T, tyx_of hd, kit_d ok d, q⟩
def rIsDT (K : PySem.W.Frag) : List V → Hp → VK → Prop := fun xs H Q => ∃ (x : V) (tp : Addr) (d : PyData) (Ts : List String), xs = [x, .ref tp] ∧ H tp = some (.tup (Ts.map V.ty)) ∧ (∀ T ∈ Ts, okT T = true) ∧ Dq K H x d ∧ Q (.bl (Ts.any fun T => isD T d)) H
theorem clsV_all : ∀ Ts : List String, Paired ClsV (Ts.map V.ty) (Ts.map Value.type)
  | [] => .nil
  | T :: Ts => .cons (.ty T) (clsV_all Ts)
theorem call_isDT {X : Cx} : CallR X (.builtin "isinstance") (rIsDT X.K) := fun pins s σ H xs us Q I r h => by
  obtain ⟨x, tp, d, Ts, e, ht, ok, hd, q⟩ := h
  exact call_isiT pins s σ H xs us Q I r ⟨x, tp, _, _, _, _, e, ht, clsV_all Ts, tyx_of hd, kit_ds d Ts ok, q⟩
end Gk
set_option Elab.async false
set_option linter.all false
set_option maxRecDepth 100000
set_option maxHeartbeats 1000000
/-! max of whole numbers, of a list or a tuple; with a default. -/
namespace Gk
open PySem PySem.Spec PyProof.Rows L2
theorem reads_ints {h : Heap} : ∀ {ns : List Int} {us : List Value}, Vals (ns.map V.int) us → ∃ as, ReadsAll h us (ns.map PyData.int) as
  | [], _, r => by
    cases r
    exact ⟨_, .nil⟩
  | n :: ns, _, r => by
    cases r with
    | cons a b =>
      obtain ⟨t, rfl⟩ := a
      obtain ⟨as, z⟩ := reads_ints (ns := ns) b
      exact ⟨_, .cons (.int n t) z⟩
theorem alike_ints (ns : List Int) : PySem.W.AlikeAll (ns.map PyData.int) := by
  refine ⟨fun x hx y hy => ?_, fun x hx => ?_⟩
  · obtain ⟨i, _, rfl⟩ := List.mem_map.mp hx
    obtain ⟨j, _, rfl⟩ := List.mem_map.mp hy
    simp [PySem.W.alike]
  · obtain ⟨i, _, rfl⟩ := List.mem_map.mp hx
    exact fun z => nomatch z
theorem depth_ints : ∀ ns : List Int, PyData.depthAll (ns.map PyData.int) = 0
  | [] => by simp only [List.map_nil, PyData.depthAll]
  | n :: ns => by
    simp only [List.map_cons, PyData.depthAll, PyData.depth, depth_ints ns]
    rfl
/-- max(xs) of whole numbers, at least one -/
def rMaxS (K : PySem.W.Frag) : List V → Hp → VK → Prop := fun vs H Q => ∃ (a : Addr) (n : Int) (ns : List Int), vs = [V.ref a] ∧ SqS K H a ((n :: ns).map V.int) ∧ Q (.int (ns.foldl max n)) H
theorem cr_maxS {X : Cx} (hc : X.calm = true) (hu : X.A.units + 64 < cLine) : CallR X (.builtin "max") (rMaxS X.K) := by
  intro pins s σ H vs us Q I r h
  obtain ⟨a, n, ns, rfl, hs, q⟩ := h
  rw [Vals.ref1 r]
  have fin : ∀ (v : Value) (h' : Heap) (tk : Nat) (bs : List Addr), Reads h' v (PySem.W.maxD (.int n) (ns.map PyData.int)) bs → (∀ b o, s.heap.get? b = some o → h'.get? b = some o) → EP X pins σ Q v { s with heap := h', toks := tk } := fun v h' tk bs z k => by
    rw [PySem.W.maxD_ints] at z
    cases z
    exact ⟨.int _, H, I.kept (t' := tk) k, ⟨_, rfl⟩, q⟩
  have dp : PyData.depthAll (PyData.int n :: ns.map PyData.int) = 0 := depth_ints (n :: ns)
  rcases hs with hs | hs
  · obtain ⟨its, rv, hl, _⟩ := I.list hs
    obtain ⟨as, ra⟩ := reads_ints (h := s.heap) (ns := n :: ns) rv
    exact PySem.W.max_list_data (I.ok.hd hc) hl.isList ra (alike_ints (n :: ns)) (by rw [dp]; omega) fun i v h' tk bs _ z k => fin v h' tk bs z k
  · obtain ⟨its, rv, hl, _⟩ := I.tuple hs
    obtain ⟨as, ra⟩ := reads_ints (h := s.heap) (ns := n :: ns) rv
    exact PySem.W.max_tuple_data (I.ok.hd hc) (show s.heap.IsTuple a its.toArray from hl) ra (alike_ints (n :: ns)) (by rw [dp]; omega) fun i v h' tk bs _ z k => fin v h' tk bs z k
/-- max(xs, default=d) of whole numbers -/
def maxI (d : Int) : List Int → Int
  | [] => d
  | n :: ns => ns.foldl max n
def rMaxF (K : PySem.W.Frag) : List V → List V → Hp → VK → Prop := fun vs ks H Q => ∃ (a : Addr) (ns : List Int) (d : Int), vs = [V.ref a] ∧ ks = [.int d] ∧ SqS K H a (ns.map V.int) ∧ Q (.int (maxI d ns)) H
theorem cr_maxF {X : Cx} (hc : X.calm = true) (hu : X.A.units + 64 < cLine) : CallRK X (.builtin "max") [("default" : Str)] (rMaxF X.K) := by
  intro pins s σ H vs ks us ws Q I r rk h
  obtain ⟨a, ns, d, rfl, rfl, hs, q⟩ := h
  rw [Vals.ref1 r]
  obtain ⟨u, rfl, ru⟩ := vals1 rk
  have fin : ∀ (y : PyData) (ys : List PyData) (v : Value) (h' : Heap) (tk : Nat) (bs : List Addr), ns.map PyData.int = y :: ys → Reads h' v (PySem.W.maxD y ys) bs → (∀ b o, s.heap.get? b = some o → h'.get? b = some o) → EP X pins σ Q v { s with heap := h', toks := tk } := fun y ys v h' tk bs e z k => by
    cases ns with
    | nil => cases e
    | cons n ns =>
      injection e with e1 e2
      subst e1 e2
      rw [PySem.W.maxD_ints] at z
      cases z
      exact ⟨.int _, H, I.kept (t' := tk) k, ⟨_, rfl⟩, q⟩
  have nil : ns.map PyData.int = [] → ∀ (h' : Heap) (tk : Nat), (∀ b o, s.heap.get? b = some o → h'.get? b = some o) → EP X pins σ Q u { s with heap := h', toks := tk } := fun e h' tk k => by
    cases ns with
    | nil => exact ⟨.int d, H, I.kept (t' := tk) k, ru, q⟩
    | cons n ns => cases e
  have dp := depth_ints ns
  show wpAny _ _ (call (.builtin "max") _ [(("default" : Str), u)]) _ _ _
  rcases hs with hs | hs
  · obtain ⟨its, rv, hl, _⟩ := I.list hs
    obtain ⟨as, ra⟩ := reads_ints (h := s.heap) (ns := ns) rv
    exact PySem.W.max_list_default (I.ok.hd hc) hl.isList ra (alike_ints ns) (by rw [dp]; omega) nil fun y ys i v h' tk bs e _ z k => fin y ys v h' tk bs e z k
  · obtain ⟨its, rv, hl, _⟩ := I.tuple hs
    obtain ⟨as, ra⟩ := reads_ints (h := s.heap) (ns := ns) rv
    exact PySem.W.max_tuple_default (I.ok.hd hc) (show s.heap.IsTuple a its.toArray from hl) ra (alike_ints ns) (by rw [dp]; omega) nil fun y ys i v h' tk bs e _ z k => fin y ys v h' tk bs e z k
end Gk
set_option Elab.async false
set_option linter.all false
set_option maxRecDepth 100000
set_option maxHeartbeats 1000000
namespace Gk
open PySem PySem.Spec PyProof.Rows L2
/-- what a for asks of its walk -/
abbrev RW (g : TG) (tb : TS) (D : Ends) (σ : L2.St) (J : It) (H : Hp) : Prop :=
  ∃ W : Nat → Nat → L2.St → Hp → Prop, (∃ m, W 0 m σ H) ∧ ∀ i m σ H, W i m σ H →
      (J.stop i H ∧ D.nx σ H) ∨ (J.go i H ∧ ∃ N : L2.St → Hp → Prop, (∀ σ' H', N σ' H' → ∃ m', m' < m ∧ W (i + 1) m' σ' H') ∧ ∀ x H', J.yld i H x H' → g x σ H' fun σ2 H2 => tb { D with nx := N, ct := N, bk := D.nx } σ2 H2)
section
variable {K : PySem.W.Frag} {b : Addr} {xs : List V} {g : TG} {tb : TS} {D : Ends} {σ : L2.St} {H : Hp}
/-- for i, x in enumerate(xs), xs a list or a tuple -/
theorem for_enumS (hq : SqS K H b xs) (Pv : Nat → L2.St → Hp → Prop) (h0 : Pv 0 σ H) (hK : ∀ i σ H', i ≤ xs.length → Pv i σ H' → Same H H')
    (hs : ∀ (i : Nat) (x : V) (T : Addr) (σ : L2.St) (H' : Hp), xs[i]? = some x → Pv i σ H' → H' T = none → g (.ref T) σ (upd H' T (.tup [.int (i : Nat), x])) fun σ2 H2 => tb { D with nx := Pv (i + 1), ct := Pv (i + 1), bk := D.nx } σ2 H2)
    (hd : ∀ σ H', Pv xs.length σ H' → D.nx σ H') : (SqL K H b xs ∧ RW g tb D σ (Ite K b) H) ∨ (SqT K H b xs ∧ RW g tb D σ (Iet K b) H) := by
  have turn : ∀ (i : Nat) (v : V) (σ : L2.St) (H1 H2 : Hp), i < xs.length → Pv i σ H1 → YPair (fun i => some (V.int (i : Nat))) (fun i => xs[i]?) i H1 v H2 → g v σ H2 fun σ2 H3 => tb { D with nx := Pv (i + 1), ct := Pv (i + 1), bk := D.nx } σ2 H3 := by
    rintro i v σ H1 H2 hi p ⟨T, x, y, rfl, hT, rfl, e1, e2⟩
    have e := Option.some.inj e1
    subst e
    exact hs i y T σ H1 e2 p hT
  rcases hq with hq | hq
  · exact .inl ⟨hq, for_it walk_enum Pv h0 (fun i σ H' hi p => (hK i σ H' hi p).seq hq) turn hd⟩
  · exact .inr ⟨hq, for_it walk_enumT Pv h0 (fun i σ H' hi p => sqT_same (hK i σ H' hi p) hq) turn hd⟩
/-- for x in xs, xs a list or a tuple -/
theorem for_seqS (hq : SqS K H b xs) (Pv : Nat → L2.St → Hp → Prop) (h0 : Pv 0 σ H) (hK : ∀ i σ H', i ≤ xs.length → Pv i σ H' → SqS K H' b xs)
    (hs : ∀ (i : Nat) (x : V) (σ : L2.St) (H' : Hp), xs[i]? = some x → Pv i σ H' → g x σ H' fun σ2 H2 => tb { D with nx := Pv (i + 1), ct := Pv (i + 1), bk := D.nx } σ2 H2)
    (hd : ∀ σ H', Pv xs.length σ H' → D.nx σ H') (hL : (∃ H0, SqL K H0 b xs ∧ ∀ i σ H', i ≤ xs.length → Pv i σ H' → SqL K H' b xs) ∨ ∃ H0, SqT K H0 b xs ∧ ∀ i σ H', i ≤ xs.length → Pv i σ H' → SqT K H' b xs) :
    (SqL K H b xs ∧ RW g tb D σ (Itl K b) H) ∨ (SqT K H b xs ∧ RW g tb D σ (Itt K b) H) := by
  have turn : ∀ (i : Nat) (v : V) (σ : L2.St) (H1 H2 : Hp), i < xs.length → Pv i σ H1 → YAt xs i H1 v H2 → g v σ H2 fun σ2 H3 => tb { D with nx := Pv (i + 1), ct := Pv (i + 1), bk := D.nx } σ2 H3 := by
    rintro i v σ H1 H2 hi p ⟨rfl, e2⟩
    exact hs i v σ _ e2 p
  rcases hL with ⟨_, _, k⟩ | ⟨_, _, k⟩
  · exact .inl ⟨k 0 σ H (Nat.zero_le _) h0, for_it walk_list Pv h0 k turn hd⟩
  · exact .inr ⟨k 0 σ H (Nat.zero_le _) h0, for_it walk_tup Pv h0 k turn hd⟩
end
/-- what a comprehension asks of its walk -/
abbrev RL (g : TG) (tt : TT) (te : TE) (vs : List Nat) (σ : L2.St) (Q : VK) (J : It) (H1 : Hp) : Prop :=
  ∀ D, H1 D = none → ∃ W : Nat → Nat → Hp → Prop, (∃ m, W 0 m (upd H1 D (.lst []))) ∧ ∀ i m H, W i m H →
    (J.stop i H ∧ Q (.ref D) H) ∨ (J.go i H ∧ ∃ Nx : Hp → Prop, (∀ H', Nx H' → ∃ m', m' < m ∧ W (i + 1) m' H') ∧ ∀ x H', J.yld i H x H' → g x (wipe σ vs) H' fun σ2 H2 => wipe σ2 vs = wipe σ vs ∧ tt σ2 H2 fun b H3 =>
      if b = true then te σ2 H3 fun y H4 => ∃ acc, H4 D = some (.lst acc) ∧ acc.length < sizeLine ∧ Nx (upd H4 D (.lst (acc ++ [y]))) else Nx H3)
section
variable {K : PySem.W.Frag} {b : Addr} {xs : List V} {tt : TT} {te : TE} {vs : List Nat} {j : Nat} {σ : L2.St} {H1 : Hp} {Q : VK} {J : It}
/-- F i: what the first i items give -/
theorem lc_walk {Y : Nat → Hp → V → Hp → Prop} (F : Nat → List V) (f0 : F 0 = []) (fl : ∀ i, i ≤ xs.length → (F i).length ≤ i) (hn : xs.length ≤ 1000) (hw : ∀ x, wipe ((wipe σ vs).set j (some x)) vs = wipe σ vs)
    (w : Walk J xs.length (fun H => Same H1 H) (YAt xs))
    (he : ∀ (i : Nat) (x : V) (H' : Hp) (R : VK) (N : Hp → Prop), xs[i]? = some x → Same H1 H' → (∀ H4 y, Same H' H4 → F (i + 1) = F i ++ [y] → R y H4) → (∀ H3, Same H' H3 → F (i + 1) = F i → N H3) →
      tt ((wipe σ vs).set j (some x)) H' fun b H3 => if b = true then te ((wipe σ vs).set j (some x)) H3 R else N H3)
    (k : ∀ (D : Addr) (H' : Hp), Same H1 H' → H1 D = none → H' D = some (.lst (F xs.length)) → Q (.ref D) H') : RL (gName j) tt te vs σ Q J H1 := fun D hD => by
  refine lc_it w (fun i H => Same H1 H ∧ H D = some (.lst (F i))) ⟨same_upd' hD, by rw [f0]; exact upd_same⟩ (fun i H _ z => z.1) ?_ fun H z => k D H z.1 hD z.2
  rintro i x H H' hi ⟨s, hd⟩ ⟨rfl, hx⟩
  refine ⟨hw _, he i x _ _ _ hx s (fun H4 y s4 e => ⟨F i, s4 _ _ hd, ?_, fun c o z => ?_, ?_⟩) fun H3 s3 e => ⟨s.trans s3, by rw [e]; exact s3 _ _ hd⟩⟩
  · exact small1000 (Nat.le_trans (fl i (Nat.le_of_lt hi)) (by omega))
  · rw [upd_ne (ne_of_none z hD)]
    exact s4 c o (s c o z)
  · rw [upd_same, e]
theorem lc_seqS (F : Nat → List V) (f0 : F 0 = []) (fl : ∀ i, i ≤ xs.length → (F i).length ≤ i) (hn : xs.length ≤ 1000) (hw : ∀ x, wipe ((wipe σ vs).set j (some x)) vs = wipe σ vs) (hq : SqS K H1 b xs)
    (he : ∀ (i : Nat) (x : V) (H' : Hp) (R : VK) (N : Hp → Prop), xs[i]? = some x → Same H1 H' → (∀ H4 y, Same H' H4 → F (i + 1) = F i ++ [y] → R y H4) → (∀ H3, Same H' H3 → F (i + 1) = F i → N H3) →
      tt ((wipe σ vs).set j (some x)) H' fun b H3 => if b = true then te ((wipe σ vs).set j (some x)) H3 R else N H3)
    (k : ∀ (D : Addr) (H' : Hp), Same H1 H' → H1 D = none → H' D = some (.lst (F xs.length)) → Q (.ref D) H') :
    (SqL K H1 b xs ∧ RL (gName j) tt te vs σ Q (Itl K b) H1) ∨ (SqT K H1 b xs ∧ RL (gName j) tt te vs σ Q (Itt K b) H1) := by
  rcases hq with hq | hq
  · exact .inl ⟨hq, lc_walk (Y := YAt xs) F f0 fl hn hw (walk_list.mono (fun H s => Same.seq s hq) fun i H x H' _ _ y => y) he k⟩
  · exact .inr ⟨hq, lc_walk (Y := YAt xs) F f0 fl hn hw (walk_tup.mono (fun H s => sqT_same s hq) fun i H x H' _ _ y => y) he k⟩
/-- a comprehension over what stands in slot i -/
theorem lcS_ev {i : Nat} (hv : σ[i]? = some (some (.ref b))) (F : Nat → List V) (f0 : F 0 = []) (fl : ∀ i, i ≤ xs.length → (F i).length ≤ i) (hn : xs.length ≤ 1000) (hw : ∀ x, wipe ((wipe σ vs).set j (some x)) vs = wipe σ vs) (hq : SqS K H1 b xs)
    (he : ∀ (i : Nat) (x : V) (H' : Hp) (R : VK) (N : Hp → Prop), xs[i]? = some x → Same H1 H' → (∀ H4 y, Same H' H4 → F (i + 1) = F i ++ [y] → R y H4) → (∀ H3, Same H' H3 → F (i + 1) = F i → N H3) →
      tt ((wipe σ vs).set j (some x)) H' fun b H3 => if b = true then te ((wipe σ vs).set j (some x)) H3 R else N H3)
    (k : ∀ (D : Addr) (H' : Hp), Same H1 H' → H1 D = none → H' D = some (.lst (F xs.length)) → Q (.ref D) H') :
    tLc (iSeqS K (tVar i)) (gName j) tt te vs σ H1 Q :=
  ⟨_, hv, b, xs, rfl, lc_seqS F f0 fl hn hw hq he k⟩
end
end Gk
set_option Elab.async false
set_option linter.all false
set_option maxRecDepth 100000
set_option maxHeartbeats 1000000
/-! A for in a generator's body. -/
namespace Gk
open PySem PySem.Spec PyProof.Rows L2 GenW
section
variable {prog : Program} {w : World} {A : Around} {R : GenEnd} {Y : Protocol} {n : Nat} {s₀ : Shared} {fs : List Frame} {s : Shared} {env : Env}
/-- an exception on its way out of a loop's code -/
abbrev noted (env : Env) (e : Value) : Sem PySem.Fin := (do noteFrame e env; theTreesLotGoes e : Sem Unit).wrap (fun _ => .raise e) .raise id id
theorem seg_forLoop {target : Expr} {it : Value} {body : List Stmt}
    (h : wpAny (model prog w) (A.over (.forLoop target it body [] env) fs) (pyNext it) (fun r s1 => match r with
      | none => Seg (model prog w) A R Y n s₀ (.forLoop target it body [] env) (.pure (.again (.block [] env))) fs s1
      | some v => wpAny (model prog w) (A.over (.forLoop target it body [] env) fs) (letOwnedTupleGo target it v) (fun _ s2 =>
          wpAny (model prog w) (A.over (.forLoop target it body [] env) fs) (assign target env v) (fun _ s3 =>
            Seg (model prog w) A R Y n s₀ (.forLoop target it body [] env) ((execs body env).wrap (fun f => match f with
              | .next | .cont => .pure (.again (.forLoop target it body [] env))
              | .brk => .pure (.done .next)
              | .ret v => .pure (.done (.ret v))) (noted env) id id) fs s3)
            (fun x s' => Seg (model prog w) A R Y n s₀ (.forLoop target it body [] env) (noted env x) fs s') s2)
          (fun x s' => Seg (model prog w) A R Y n s₀ (.forLoop target it body [] env) (noted env x) fs s') s1)
      (fun x s' => Seg (model prog w) A R Y n s₀ (.forLoop target it body [] env) (noted env x) fs s') s) :
    Seg (model prog w) A R Y n s₀ (.forLoop target it body [] env) ((model prog w).den (.forLoop target it body [] env)) fs s := by
  show Seg _ A R Y n s₀ _ ((forTurn target it body [] env).onRaise (fun x => do noteFrame x env; theTreesLotGoes x)) fs s
  have e0 : (fun e => ((do noteFrame e env; theTreesLotGoes e : Sem Unit).bind fun _ => (.raise e : Sem PySem.Fin))) = noted env := by
    funext e
    rw [Sem.bind_eq_wrap]
  rw [Sem.onRaise_eq_wrap]
  simp only [forTurn]
  refine seg_bind_wrap (wpAny_standAt (seg_bind_wrap (wpAny_onRaise (wpAny_mono h (fun r s1 h1 => ?_) fun x s1 hx => wpAny_standAt ?_))))
  · cases r with
    | none => exact h1
    | some v =>
      refine seg_bind_wrap (wpAny_mono h1 (fun _ s2 h2 => ?_) fun x s' hx => ?_)
      · refine seg_bind_wrap (wpAny_mono h2 (fun _ s3 h3 => ?_) fun x s' hx => ?_)
        · rw [Sem.bind_eq_wrap', Sem.wrap_wrap]
          rw [Sem.wrap_congr (execs body env) _ _ (K' := fun f => match f with
              | .next | .cont => .pure (.again (.forLoop target it body [] env))
              | .brk => .pure (.done .next)
              | .ret v => .pure (.done (.ret v))) (H' := noted env) (fun f => by cases f <;> rfl) (fun e => by exact congrFun e0 e)]
          exact h3
        · exact (congrFun e0 x).symm ▸ hx
      · exact (congrFun e0 x).symm ▸ hx
  · exact (congrFun e0 x).symm ▸ hx
end
section
variable {X : Cx}
/-- for, something is handed out within -/
def tGFor (wi : TI) (g : TG) (tb : TGn) : TGn := fun D ys σ H => wi σ H fun J H1 => ∃ W : Nat → Nat → List V → L2.St → Hp → Prop, (∃ m, W 0 m ys σ H1) ∧ ∀ i m ys σ H, W i m ys σ H →
  (J.stop i H ∧ D.nx ys σ H) ∨ (J.go i H ∧ ∃ N : List V → L2.St → Hp → Prop, (∀ ys' σ' H', N ys' σ' H' → ∃ m', m' < m ∧ W (i + 1) m' ys' σ' H') ∧ ∀ x H', J.yld i H x H' → g x σ H' fun σ2 H2 => tb { D with nx := N, ct := N, bk := D.nx } ys σ2 H2)
theorem fp_other {pins pins' : List (Addr × Obj)} {H : Hp} {b : Addr} (h : FpOk X pins H b) (e : ∀ p ∈ pins', ∃ q ∈ pins, q.1 = p.1) : FpOk X pins' H b := by
  obtain ⟨f0, f1, f2, f3, f4, f5⟩ := h
  refine ⟨f0, f1, f2, f3, f4, fun p hp => ?_⟩
  rcases List.mem_append.mp hp with z | z
  · exact f5 p (List.mem_append_left _ z)
  · obtain ⟨q, hq, eq⟩ := e p z
    rw [← eq]
    exact f5 q (List.mem_append_right _ hq)
theorem gs_for {tg iter : Expr} {body : List Stmt} {wi : TI} {g : TG} {tb : TGn} {pos : Pos} (hp : PassesOwn (model X.prog X.w) X.A X.env X.xe) (hc : X.calm = true) (hi : PI X tg iter wi) (hg : PG X tg g) (hb : GSs X body tb)
    (hs : ∀ x, foldedSetIterable iter X.env x = pure x := by intro _; rfl) : GS X (.For tg iter body [] pos) (tGFor wi g tb) := by
  refine ⟨fun A S ip R n ys s₀ c fs K J gd lv s σ H D gc hn k hI ht => ?_⟩
  obtain ⟨acc, cc, r, I⟩ := hI
  rw [exec_For]
  refine seg_bind_wrap (wpAny_standAt (seg_bind_wrap ?_))
  rw [gc.over]
  refine wpAny_mono (hi.run _ s σ H _ I ht) (fun v s1 h1 => ?_) fun x s' hx => k.exc n s₀ x s' hx
  refine seg_bind_wrap (wpAny_of_eq (hs v) (seg_bind_wrap (wpAny_standAt (seg_bind_wrap (wpAny_holding ?_)))))
  rw [gc.over]
  refine wpAny_mono h1 (fun itv s2 h2 => ?_) fun x s' hx => k.exc n s₀ x s' hx
  obtain ⟨it, fp, tn, Jt, H2, e, I2, T, st2, f2, W, ⟨m0, w0⟩, turn⟩ := h2
  subst e
  refine seg_call fun p => ?_
  have gl := fun (kk : Result → Sem PySem.Fin) => gc_loop (k := kk) (c' := .forLoop tg (.ref it) body [] X.env) (l := lv []) (kp := []) (p := p) gc rfl rfl
  have glb := fun (kk : Result → Sem PySem.Fin) => gc_loop (k := kk) (c' := .block [] X.env) (l := lv []) (kp := []) (p := p) gc rfl rfl
  -- the iterator's things beside the list that is filled, whatever it holds
  have stat : ∀ {H' : Hp} (a' : Array Value) (c' : Nat), (∀ b ∈ fp, H' b = none) → ∀ b ∈ fp, FpOk X ((S, lstObj a' c') :: ip) H' b := fun a' c' hn b hb => by
    refine fp_other ⟨hn b hb, (f2 b hb).2⟩ fun p hp => ?_
    rcases List.mem_cons.mp hp with z | z
    · exact ⟨_, List.mem_cons_self, by rw [z]⟩
    · exact ⟨p, List.mem_cons_of_mem _ z, rfl⟩
  have nS : ∀ b ∈ fp, b ≠ S := fun b hb => fun z => (f2 b hb).2.2.2.2.2 (S, lstObj acc cc) (List.mem_append_right _ List.mem_cons_self) z.symm
  have loop : ∀ (m i n : Nat) (ys : List V) (s₀ s : Shared) (σ : L2.St) (H : Hp), n + ys.length = sizeLine → W i m ys σ H → GI X S ip ys σ H s → tn i s.heap → (∀ b ∈ fp, H b = none) →
      Seg (model X.prog X.w) A R (GY X S) n s₀ (.forLoop tg (.ref it) body [] X.env) ((model X.prog X.w).den (.forLoop tg (.ref it) body [] X.env))
        (.ret (fun r => ((match r with | .ok f => (.pure f : Sem Flow) | .error e => .raise e).onRaise (cameBack X.env)).wrap K J gd lv) none (gd false) (lv []) c p [] :: fs) s := by
    intro m
    induction m using Nat.strongRecOn with
    | ind m ih =>
      intro i n ys s₀ s3 σ3 H3 hn w3 hI3 st3 fr3
      have ee : ∀ (n : Nat) (s₀ : Shared) (x : Value) (s' : Shared), X.xe x s' → Seg (model X.prog X.w) A R (GY X S) n s₀ (.forLoop tg (.ref it) body [] X.env)
          (noted X.env x) (.ret (fun r => ((match r with | .ok f => (.pure f : Sem Flow) | .error e => .raise e).onRaise (cameBack X.env)).wrap K J gd lv) none (gd false) (lv []) c p [] :: fs) s' := fun n s₀ x s' hx => by
        refine seg_wrap ?_
        rw [(gl _).over]
        refine wpAny_bind (wpAny_mono (hp x s' hx) (fun _ s'' hcb => wpAny_theTreesLotGoes ?_) fun y s'' hcb => ?_)
        · exact seg_leaf (.error x) (seg_cameBack gc k hcb)
        · exact seg_leaf (.error y) (seg_cameBack gc k hcb)
      refine seg_forLoop ?_
      rw [(gl _).over]
      obtain ⟨acc3, cc3, r3, I3⟩ := hI3
      rcases turn i m ys σ3 H3 w3 with ⟨stop, qn⟩ | ⟨go, N, hN, step⟩
      · refine wpAny_mono (T.done X rfl rfl rfl hc i _ s3 σ3 H3 X.xe I3 (stat acc3 cc3 fr3) st3 stop) (fun r s4 hr => ?_) fun x s' hx => ee n s₀ x s' hx
        obtain ⟨hr, I4⟩ := hr
        subst hr
        refine seg_again rfl ?_
        show Seg _ _ _ _ _ _ _ (.pure (.done .next)) _ _
        exact seg_leaf (.ok .next) (k.ok n ys s₀ s4 .next hn ⟨σ3, H3, ⟨acc3, cc3, r3, I4⟩, qn⟩)
      · refine wpAny_mono (T.item X rfl rfl rfl hc i _ s3 σ3 H3 X.xe I3 (stat acc3 cc3 fr3) st3 go) (fun r s4 hr => ?_) fun x s' hx => ee n s₀ x s' hx
        obtain ⟨u, hr, h4⟩ := hr
        subst hr
        refine wpAny_mono h4 (fun _ s5 h5 => ?_) fun x s' hx => ee n s₀ x s' hx
        obtain ⟨x, H5, I5, r5, y5, st5, fr5⟩ := h5
        have I5' := I5.pinned (stat acc3 cc3 fr5) (T.obj _ _ st5)
        refine wpAny_mono (hg.run _ s5 σ3 H5 x u _ I5' r5 (step x H5 y5)) (fun _ s6 h6 => ?_) fun x s' hx => ee n s₀ x s' hx
        obtain ⟨σ6, H6, I6, q6⟩ := h6
        have again : ∀ {ys7 : List V} {s7 : Shared} {σ7 : L2.St} {H7 : Hp} (n7 : Nat) (s8 : Shared), n7 + ys7.length = sizeLine → GI X S (ip ++ pinsAt fp s5.heap) ys7 σ7 H7 s7 → N ys7 σ7 H7 → Seg (model X.prog X.w) A R (GY X S) n7 s8 (.forLoop tg (.ref it) body [] X.env) (.pure (.again (.forLoop tg (.ref it) body [] X.env)))
            (.ret (fun r => ((match r with | .ok f => (.pure f : Sem Flow) | .error e => .raise e).onRaise (cameBack X.env)).wrap K J gd lv) none (gd false) (lv []) c p [] :: fs) s7 := fun {ys7 s7 σ7 H7} n7 s8 hn7 hI7 hN7 => by
          obtain ⟨m', hm, w7⟩ := hN ys7 σ7 H7 hN7
          obtain ⟨acc7, cc7, r7, I7⟩ := hI7
          have pin7 : ∀ b ∈ fp, ∀ o, s5.heap.get? b = some o → s7.heap.get? b = some o ∧ H7 b = none := fun b hb o e => by
            have z := I7.pin (b, o) (List.mem_append_right _ (List.mem_cons_of_mem _ (List.mem_append_right _ (mem_pinsAt hb e))))
            exact ⟨z.1, z.2.1⟩
          refine seg_again rfl (ih m' hm (i + 1) n7 ys7 s8 s7 σ7 H7 hn7 w7 ⟨acc7, cc7, r7, I7.pins_of fun q hq => I7.pin q ?_⟩ (T.keep _ _ _ st5 fun b hb o e => (pin7 b hb o e).1) fun b hb => ?_)
          · rcases List.mem_cons.mp hq with z | z
            · exact List.mem_append_right _ (by rw [z]; exact List.mem_cons_self)
            · exact List.mem_append_right _ (List.mem_cons_of_mem _ (List.mem_append_left _ z))
          · obtain ⟨o, e, _⟩ := T.obj _ _ st5 b hb
            exact (pin7 b hb o e).2
        have gc' : GC X S (ip ++ pinsAt fp s5.heap) A (.forLoop tg (.ref it) body [] X.env) (.ret (fun r => ((match r with | .ok f => (.pure f : Sem Flow) | .error e => .raise e).onRaise (cameBack X.env)).wrap K J gd lv) none (gd false) (lv []) c p [] :: fs) id :=
          ⟨gc.pn, fun q hq => (List.mem_append.mp hq).elim (fun z => gc.ip q z) fun z => nS _ (of_pinsAt z).1, gc.apart, (gl _).over, (gl _).split, (gl _).guard, rfl⟩
        have drop : ∀ {ys7 : List V} {s7 : Shared} {σ7 : L2.St} {H7 : Hp}, GI X S (ip ++ pinsAt fp s5.heap) ys7 σ7 H7 s7 → GI X S ip ys7 σ7 H7 s7 := fun {ys7 s7 σ7 H7} hI7 => by
          obtain ⟨acc7, cc7, r7, I7⟩ := hI7
          refine ⟨acc7, cc7, r7, I7.pins_of fun q hq => I7.pin q ?_⟩
          refine List.mem_append_right _ ?_
          rcases List.mem_cons.mp hq with z | z
          · rw [z]; exact List.mem_cons_self
          · exact List.mem_cons_of_mem _ (List.mem_append_left _ z)
        refine hb.run A S (ip ++ pinsAt fp s5.heap) R n ys s₀ _ _ _ _ id id s6 σ6 H6 { D with nx := N, ct := N, bk := D.nx } gc' hn ⟨fun n' ys' s₀' s7 f hn' hs => ?_, fun n' s₀' x s7 hx => ee n' s₀' x s7 hx⟩ ⟨acc3, cc3, r3, I6⟩ q6
        cases f with
        | next =>
          obtain ⟨σ7, H7, I7, n7⟩ := hs
          exact again n' s₀' hn' I7 n7
        | cont =>
          obtain ⟨σ7, H7, I7, n7⟩ := hs
          exact again n' s₀' hn' I7 n7
        | brk =>
          obtain ⟨σ7, H7, I7, q7⟩ := hs
          exact seg_leaf (.ok .next) (k.ok n' ys' s₀' s7 .next hn' ⟨σ7, H7, drop I7, q7⟩)
        | ret v =>
          obtain ⟨x7, σ7, H7, I7, r7, q7⟩ := hs
          exact seg_leaf (.ok (.ret v)) (k.ok n' ys' s₀' s7 (.ret v) hn' ⟨x7, σ7, H7, drop I7, r7, q7⟩)
  exact loop m0 0 n ys s₀ s2 σ H2 hn w0 ⟨acc, cc, r, I2⟩ st2 fun b hb => (f2 b hb).1
end
section
variable {J : It} {n : Nat} {G : Hp → Prop} {Y : Nat → Hp → V → Hp → Prop}
/-- such a for over a walk: Pv by the turn, what is out, the slots and the heap -/
theorem gfor_it (w : Walk J n G Y) {g : TG} {tb : TGn} {D : GEnds} {ys : List V} {σ : L2.St} {H : Hp} (Pv : Nat → List V → L2.St → Hp → Prop) (h0 : Pv 0 ys σ H) (hG : ∀ i ys σ H, i ≤ n → Pv i ys σ H → G H)
    (hs : ∀ i x ys σ H H', i < n → Pv i ys σ H → Y i H x H' → g x σ H' fun σ2 H2 => tb { D with nx := Pv (i + 1), ct := Pv (i + 1), bk := D.nx } ys σ2 H2) (hd : ∀ ys σ H, Pv n ys σ H → D.nx ys σ H) :
    ∃ W : Nat → Nat → List V → L2.St → Hp → Prop, (∃ m, W 0 m ys σ H) ∧ ∀ i m ys σ H, W i m ys σ H →
      (J.stop i H ∧ D.nx ys σ H) ∨ (J.go i H ∧ ∃ N : List V → L2.St → Hp → Prop, (∀ ys' σ' H', N ys' σ' H' → ∃ m', m' < m ∧ W (i + 1) m' ys' σ' H') ∧ ∀ x H', J.yld i H x H' → g x σ H' fun σ2 H2 => tb { D with nx := N, ct := N, bk := D.nx } ys σ2 H2) := by
  refine ⟨fun i m ys σ H => m = n - i ∧ i ≤ n ∧ Pv i ys σ H, ⟨n, by simp, Nat.zero_le _, h0⟩, ?_⟩
  rintro i m ys σ H ⟨rfl, hi, p⟩
  have q := hG i ys σ H hi p
  by_cases hlt : i < n
  · exact .inr ⟨w.goes i H hlt q, Pv (i + 1), fun ys' σ' H' p' => ⟨n - (i + 1), by omega, rfl, hlt, p'⟩, fun x H' y => hs i x ys σ H H' hlt p (w.yields i H x H' hlt q y)⟩
  · have e : i = n := by omega
    subst e
    exact .inl ⟨w.stops H q, hd ys σ H p⟩
end
end Gk
set_option Elab.async false
set_option linter.all false
set_option maxRecDepth 100000
set_option maxHeartbeats 1000000
/-! Errors of one field raised, caught, let out of a generator that is drained. -/
namespace Gk
open PySem PySem.Spec PyProof.Rows L2 GenW
section
variable {K : PySem.W.Frag} {S C : Addr} {nm : Str}
theorem XC.exmS (x : XC K S C nm) : PySem.W.exmOne K (.ref C) (.ref C) = some true := by
  obtain ⟨cd, e, m, _⟩ := x.cls
  unfold PySem.W.exmOne PySem.W.kitCls
  rw [x.bex, if_pos (by rfl)]
  have i : (PySem.W.clsIn K C).isSome = true := by rw [e]; rfl
  dsimp only
  rw [i, x.typ, if_pos (by simp)]
  show PySem.W.mroIn K C (.ref C) = some true
  rw [x.mro]
  simp
theorem XC.xf (x : XC K S C nm) : XfC K C := ⟨x.ga, x.gg, x.bex, x.dct⟩
theorem XC.noStop (x : XC K S C nm) : PySem.W.subIn K (.ref C) (.type "StopIteration") = some false := by
  show PySem.W.mroIn K C (.type "StopIteration") = some false
  rw [x.mro]
  have e1 : (Value.type "StopIteration" == Value.ref C) = false := beq_eq_false_iff_ne.mpr fun z => nomatch z
  have e2 : (Value.type "StopIteration" == Value.ref S) = false := beq_eq_false_iff_ne.mpr fun z => nomatch z
  simp only [XM, List.contains_cons, e1, e2, Bool.false_or]
  decide
end
/-- an error of the class at C with f = v leaves -/
def Out (C : Addr) (f : Str) (v : V) (H : Hp) (E : XK) : Prop := ∀ d, H d = none → E (.ref C) (some d) (upd H d (.xd [(f, v)]))
def tMk1 (C : Addr) (f : Str) (ta : TA) : L2.St → Hp → XK → Prop := fun σ H E => ta σ H fun vs H1 => ∃ v, vs = [v] ∧ Out C f v H1 E
section
variable {X : Cx} {S C : Addr} {nm f x : Str} {e : Expr} {p pos pos2 : Pos} {ta : TA}
theorem del_upd {H : Hp} {a : Addr} {o : HO} (h : H a = none) : del (upd H a o) a = H := by
  funext b
  by_cases z : b = a
  · rw [z, del_same, h]
  · rw [del_ne z, upd_ne z]
/-- a reading of arguments made monotone -/
def taM (ta : TA) : TA := fun σ H R => ∃ T : List V → Hp → Prop, ta σ H T ∧ ∀ vs H1, T vs H1 → R vs H1
theorem pa_mono {es : List Expr} (h : PA X es ta) : PA X es (taM ta) :=
  ⟨fun pos pins s σ H Q I ⟨T, hT, k⟩ => thn (h.run pos pins s σ H T I hT) fun us s1 ⟨vs, H1, I1, r, q⟩ => ⟨vs, H1, I1, r, k vs H1 q⟩⟩
theorem pmk1 (E : E1 X.K X.mg S C nm f) (rm : Room 2 X.A) (hg : Gl X nm) (ha : PA X [e] ta) (hdb : (nm == ("__debug__" : Str)) = false := by decide)
    (hs : starEach [e] X.env = (false, eval e X.env) :: starEach [] X.env := by rfl) : PMk X (.Call (.Name nm p) [e] [] pos) (tMk1 C f ta) := by
  obtain ⟨fI, fd, iC, tI, hb, F⟩ := E.fi
  intro pins s σ H Q I h
  refine pmk_oex (CX := CX0) (sp := spI1 X.K C f) (dvs := []) E.xc.oex iC tI (F _ _ _) rm hb .nil (fun _ _ _ _ _ _ _ z => z.elim) hg E.gm (pa_mono ha) hdb hs rfl pins s σ H Q I ?_
  refine ⟨_, h, fun vs H1 hv => ?_⟩
  obtain ⟨v, rfl, q⟩ := hv
  refine ⟨(by show 1 ≤ 1000; decide), fun a hn => ⟨a, v, rfl, upd_same, fun d hd hne => ⟨rfl, d, [(f, v)], upd_same, ?_, ?_, ?_⟩⟩⟩
  · rw [upd_ne hne, upd_same]
  · rw [upd_ne hne] at hd
    exact hd
  · rw [upd_ne hne] at hd
    have e1 : upd (del (upd (upd (upd H1 a (exo a C none)) d (exd d [(f, v)])) a (exo a C (some d))) a) d (.xd [(f, v)]) = upd H1 d (.xd [(f, v)]) := by
      funext b
      by_cases z : b = d
      · rw [z, upd_same, upd_same]
      · rw [upd_ne z, upd_ne z]
        by_cases y : b = a
        · rw [y, del_same, hn]
        · rw [del_ne y, upd_ne y, upd_ne z, upd_ne y]
    rw [e1]
    exact q d hd
/-- list(g), what leaves the generator wished for at the slots as they stand -/
theorem pe_listGS {k : Nat} {tg : L2.St → TGen} {E : L2.St → XK} (h : ∀ σ, PGen X k e (tg σ) (E σ)) (hx : ∀ σ, PassesAt (L2.CX X.prog X.w) X σ (E σ)) (hns : ∀ σ, NoStop X.K (E σ)) (rm : Room (k + 3) X.A)
    (hg : Gl X "list") (hm : X.mg "list" = none) (hs : starEach [e] X.env = (false, eval e X.env) :: starEach [] X.env := by rfl) :
    PE X (.Call (.Name "list" p) [e] [] pos) (fun σ H Q => tListG (tg σ) σ H Q) := by
  constructor
  intro pins s σ H Q I hq
  refine wpAny_Call_Name_kw (ld_blt (u := .type "list") I hg hm (by decide +kernel) ?_ (by decide) (by decide))
  refine PyProof.Rows.callWith_type1 ?_ hs rfl
  rw [hs]
  show wpAny _ _ (spliced ((false, eval e X.env) :: backTo pos (starEach [] X.env))) _ _ s
  refine Calls.spliced_cons (thn ((h σ).run pins s σ H _ I hq) fun u s1 z => Calls.spliced_nil ?_)
  obtain ⟨H1, sc, ex, I1, hex, hG⟩ := z
  have le : sc.heap.objs.size ≤ s1.heap.objs.size := by
    obtain ⟨a, g, c, _, h1, h2, _⟩ := hG
    exact Nat.le_trans h1 (Nat.le_of_lt h2)
  refine call_list_new rm I1.ok.frames hG (fun S s' acc c H' ys z0 z1 z2 zl z3 z4 z5 z6 z7 z8 => ?_) fun er s' g hc => ?_
  · exact ⟨.ref S, upd H' S (.lst ys), I1.drained (Nat.le_trans le z0) zl z1 z2 hex z3 z4 z5 z6 z7, rfl, z8 S z7⟩
  · have kin : X.K.In s'.heap := by
      obtain ⟨a, B, H', cls, d, _, fl, _, ub, _⟩ := id hc
      refine I1.ok.mod.kin.keeps fun b o eb => ?_
      have old := I1.bs b o eb
      refine fl.1 b o (ub.keep b o old.1 old.2 fun hm => ?_)
      rcases List.mem_cons.mp (I1.stkSub b hm) with z | z
      · have h1 := Heap.lt_size eb
        rw [z] at h1
        exact absurd (Nat.lt_of_lt_of_le h1 (Nat.le_trans I1.ok.bsz I1.ok.above)) (Nat.lt_irrefl _)
      · exact I1.ok.nofr eb z
    refine ⟨notStop_of (hns σ) kin hc, hx σ pins H1 sc er _ I1 ?_⟩
    obtain ⟨a, B, H', cls, d, z1, fl, z2, ub, z3, z4, z5, z6⟩ := hc
    exact ⟨a, B, H', cls, d, z1, fl, z2, ub, z3, z4, allBare_setGen z5 rfl, z6⟩
end
end Gk
set_option Elab.async false
set_option linter.all false
set_option maxRecDepth 100000
set_option maxHeartbeats 1000000
/-! Errors of two fields raised; those of a class under the one that is caught. -/
namespace Gk
open PySem PySem.Spec PyProof.Rows L2 GenW
/-- an error of the class at C with f = v, g = u leaves -/
def Out2 (C : Addr) (f g : Str) (v u : V) (H : Hp) (E : XK) : Prop := ∀ d, H d = none → E (.ref C) (some d) (upd H d (.xd [(g, u), (f, v)]))
def tMk2 (C : Addr) (f g : Str) (ta : TA) : L2.St → Hp → XK → Prop := fun σ H E => ta σ H fun vs H1 => ∃ v u, vs = [v, u] ∧ Out2 C f g v u H1 E
section
variable {X : Cx} {S C : Addr} {nm f g : Str} {e e2 : Expr} {p pos : Pos} {ta : TA}
theorem pmk2 (E : E2 X.K X.mg S C nm f g) (rm : Room 2 X.A) (hg : Gl X nm) (ha : PA X [e, e2] ta) (hdb : (nm == ("__debug__" : Str)) = false := by decide)
    (hs : starEach [e, e2] X.env = (false, eval e X.env) :: starEach [e2] X.env := by rfl) (hpl : (backTo pos (starEach [e2] X.env)).any (·.1) = false := by rfl) : PMk X (.Call (.Name nm p) [e, e2] [] pos) (tMk2 C f g ta) := by
  obtain ⟨fI, fd, iC, tI, hb, _, F⟩ := E.fi
  intro pins s σ H Q I h
  refine pmk_oex (CX := CX0) (sp := spI2 X.K C f g) (dvs := []) E.xc.oex iC tI (F _ _ _) rm hb .nil (fun _ _ _ _ _ _ _ z => z.elim) hg E.gm (pa_mono ha) hdb hs hpl pins s σ H Q I ?_
  refine ⟨_, h, fun vs H1 hv => ?_⟩
  obtain ⟨v, u, rfl, q⟩ := hv
  refine ⟨(by show 2 ≤ 1000; decide), fun a hn => ⟨a, v, u, rfl, upd_same, fun d hd hne => ⟨rfl, d, [(g, u), (f, v)], ?_, upd_same, ?_, ?_⟩⟩⟩
  · rw [upd_ne (Ne.symm hne), upd_same]
  · rw [upd_ne hne] at hd
    exact hd
  · rw [upd_ne hne] at hd
    have e1 : upd (del (upd (upd (upd (upd H1 a (exo a C none)) d (exd d [(f, v)])) a (exo a C (some d))) d (exd d [(g, u), (f, v)])) a) d (.xd [(g, u), (f, v)]) = upd H1 d (.xd [(g, u), (f, v)]) := by
      funext b
      by_cases z : b = d
      · rw [z, upd_same, upd_same]
      · rw [upd_ne z, upd_ne z]
        by_cases y : b = a
        · rw [y, del_same, hn]
        · rw [del_ne y, upd_ne z, upd_ne y, upd_ne z, upd_ne y]
    rw [e1]
    exact q d hd
end
end Gk
set_option Elab.async false
set_option linter.all false
set_option maxRecDepth 100000
set_option maxHeartbeats 1000000
/-! A def with defaults called with keywords, what it lets out wished for at the slots. -/
namespace Gk
open PySem PySem.Spec PyProof.Rows L2
section
variable {K : PySem.W.Frag} {x qual : Str} {params : Arguments} {body : List Stmt} {scope : Scope} {dvs : List V} {f : Addr} {fd : FuncData} {ps : List Str}
/-- every parameter is written, some by keywords -/
theorem kb_all (F : FunD K x qual params body scope dvs [] f fd) (n : Nat) (ks : List Str) (g : {α : Type} → List α → List α → List α) (hd : dvs ≠ [])
    (hrel : ∀ {vs : List V} {us : List Value} {zs : List V} {ws : List Value}, Vals vs us → Vals zs ws → Vals (g vs zs) (g us ws))
    (h : ∀ (T : Addr) (kV doc pm : Value) (an : Option Addr) (cdv ct : Value) (us its ws : List Value), us.length = n → its.length = dvs.length → ws.length = ks.length →
      ∃ k, bindArgs (PySem.W.fnOf x qual params body scope (.ref T) kV doc pm an cdv ct) ⟨us, ks.zip ws⟩ = seqItems? (.ref T) >>= k ∧ k (some its.toArray) = pure (ps.zip (g us ws))) :
    KBn K fd ps n ks (fun us ws => g us ws) (fun vs zs => g vs zs) := by
  obtain ⟨oc, od, dV, kV, doc, pm, an, cdv, ct, osl, rfl, lk, hcd, hD, hK⟩ := F.ex
  rcases hD with ⟨e, _⟩ | ⟨_, T, o, its, m, rfl, lT, oT, rT⟩
  · exact absurd e hd
  · refine ⟨fun s us ws X l1 l2 => BindsTo.of_looks fun M => ?_, hrel⟩
    obtain ⟨k, e1, e2⟩ := h T kV doc pm an cdv ct us its ws l1 rT.length.symm l2
    rw [e1]
    exact looks_items X lT oT (.of_pure e2)
end
def tCallNS (n m : Nat) (sp : Sp) (gV : List V → List V → List V) (E : L2.St → XK) (t tk : TA) : TE := fun σ H Q => t σ H fun vs H1 => tk σ H1 fun zs H2 => vs.length = n ∧ zs.length = m ∧ sp (gV vs zs) H2 Q (E σ)
section
variable {X : Cx} {CX : CXT} {k n : Nat} {f : Addr} {fd : FuncData} {ps ks : List Str} {sp : Sp} {E : L2.St → XK} {x : Str} {p pos : Pos} {e : Expr} {es : List Expr} {kws : List Keyword} {t tk : TA} {g : List Value → List Value → List Value} {gV : List V → List V → List V}
theorem pe_callNS (G : FnOk X.prog X.w X.K X.mg X.base CX k f fd ps sp) (rm : Room k X.A) (hg : Gl X x) (hm : X.mg x = some (.ref f)) (hk : PySem.W.keepIn X.K (.ref f) = true) (hb : KBn X.K fd ps n ks g gV) (hx : ∀ σ, PassesAt CX X σ (E σ))
    (ha : PA X (e :: es) t) (hkw : PK X kws tk) (hall : (backToKw pos (keywordEach kws X.env)).all (·.1.isSome) = true := by rfl) (hks : (backToKw pos (keywordEach kws X.env)).filterMap (·.1) = ks := by rfl)
    (hdb : (x == ("__debug__" : Str)) = false := by decide) (hs : starEach (e :: es) X.env = (false, eval e X.env) :: starEach es X.env := by rfl)
    (hpl : ((backTo pos (starEach (e :: es) X.env)).any (·.1) || (backToKw pos (keywordEach kws X.env)).any (·.1.isNone)) = false := by rfl) :
    PE X (.Call (.Name x p) (e :: es) kws pos) (tCallNS n ks.length sp gV E t tk) := by
  constructor
  intro pins s σ H Q I h
  refine wpAny_Call_Name_kw (ld_glob I hg hm ?_ hdb)
  refine PySem.W.callWith_KW (h₀ := X.base) I.ok.mod.kin hk hall (thn (ha.run pos pins s σ H _ I h) fun us s1 z => ?_) hpl hs
  obtain ⟨vs, H1, I1, r, q⟩ := z
  refine thn (hkw.run pos pins s1 σ H1 _ I1 q) fun ws s2 z => ?_
  obtain ⟨zs, H2, I2, rz, l1, l2, q2⟩ := z
  refine ⟨I2.kIn, ?_⟩
  rw [hks]
  have run := G.run X.A X.stack s2 H2 ⟨us, ks.zip ws⟩ (g us ws) (gV vs zs) Q (E σ) rm I2.env0 (hb.to s2 us ws I2.kIn (r.length.symm.trans l1) (rz.length.symm.trans l2)) (hb.rel r rz) q2
  refine wpAny_call (codeAny_mono run fun res s' hq => ?_)
  cases res with
  | error er => exact hx σ pins H2 s2 er s' I2 hq
  | ok fl => cases fl <;> first | exact I2.after hq | exact False.elim hq
end
/-- a caught error at the slots -/
theorem passB {X : Cx} {W : WX} (tk : Takes X W) (D : Value → Prop) (σ : L2.St) : PassesAt (L2.CX X.prog X.w) X σ (fun cls d H => D cls ∧ W cls d σ H) :=
  fun _ _ _ e s' I c => tk e s' (XE.of_call I (fun _ _ _ h => h.2) c)
end Gk
set_option Elab.async false
set_option linter.all false
set_option maxRecDepth 100000
set_option maxHeartbeats 1000000
/-! repr of data whose numbers have up to forty signs. -/
namespace Gk
open PySem PySem.Spec PyProof.Rows L2
structure Fine (n k : Nat) (d : PyData) : Prop where
  sh : d.showable = true
  dp : d.depth ≤ n
  lf : d.leavesShort 40 = true
  bk : d.bulk ≤ k
theorem Fine.up {n k m j : Nat} {d : PyData} (s : Fine n k d) (h1 : n ≤ m) (h2 : k ≤ j) : Fine m j d := ⟨s.sh, Nat.le_trans s.dp h1, s.lf, Nat.le_trans s.bk h2⟩
theorem Fine.fits {n k : Nat} {d : PyData} (s : Fine n k d) (hk : k ≤ 300000) : d.shown.length ≤ sizeLine := by
  have h := PyData.shown_le_bulk 40 (by decide) d s.lf
  have b := s.bk
  have h2 : (40 + 2) * d.bulk ≤ 42 * 300000 := Nat.mul_le_mul (by decide) (by omega)
  rw [sizeLine_eq]
  omega
theorem fine_all {n k : Nat} : ∀ ds : List PyData, (∀ d ∈ ds, Fine n k d) → PyData.showableAll ds = true ∧ PyData.depthAll ds ≤ n ∧ PyData.leavesShortAll 40 ds = true ∧ PyData.bulkAll ds ≤ (k + 1) * ds.length
  | [], _ => by simp [PyData.showableAll, PyData.depthAll, PyData.leavesShortAll, PyData.bulkAll]
  | d :: ds, h => by
    obtain ⟨a, b, c, e⟩ := fine_all ds fun x hx => h x (List.mem_cons_of_mem _ hx)
    have f := h d List.mem_cons_self
    refine ⟨?_, ?_, ?_, ?_⟩
    · simp only [PyData.showableAll, f.sh, a, Bool.and_self]
    · simp only [PyData.depthAll]
      have := f.dp
      omega
    · simp only [PyData.leavesShortAll, f.lf, c, Bool.and_self]
    · simp only [PyData.bulkAll, List.length_cons]
      have := f.bk
      rw [Nat.mul_add]
      omega
theorem fine_list {n k m : Nat} {ds : List PyData} (h : ∀ d ∈ ds, Fine n k d) (hm : (k + 1) * ds.length ≤ m) : Fine (n + 1) m (.list ds) := by
  obtain ⟨a, b, c, e⟩ := fine_all ds h
  refine ⟨by simp only [PyData.showable]; exact a, ?_, by simp only [PyData.leavesShort]; exact c, by simp only [PyData.bulk]; omega⟩
  simp only [PyData.depth]
  omega
theorem fine_tuple {n k m : Nat} {ds : List PyData} (h : ∀ d ∈ ds, Fine n k d) (hm : (k + 1) * ds.length ≤ m) : Fine (n + 1) m (.tuple ds) := by
  obtain ⟨a, b, c, e⟩ := fine_all ds h
  refine ⟨by simp only [PyData.showable]; exact a, ?_, by simp only [PyData.leavesShort]; exact c, by simp only [PyData.bulk]; omega⟩
  simp only [PyData.depth]
  omega
theorem fine_int {i : Int} (h : i.natAbs < 10 ^ 12) : Fine 0 0 (.int i) where
  sh := by
    have e : i.natAbs.log2 < 1920 := by
      by_cases z : i.natAbs = 0
      · rw [z]; decide
      · have := (Nat.log2_lt z (k := 64)).mpr (Nat.lt_trans h (by decide))
        omega
    simp only [PyData.showable, decide_eq_true e]
  dp := by simp only [PyData.depth]; exact Nat.le_refl 0
  lf := by
    have z := PyData.shown_int_le h
    simp only [PyData.leavesShort]
    exact decide_eq_true (by omega)
  bk := by simp only [PyData.bulk]; exact Nat.le_refl 0
theorem fine_none : Fine 0 0 .none := ⟨by decide +kernel, by decide +kernel, by decide +kernel, by decide +kernel⟩
theorem fine_bool (b : Bool) : Fine 0 0 (.bool b) := by
  cases b <;> exact ⟨by decide +kernel, by decide +kernel, by decide +kernel, by decide +kernel⟩
theorem fine_big : Fine 0 0 (.int (10 ^ 30)) := ⟨by decide +kernel, by decide +kernel, by decide +kernel, by decide +kernel⟩
/-- repr(x), x such data -/
def rRepF (K : PySem.W.Frag) : List V → Hp → VK → Prop := fun xs H Q => ∃ (x : V) (d : PyData), xs = [x] ∧ Dq K H x d ∧ Fine 8 300000 d ∧ Q (.str d.shown) H
theorem call_repF {X : Cx} (S : SysK X.K) (qa : Quiet X.A) (hu : X.A.units + 64 < cLine) : CallR X (.builtin "repr") (rRepF X.K) := by
  intro pins s σ H xs us Q I r h
  obtain ⟨x, d, rfl, hd, fi, q⟩ := h
  obtain ⟨u, rfl, ru⟩ := vals1 r
  obtain ⟨as, rd, na⟩ := Dq.reads S I d x u hd ru
  have sh := fi.sh
  have sz := fi.fits (Nat.le_refl _)
  have dp := fi.dp
  have keep : ∀ (h' : Heap) (t : Tok) (tk : Nat), (∀ b o, s.heap.get? b = some o → h'.get? b = some o) →
      EP X pins σ Q (.str d.shown t) { s with heap := h', toks := tk } :=
    fun h' t tk k => ⟨.str d.shown, H, I.kept (t' := tk) k, ⟨t, rfl⟩, q⟩
  have flat : ∀ (t : Tok) (tk : Nat), EP X pins σ Q (.str d.shown t) { s with toks := tk } :=
    fun t tk => ⟨.str d.shown, H, I.tok tk, ⟨t, rfl⟩, q⟩
  cases d with
  | none => cases rd; exact PySem.P.repr_of_none (flat _ _)
  | bool b => cases rd; exact PySem.P.repr_of_bool (flat _ _)
  | int i =>
    cases rd
    exact PySem.P.repr_of_int (of_decide_eq_true (by simpa only [PyData.showable] using sh)) (flat _ _)
  | str y => cases rd; exact PySem.P.repr_of_str (flat _ _) sz
  | list ds =>
    cases rd with
    | list a1 a2 a3 a4 => exact repr_of_reads' (.list a1 a2 a3 a4) sh (fun _ => na) qa (by omega) (fun _ _ z => z) (fun h' t tk k => keep h' t tk k) sz
  | tuple ds =>
    cases rd with
    | tuple a1 a2 a3 a4 => exact repr_of_reads' (.tuple a1 a2 a3 a4) sh (fun _ => na) qa (by omega) (fun _ _ z => z) (fun h' t tk k => keep h' t tk k) sz
  | dict kv =>
    cases rd with
    | dict a1 a2 a3 a4 a5 => exact repr_of_reads' (.dict a1 a2 a3 a4 a5) sh (fun _ => na) qa (by omega) (fun _ _ z => z) (fun h' t tk k => keep h' t tk k) sz
/-- x is b, x None or a truth value -/
abbrev rIsNB : R2 := fun x y H Q => ∃ (og : Option Bool) (b : Bool), x = (match og with | none => .non | some a => .bl a) ∧ y = .bl b ∧ Q (.bl (decide (og = some b))) H
theorem op_isNB {X : Cx} : OpR X (compareOp .Is) rIsNB := by
  intro pins s σ H x y v u Q I rx ry h
  obtain ⟨og, b, rfl, rfl, q⟩ := h
  cases (show u = Value.bool b from ry)
  cases og with
  | none =>
    cases (show v = Value.none from rx)
    exact wpAny_is_other rfl (fun z => nomatch z) ⟨.bl false, H, I, rfl, by simpa using q⟩
  | some a =>
    cases (show v = Value.bool a from rx)
    by_cases e : a = b
    · subst e
      exact wpAny_is_self rfl ⟨.bl true, H, I, rfl, by simpa using q⟩
    · exact wpAny_is_other rfl (fun z => e (Value.bool.inj z)) ⟨.bl false, H, I, rfl, by simpa [e] using q⟩
end Gk
set_option Elab.async false
set_option linter.all false
set_option maxRecDepth 100000
set_option maxHeartbeats 1000000
/-! xs[i] of a list or a tuple; the items of a datum. -/
namespace Gk
open PySem PySem.Spec PyProof.Rows L2
abbrev rIxB (K : PySem.W.Frag) : R2 := fun x y H Q => ∃ p xs i v, x = .ref p ∧ y = .int i ∧ SqS K H p xs ∧ atI xs i = some v ∧ Q v H
theorem ix_both {X : Cx} : IxR X (rIxB X.K) := fun value slice pins s σ H x y v u Q I rx ry h hs => by
  obtain ⟨p, xs, i, z, e1, e2, hq, he, q⟩ := h
  rcases hq with hq | hq
  · exact ix_list value slice pins s σ H x y v u Q I rx ry ⟨p, xs, i, z, e1, e2, hq, he, q⟩ hs
  · exact ix_tup value slice pins s σ H x y v u Q I rx ry ⟨p, xs, i, z, e1, e2, hq, he, q⟩ hs
def itemsD : PyData → List PyData
  | .list ds => ds
  | .tuple ds => ds
  | _ => []
end Gk
set_option Elab.async false
set_option linter.all false
set_option maxRecDepth 100000
set_option maxHeartbeats 1000000
set_option autoImplicit false
/-! Dn0: values as trees over a small store of the objects that may still change; how they lie in the abstract heap. -/
namespace Dn
open PySem PySem.Spec PyProof.Rows L2 Gk
inductive D where
  | non | bl (b : Bool) | int (i : Int) | str (x : Str)
  | tup (ds : List D) | lst (ds : List D)
  | ins (C : Addr) (fs : List (Str × D))
  | dct (ks : List (Key × D))
  | glb (v : V)
  | loc (k : Nat)
inductive M where
  | lst (ds : List D)
  | dct (ks : List (Key × D))
  | ins (C : Addr) (fs : List (Str × D))
structure Z where
  C : Addr
  fs : List (Str × D)
inductive Out (α : Type) where
  | ok (x : α) (μ : List M)
  | exc (z : Z) (μ : List M)
  | bad
abbrev VS := List (Option D)
def Out.bind {α β : Type} (o : Out α) (k : α → List M → Out β) : Out β := match o with
  | .ok x μ => k x μ
  | .exc z μ => .exc z μ
  | .bad => .bad
theorem bind_ok {α β : Type} {x : α} {μ : List M} {k : α → List M → Out β} : (Out.ok x μ).bind k = k x μ := rfl
theorem bind_exc {α β : Type} {z : Z} {μ : List M} {k : α → List M → Out β} : (Out.exc z μ : Out α).bind k = .exc z μ := rfl
mutual
inductive DR (K : PySem.W.Frag) (ρ : List Addr) (F : Hp) : D → V → Prop where
  | non : DR K ρ F .non .non
  | bl (b : Bool) : DR K ρ F (.bl b) (.bl b)
  | int (i : Int) : DR K ρ F (.int i) (.int i)
  | str (x : Str) : DR K ρ F (.str x) (.str x)
  | tup {a : Addr} {xs : List V} {ds : List D} : SqT K F a xs → DRs K ρ F ds xs → DR K ρ F (.tup ds) (.ref a)
  | lst {a : Addr} {xs : List V} {ds : List D} : SqL K F a xs → DRs K ρ F ds xs → DR K ρ F (.lst ds) (.ref a)
  | ins {a C dx : Addr} {fs : List (Str × V)} {ds : List (Str × D)} : F a = some (.ins C dx fs) → DRf K ρ F ds fs → DR K ρ F (.ins C ds) (.ref a)
  | dct {a : Addr} {ks : List (Key × V)} {ds : List (Key × D)} : F a = some (.dK ks) → DRk K ρ F ds ks → DR K ρ F (.dct ds) (.ref a)
  | glb (v : V) : DR K ρ F (.glb v) v
  | loc {k : Nat} {a : Addr} : ρ[k]? = some a → DR K ρ F (.loc k) (.ref a)
inductive DRs (K : PySem.W.Frag) (ρ : List Addr) (F : Hp) : List D → List V → Prop where
  | nil : DRs K ρ F [] []
  | cons {d : D} {ds : List D} {v : V} {vs : List V} : DR K ρ F d v → DRs K ρ F ds vs → DRs K ρ F (d :: ds) (v :: vs)
inductive DRf (K : PySem.W.Frag) (ρ : List Addr) (F : Hp) : List (Str × D) → List (Str × V) → Prop where
  | nil : DRf K ρ F [] []
  | cons {x : Str} {d : D} {ds : List (Str × D)} {v : V} {vs : List (Str × V)} : DR K ρ F d v → DRf K ρ F ds vs → DRf K ρ F ((x, d) :: ds) ((x, v) :: vs)
inductive DRk (K : PySem.W.Frag) (ρ : List Addr) (F : Hp) : List (Key × D) → List (Key × V) → Prop where
  | nil : DRk K ρ F [] []
  | cons {x : Key} {d : D} {ds : List (Key × D)} {v : V} {vs : List (Key × V)} : DR K ρ F d v → DRk K ρ F ds vs → DRk K ρ F ((x, d) :: ds) ((x, v) :: vs)
end
/-- the known part grows, the store's addresses stay -/
structure Ext (ρ : List Addr) (F : Hp) (ρ' : List Addr) (F' : Hp) : Prop where
  fr : Same F F'
  pre : ∀ (k : Nat) (a : Addr), ρ[k]? = some a → ρ'[k]? = some a
theorem Ext.refl (ρ : List Addr) (F : Hp) : Ext ρ F ρ F := ⟨Same.refl F, fun _ _ h => h⟩
theorem Ext.trans {ρ ρ1 ρ2 : List Addr} {F F1 F2 : Hp} (a : Ext ρ F ρ1 F1) (b : Ext ρ1 F1 ρ2 F2) : Ext ρ F ρ2 F2 := ⟨a.fr.trans b.fr, fun k x h => b.pre k x (a.pre k x h)⟩
section
variable {K : PySem.W.Frag} {ρ ρ' : List Addr} {F F' : Hp}
mutual
theorem DR.mono (e : Ext ρ F ρ' F') : ∀ (d : D) (v : V), DR K ρ F d v → DR K ρ' F' d v
  | .non, _, h => by cases h; exact .non
  | .bl b, _, h => by cases h; exact .bl b
  | .int i, _, h => by cases h; exact .int i
  | .str x, _, h => by cases h; exact .str x
  | .glb u, _, h => by cases h; exact .glb u
  | .loc k, _, h => by
    cases h with
    | loc z => exact .loc (e.pre _ _ z)
  | .tup ds, _, h => by
    cases h with
    | tup a b => exact .tup (sqT_same e.fr a) (DRs.mono e ds _ b)
  | .lst ds, _, h => by
    cases h with
    | lst a b => exact .lst (Same.seq e.fr a) (DRs.mono e ds _ b)
  | .ins C fs, _, h => by
    cases h with
    | ins a b => exact .ins (e.fr _ _ a) (DRf.mono e fs _ b)
  | .dct ks, _, h => by
    cases h with
    | dct a b => exact .dct (e.fr _ _ a) (DRk.mono e ks _ b)
theorem DRs.mono (e : Ext ρ F ρ' F') : ∀ (ds : List D) (vs : List V), DRs K ρ F ds vs → DRs K ρ' F' ds vs
  | [], _, h => by cases h; exact .nil
  | d :: ds, _, h => by
    cases h with
    | cons a b => exact .cons (DR.mono e d _ a) (DRs.mono e ds _ b)
theorem DRf.mono (e : Ext ρ F ρ' F') : ∀ (ds : List (Str × D)) (vs : List (Str × V)), DRf K ρ F ds vs → DRf K ρ' F' ds vs
  | [], _, h => by cases h; exact .nil
  | (x, d) :: ds, _, h => by
    cases h with
    | cons a b => exact .cons (DR.mono e d _ a) (DRf.mono e ds _ b)
theorem DRk.mono (e : Ext ρ F ρ' F') : ∀ (ds : List (Key × D)) (vs : List (Key × V)), DRk K ρ F ds vs → DRk K ρ' F' ds vs
  | [], _, h => by cases h; exact .nil
  | (x, d) :: ds, _, h => by
    cases h with
    | cons a b => exact .cons (DR.mono e d _ a) (DRk.mono e ds _ b)
end
theorem DRs.length : ∀ {ds : List D} {vs : List V}, DRs K ρ F ds vs → ds.length = vs.length
  | _, _, .nil => rfl
  | _, _, .cons _ b => by rw [List.length_cons, List.length_cons, DRs.length b]
theorem DRs.get : ∀ {ds : List D} {vs : List V} {i : Nat} {d : D}, DRs K ρ F ds vs → ds[i]? = some d → ∃ v, vs[i]? = some v ∧ DR K ρ F d v
  | _, _, _, _, .nil, e => by simp at e
  | _, _, 0, _, .cons r _, e => by
    cases (Option.some.inj e)
    exact ⟨_, rfl, r⟩
  | _, _, i + 1, v, .cons _ t, e => by
    obtain ⟨d, h1, h2⟩ := DRs.get (i := i) (d := v) t (by simpa using e)
    exact ⟨d, by simpa using h1, h2⟩
theorem DRs.getV : ∀ {ds : List D} {vs : List V} {i : Nat} {v : V}, DRs K ρ F ds vs → vs[i]? = some v → ∃ d, ds[i]? = some d ∧ DR K ρ F d v
  | _, _, _, _, .nil, e => by simp at e
  | _, _, 0, _, .cons r _, e => by
    cases (Option.some.inj e)
    exact ⟨_, rfl, r⟩
  | _, _, i + 1, v, .cons _ t, e => by
    obtain ⟨d, h1, h2⟩ := DRs.getV (i := i) (v := v) t (by simpa using e)
    exact ⟨d, by simpa using h1, h2⟩
theorem DRs.append : ∀ {xs : List D} {ds : List V} {ys : List D} {es : List V}, DRs K ρ F xs ds → DRs K ρ F ys es → DRs K ρ F (xs ++ ys) (ds ++ es)
  | _, _, _, _, .nil, s => s
  | _, _, _, _, .cons r t, s => .cons r (DRs.append t s)
theorem DRs.set {v : V} {d : D} (r : DR K ρ F d v) : ∀ {ds : List D} {xs : List V} (i : Nat), DRs K ρ F ds xs → DRs K ρ F (ds.set i d) (xs.set i v)
  | _, _, _, .nil => .nil
  | _, _, 0, .cons _ t => .cons r t
  | _, _, i + 1, .cons q t => .cons q (DRs.set r i t)
theorem DRs.take : ∀ {xs : List V} {ds : List D} (n : Nat), DRs K ρ F ds xs → DRs K ρ F (ds.take n) (xs.take n)
  | _, _, 0, _ => .nil
  | _, _, _ + 1, .nil => .nil
  | _, _, n + 1, .cons r t => .cons r (DRs.take n t)
theorem DRs.drop : ∀ {xs : List V} {ds : List D} (n : Nat), DRs K ρ F ds xs → DRs K ρ F (ds.drop n) (xs.drop n)
  | _, _, 0, r => r
  | _, _, _ + 1, .nil => .nil
  | _, _, n + 1, .cons _ t => DRs.drop n t
theorem DRf.names : ∀ {ds : List (Str × D)} {vs : List (Str × V)}, DRf K ρ F ds vs → ds.map (·.1) = vs.map (·.1)
  | _, _, .nil => rfl
  | _, _, .cons _ b => by rw [List.map_cons, List.map_cons, DRf.names b]
theorem DRf.look {f : Str} : ∀ {ds : List (Str × D)} {vs : List (Str × V)} {d : D}, DRf K ρ F ds vs → ds.lookup f = some d → ∃ v, vs.lookup f = some v ∧ DR K ρ F d v
  | _, _, _, .nil, e => by simp at e
  | (x, d) :: ds, (_, v) :: vs, d', .cons r t, e => by
    rw [List.lookup_cons] at e
    rw [List.lookup_cons]
    cases q : f == x with
    | true =>
      rw [q] at e
      cases e
      exact ⟨v, rfl, r⟩
    | false =>
      rw [q] at e
      exact DRf.look t e
end
/-- an object of the store in the abstract heap -/
def MR (K : PySem.W.Frag) (ρ : List Addr) (F : Hp) : M → Option HO → Prop
  | .lst ds, o => ∃ xs, o = some (.lst xs) ∧ DRs K ρ F ds xs
  | .ins C fs, o => ∃ dx gs, o = some (.ins C dx gs) ∧ DRf K ρ F fs gs
  | .dct ks, o => ∃ gs, o = some (.dK gs) ∧ DRk K ρ F ks gs
theorem MR.mono {K : PySem.W.Frag} {ρ ρ' : List Addr} {F F' : Hp} (e : Ext ρ F ρ' F') {m : M} {o : Option HO} (h : MR K ρ F m o) : MR K ρ' F' m o := by
  cases m with
  | lst ds =>
    obtain ⟨xs, a, b⟩ := h
    exact ⟨xs, a, b.mono e⟩
  | ins C fs =>
    obtain ⟨dx, gs, a, b⟩ := h
    exact ⟨dx, gs, a, b.mono e⟩
  | dct ks =>
    obtain ⟨gs, a, b⟩ := h
    exact ⟨gs, a, b.mono e⟩
theorem MR.not_none {K : PySem.W.Frag} {ρ : List Addr} {F : Hp} {m : M} (h : MR K ρ F m none) : False := by
  cases m with
  | lst ds => obtain ⟨_, z, _⟩ := h; cases z
  | ins C fs => obtain ⟨_, _, z, _⟩ := h; cases z
  | dct ks => obtain ⟨_, z, _⟩ := h; cases z
/-- the known part F and the store μ at the addresses ρ, within H -/
structure RH (K : PySem.W.Frag) (ρ : List Addr) (F : Hp) (μ : List M) (H : Hp) : Prop where
  fr : Same F H
  len : ρ.length = μ.length
  nd : ρ.Nodup
  off : ∀ a ∈ ρ, F a = none
  ob : ∀ (k : Nat) (a : Addr) (m : M), ρ[k]? = some a → μ[k]? = some m → MR K ρ F m (H a)
/-- the slots -/
structure VR (K : PySem.W.Frag) (ρ : List Addr) (F : Hp) (δ : VS) (σ : L2.St) : Prop where
  len : δ.length = σ.length
  at_ : ∀ (i : Nat) (d : D), δ[i]? = some (some d) → ∃ v, σ[i]? = some (some v) ∧ DR K ρ F d v
theorem VR.mono {K : PySem.W.Frag} {ρ ρ' : List Addr} {F F' : Hp} (e : Ext ρ F ρ' F') {δ : VS} {σ : L2.St} (h : VR K ρ F δ σ) : VR K ρ' F' δ σ :=
  ⟨h.len, fun i d z => let ⟨v, a, b⟩ := h.at_ i d z; ⟨v, a, b.mono e⟩⟩
theorem VR.set {K : PySem.W.Frag} {ρ : List Addr} {F : Hp} {δ : VS} {σ : L2.St} {d : D} {v : V} (h : VR K ρ F δ σ) (i : Nat) (r : DR K ρ F d v) : VR K ρ F (δ.set i (some d)) (σ.set i (some v)) := by
  refine ⟨by rw [List.length_set, List.length_set, h.len], fun j e z => ?_⟩
  rw [List.getElem?_set] at z
  rw [List.getElem?_set]
  by_cases hj : i = j
  · rw [if_pos hj] at z ⊢
    rw [← h.len]
    split at z
    · cases z
      rw [if_pos (by assumption)]
      exact ⟨v, rfl, r⟩
    · cases z
  · rw [if_neg hj] at z ⊢
    exact h.at_ j e z
theorem VR.unset {K : PySem.W.Frag} {ρ : List Addr} {F : Hp} {δ : VS} {σ : L2.St} (h : VR K ρ F δ σ) (i : Nat) (ov : Option V) : VR K ρ F (δ.set i none) (σ.set i ov) := by
  refine ⟨by rw [List.length_set, List.length_set, h.len], fun j e z => ?_⟩
  rw [List.getElem?_set] at z
  rw [List.getElem?_set]
  by_cases hj : i = j
  · rw [if_pos hj] at z
    split at z <;> cases z
  · rw [if_neg hj] at z ⊢
    exact h.at_ j e z
/-! ### what is wanted behind a value -/
def XR (K : PySem.W.Frag) (ρ : List Addr) (F : Hp) (z : Z) (d : Addr) : Prop := ∃ gs, F d = some (.xd gs) ∧ DRf K ρ F z.fs gs
def Post {α β : Type} (R : List Addr → Hp → α → β → Prop) (K : PySem.W.Frag) (ρ : List Addr) (F : Hp) (o : Out α) (Q : β → Hp → Prop) (E : XK) : Prop := match o with
  | .ok x μ' => ∀ ρ' F' v H', Ext ρ F ρ' F' → RH K ρ' F' μ' H' → R ρ' F' x v → Q v H'
  | .exc z μ' => ∀ ρ' F' H' d, Ext ρ F ρ' F' → RH K ρ' F' μ' H' → XR K ρ' F' z d → E (.ref z.C) (some d) H'
  | .bad => False
theorem Post.ext {α β : Type} {R : List Addr → Hp → α → β → Prop} {K : PySem.W.Frag} {ρ ρ1 : List Addr} {F F1 : Hp} {o : Out α} {Q : β → Hp → Prop} {E : XK} (e : Ext ρ F ρ1 F1) (h : Post R K ρ F o Q E) : Post R K ρ1 F1 o Q E := by
  cases o with
  | ok x μ => exact fun ρ' F' v H' e' => h ρ' F' v H' (e.trans e')
  | exc z μ => exact fun ρ' F' H' d e' => h ρ' F' H' d (e.trans e')
  | bad => exact h
/-- a reading t, by the function d: Σ is what is known of the slots beside -/
def SG {α β : Type} (R : List Addr → Hp → α → β → Prop) (K : PySem.W.Frag) (E : L2.St → XK) (S : L2.St → Prop) (t : L2.St → Hp → (β → Hp → Prop) → Prop) (d : VS → List M → Out α) : Prop :=
  ∀ ρ F δ μ σ H (Q : β → Hp → Prop), RH K ρ F μ H → VR K ρ F δ σ → S σ → Post R K ρ F (d δ μ) Q (E σ) → t σ H Q
abbrev RE (K : PySem.W.Frag) : List Addr → Hp → D → V → Prop := fun ρ F d v => DR K ρ F d v
abbrev RT : List Addr → Hp → Bool → Bool → Prop := fun _ _ a b => a = b
abbrev RA (K : PySem.W.Frag) : List Addr → Hp → List D → List V → Prop := fun ρ F ds vs => DRs K ρ F ds vs
abbrev DEn := VS → List M → Out D
abbrev DTn := VS → List M → Out Bool
abbrev DAn := VS → List M → Out (List D)
theorem SG.thn {α β γ ε : Type} {R : List Addr → Hp → α → β → Prop} {R2 : List Addr → Hp → γ → ε → Prop} {K : PySem.W.Frag} {E : L2.St → XK} {S : L2.St → Prop} {t : L2.St → Hp → (β → Hp → Prop) → Prop} {d : VS → List M → Out α}
    (h : SG R K E S t d) {ρ : List Addr} {F : Hp} {δ : VS} {μ : List M} {σ : L2.St} {H : Hp} {k : α → List M → Out γ} {Q : ε → Hp → Prop} {Q' : β → Hp → Prop} (r : RH K ρ F μ H) (v : VR K ρ F δ σ) (s : S σ)
    (p : Post R2 K ρ F ((d δ μ).bind k) Q (E σ)) (c : ∀ x μ1 ρ1 F1 y H1, d δ μ = .ok x μ1 → Ext ρ F ρ1 F1 → RH K ρ1 F1 μ1 H1 → VR K ρ1 F1 δ σ → R ρ1 F1 x y → Post R2 K ρ1 F1 (k x μ1) Q (E σ) → Q' y H1) : t σ H Q' := by
  refine h ρ F δ μ σ H Q' r v s ?_
  cases e : d δ μ with
  | ok x μ1 =>
    rw [e] at p
    exact fun ρ1 F1 y H1 ex r1 q => c x μ1 ρ1 F1 y H1 e ex r1 (v.mono ex) q (Post.ext ex p)
  | exc z μ1 =>
    rw [e] at p
    exact p
  | bad =>
    rw [e] at p
    exact p.elim
end Dn
set_option Elab.async false
set_option linter.all false
set_option maxRecDepth 100000
set_option maxHeartbeats 1000000
set_option autoImplicit false
/-! Dn1: expressions by functions over trees: names, constants, operators, comparisons, tests, displays, indices, fields. -/
namespace Dn
open PySem PySem.Spec PyProof.Rows L2 Gk
/-- an operation's wish among other wishes -/
def ROr (r r' : R2) : R2 := fun x y H Q => r x y H Q ∨ r' x y H Q
theorem OpR.or {X : Cx} {f : Value → Value → Sem Value} {r r' : R2} (h : OpR X f r) (h' : OpR X f r') : OpR X f (ROr r r') := fun pins s σ H x y v u Q I rx ry q => by
  rcases q with q | q
  · exact h pins s σ H x y v u Q I rx ry q
  · exact h' pins s σ H x y v u Q I rx ry q
/-! ### data -/
def keyD : Key → PyData
  | .inl i => .int i
  | .inr x => .str x
mutual
def pyB (look : Nat → Option PyData) : D → Option PyData
  | .non => some .none
  | .bl b => some (.bool b)
  | .int i => some (.int i)
  | .str x => some (.str x)
  | .tup ds => (pyBs look ds).map .tuple
  | .lst ds => (pyBs look ds).map .list
  | .dct ks => (pyBk look ks).map .dict
  | .loc k => look k
  | _ => none
def pyBs (look : Nat → Option PyData) : List D → Option (List PyData)
  | [] => some []
  | d :: ds => (pyB look d).bind fun p => (pyBs look ds).map fun ps => p :: ps
def pyBk (look : Nat → Option PyData) : List (Key × D) → Option (List (PyData × PyData))
  | [] => some []
  | (x, d) :: ds => (pyB look d).bind fun p => (pyBk look ds).map fun ps => (keyD x, p) :: ps
end
/-- a list or dict of the store as data, n levels deep -/
def pyL (μ : List M) : Nat → Nat → Option PyData
  | 0, _ => none
  | n + 1, k => match μ[k]? with
    | some (.lst ds) => (pyBs (pyL μ n) ds).map .list
    | some (.dct ks) => (pyBk (pyL μ n) ks).map .dict
    | _ => none
/-- a value as data, things of the store among them -/
def pyS (μ : List M) (d : D) : Option PyData := pyB (pyL μ 6) d
section
variable {K : PySem.W.Frag} {ρ : List Addr} {F H : Hp} {μ : List M} {look : Nat → Option PyData}
mutual
theorem py_dp (e : Same F H) (hl : ∀ (k : Nat) (a : Addr) (p : PyData), ρ[k]? = some a → look k = some p → Dq K H (.ref a) p) : ∀ (d : D) (v : V) (p : PyData), DR K ρ F d v → pyB look d = some p → Dq K H v p
  | .non, _, _, h, q => by cases h; cases q; exact .non
  | .bl b, _, _, h, q => by cases h; cases q; exact .bl b
  | .int i, _, _, h, q => by cases h; cases q; exact .int i
  | .str x, _, _, h, q => by cases h; cases q; exact .str x
  | .tup ds, _, _, h, q => by
    cases h with
    | tup a b =>
      rw [pyB] at q
      cases z : pyBs look ds with
      | none => rw [z] at q; cases q
      | some ps =>
        rw [z] at q
        cases q
        exact .tup (sqT_same e a) (pys_dp e hl ds _ ps b z)
  | .lst ds, _, _, h, q => by
    cases h with
    | lst a b =>
      rw [pyB] at q
      cases z : pyBs look ds with
      | none => rw [z] at q; cases q
      | some ps =>
        rw [z] at q
        cases q
        exact .lst (Same.seq e a) (pys_dp e hl ds _ ps b z)
  | .dct ks, _, _, h, q => by
    cases h with
    | dct a b =>
      rw [pyB] at q
      cases z : pyBk look ks with
      | none => rw [z] at q; cases q
      | some ps =>
        rw [z] at q
        cases q
        obtain ⟨c, d⟩ := pyk_dp e hl ks _ ps b z
        exact .dct (e _ _ a) c d
  | .ins C fs, _, _, h, q => by rw [pyB] at q <;> cases q
  | .glb v, _, _, h, q => by rw [pyB] at q <;> cases q
  | .loc k, _, _, h, q => by
    cases h with
    | loc z => exact hl k _ _ z (by rw [pyB] at q; exact q)
theorem pys_dp (e : Same F H) (hl : ∀ (k : Nat) (a : Addr) (p : PyData), ρ[k]? = some a → look k = some p → Dq K H (.ref a) p) : ∀ (ds : List D) (vs : List V) (ps : List PyData), DRs K ρ F ds vs → pyBs look ds = some ps → DqAll K H vs ps
  | [], _, _, h, q => by cases h; cases q; exact .nil
  | d :: ds, _, _, h, q => by
    cases h with
    | cons a b =>
      rw [pyBs] at q
      cases z : pyB look d with
      | none => rw [z] at q; cases q
      | some p =>
        cases y : pyBs look ds with
        | none => rw [z, y] at q; cases q
        | some ps =>
          rw [z, y] at q
          cases q
          exact .cons (py_dp e hl d _ p a z) (pys_dp e hl ds _ ps b y)
theorem pyk_dp (e : Same F H) (hl : ∀ (k : Nat) (a : Addr) (p : PyData), ρ[k]? = some a → look k = some p → Dq K H (.ref a) p) : ∀ (ds : List (Key × D)) (vs : List (Key × V)) (ps : List (PyData × PyData)), DRk K ρ F ds vs → pyBk look ds = some ps → DqAll K H (vs.map fun p => kV p.1) (ps.map (·.1)) ∧ DqAll K H (vs.map (·.2)) (ps.map (·.2))
  | [], _, _, h, q => by cases h; cases q; exact ⟨.nil, .nil⟩
  | (x, d) :: ds, _, _, h, q => by
    cases h with
    | cons a b =>
      rw [pyBk] at q
      cases z : pyB look d with
      | none => rw [z] at q; cases q
      | some p =>
        cases y : pyBk look ds with
        | none => rw [z, y] at q; cases q
        | some ps =>
          rw [z, y] at q
          cases q
          obtain ⟨c1, c2⟩ := pyk_dp e hl ds _ ps b y
          refine ⟨.cons ?_ c1, .cons (py_dp e hl d _ p a z) c2⟩
          cases x with
          | inl i => exact .int i
          | inr x => exact .str x
end
theorem pyL_dp (r : RH K ρ F μ H) : ∀ (n k : Nat) (a : Addr) (p : PyData), ρ[k]? = some a → pyL μ n k = some p → Dq K H (.ref a) p
  | 0, _, _, _, _, q => by rw [pyL] at q; cases q
  | n + 1, k, a, p, z, q => by
    rw [pyL] at q
    cases y : μ[k]? with
    | none => rw [y] at q; cases q
    | some m =>
      cases m with
      | ins C fs => rw [y] at q; cases q
      | dct ks =>
        rw [y] at q
        obtain ⟨xs, e, rx⟩ := r.ob _ _ _ z y
        cases w : pyBk (pyL μ n) ks with
        | none => simp only [w] at q; cases q
        | some ps =>
          simp only [w] at q
          cases q
          obtain ⟨c, d⟩ := pyk_dp r.fr (pyL_dp r n) ks _ ps rx w
          exact .dct e c d
      | lst ds =>
        rw [y] at q
        obtain ⟨xs, e, rx⟩ := r.ob _ _ _ z y
        cases w : pyBs (pyL μ n) ds with
        | none => simp only [w] at q; cases q
        | some ps =>
          simp only [w] at q
          cases q
          exact .lst (SqL.of e) (pys_dp r.fr (pyL_dp r n) ds _ ps rx w)
theorem pyS_dp (r : RH K ρ F μ H) {d : D} {v : V} {p : PyData} (h : DR K ρ F d v) (q : pyS μ d = some p) : Dq K H v p := py_dp r.fr (pyL_dp r 6) d v p h q
/-- a list or a tuple's items -/
def seqS (μ : List M) : D → Option (List D)
  | .tup ds => some ds
  | .lst ds => some ds
  | .loc k => match μ[k]? with
    | some (.lst ds) => some ds
    | _ => none
  | _ => none
theorem seqS_sq (r : RH K ρ F μ H) {d : D} {v : V} {ds : List D} (h : DR K ρ F d v) (q : seqS μ d = some ds) : ∃ a xs, v = .ref a ∧ SqS K H a xs ∧ DRs K ρ F ds xs := by
  cases d with
  | tup es => cases h with
    | tup a b => cases q; exact ⟨_, _, rfl, .inr (sqT_same r.fr a), b⟩
  | lst es => cases h with
    | lst a b => cases q; exact ⟨_, _, rfl, .inl (Same.seq r.fr a), b⟩
  | loc k =>
    cases h with
    | loc z =>
      rw [seqS] at q
      cases y : μ[k]? with
      | none => rw [y] at q; cases q
      | some m =>
        cases m with
        | ins C fs => rw [y] at q; cases q
        | dct ks => rw [y] at q; cases q
        | lst es =>
          rw [y] at q
          cases q
          obtain ⟨xs, e, rx⟩ := r.ob _ _ _ z y
          exact ⟨_, _, rfl, .inl (SqL.of e), rx⟩
  | _ => cases q
/-- H grows by a known thing -/
theorem RH.grow {o : HO} {p : Addr} (r : RH K ρ F μ H) (hp : H p = none) : RH K ρ (upd F p o) μ (upd H p o) ∧ Ext ρ F ρ (upd F p o) := by
  have fp : F p = none := r.fr.free hp
  have ex : Ext ρ F ρ (upd F p o) := ⟨fun b u z => by rw [upd_ne (ne_of_none z fp)]; exact z, fun _ _ z => z⟩
  refine ⟨⟨fun b u z => ?_, r.len, r.nd, fun a ha => ?_, fun k a m h1 h2 => ?_⟩, ex⟩
  · by_cases e : b = p
    · subst e
      rw [upd_same] at z ⊢
      exact z
    · rw [upd_ne e] at z ⊢
      exact r.fr b u z
  · obtain ⟨k, hk⟩ := List.getElem?_of_mem ha
    have hne : a ≠ p := by
      rintro rfl
      obtain ⟨m, hm⟩ : ∃ m, μ[k]? = some m := by
        have l1 := (List.getElem?_eq_some_iff.mp hk).1
        rw [r.len] at l1
        exact ⟨_, List.getElem?_eq_getElem l1⟩
      have q := r.ob _ _ _ hk hm
      rw [hp] at q
      exact q.not_none
    rw [upd_ne hne]
    exact r.off a ha
  · have q := r.ob k a m h1 h2
    have hne : a ≠ p := by
      rintro rfl
      rw [hp] at q
      exact q.not_none
    rw [upd_ne hne]
    exact q.mono ex
/-- H grows by a thing of the store -/
theorem RH.alloc {o : HO} {m : M} {p : Addr} (r : RH K ρ F μ H) (hp : H p = none) (q : MR K ρ F m (some o)) : RH K (ρ ++ [p]) F (μ ++ [m]) (upd H p o) ∧ Ext ρ F (ρ ++ [p]) F := by
  have fp : F p = none := r.fr.free hp
  have ex : Ext ρ F (ρ ++ [p]) F := ⟨Same.refl F, fun k a z => by rw [List.getElem?_append_left (List.getElem?_eq_some_iff.mp z).1]; exact z⟩
  have np : ∀ (k : Nat) (a : Addr), ρ[k]? = some a → a ≠ p := by
    rintro k a hk rfl
    obtain ⟨m, hm⟩ : ∃ m, μ[k]? = some m := by
      have l1 := (List.getElem?_eq_some_iff.mp hk).1
      rw [r.len] at l1
      exact ⟨_, List.getElem?_eq_getElem l1⟩
    have q := r.ob _ _ _ hk hm
    rw [hp] at q
    exact q.not_none
  refine ⟨⟨fun b u z => by rw [upd_ne (ne_of_none z fp)]; exact r.fr b u z, by rw [List.length_append, List.length_append, r.len]; rfl, ?_, fun a ha => ?_, fun k a m' h1 h2 => ?_⟩, ex⟩
  · refine List.nodup_append.mpr ⟨r.nd, by simp, fun a ha b hb => ?_⟩
    obtain ⟨k, hk⟩ := List.getElem?_of_mem ha
    rw [List.mem_singleton.mp hb]
    exact np k a hk
  · rcases List.mem_append.mp ha with z | z
    · exact r.off a z
    · rw [List.mem_singleton.mp z]
      exact fp
  · by_cases hk : k < ρ.length
    · rw [List.getElem?_append_left hk] at h1
      rw [List.getElem?_append_left (by rw [← r.len]; exact hk)] at h2
      rw [upd_ne (np k a h1)]
      exact (r.ob k a m' h1 h2).mono ex
    · have e : k = ρ.length := by
        have := (List.getElem?_eq_some_iff.mp h1).1
        rw [List.length_append, List.length_singleton] at this
        omega
      subst e
      rw [List.getElem?_append_right (Nat.le_refl _), Nat.sub_self] at h1
      cases (Option.some.inj h1)
      rw [r.len, List.getElem?_append_right (Nat.le_refl _), Nat.sub_self] at h2
      cases (Option.some.inj h2)
      rw [upd_same]
      exact q.mono ex
theorem loc_new (ρ : List Addr) (p : Addr) : (ρ ++ [p])[ρ.length]? = some p := by rw [List.getElem?_append_right (Nat.le_refl _), Nat.sub_self]; rfl
/-- a thing of the store changes -/
theorem RH.put {o : HO} {m : M} {k : Nat} {a : Addr} (r : RH K ρ F μ H) (hk : ρ[k]? = some a) (q : MR K ρ F m (some o)) : RH K ρ F (μ.set k m) (upd H a o) := by
  have fa : F a = none := r.off a (List.mem_of_getElem? hk)
  refine ⟨fun b u z => by rw [upd_ne (ne_of_none z fa)]; exact r.fr b u z, by rw [List.length_set, r.len], r.nd, r.off, fun j b m' h1 h2 => ?_⟩
  by_cases e : j = k
  · subst e
    rw [hk] at h1
    cases h1
    have l1 := (List.getElem?_eq_some_iff.mp hk).1
    rw [List.getElem?_set_self (by rw [← r.len]; exact l1)] at h2
    cases h2
    rw [upd_same]
    exact q
  · rw [List.getElem?_set_ne (Ne.symm e)] at h2
    have ne : b ≠ a := by
      rintro rfl
      obtain ⟨l1, e1⟩ := List.getElem?_eq_some_iff.mp hk
      obtain ⟨l2, e2⟩ := List.getElem?_eq_some_iff.mp h1
      exact e ((List.getElem_inj r.nd).mp (e2.trans e1.symm))
    rw [upd_ne ne]
    exact r.ob j b m' h1 h2
end
/-! ### names, constants -/
section
variable {K : PySem.W.Frag} {E : L2.St → XK} {S : L2.St → Prop} {ta tb : TE} {a b : DEn}
abbrev SE (K : PySem.W.Frag) (E : L2.St → XK) (S : L2.St → Prop) (t : TE) (d : DEn) : Prop := SG (RE K) K E S t d
abbrev ST (K : PySem.W.Frag) (E : L2.St → XK) (S : L2.St → Prop) (t : TT) (d : DTn) : Prop := SG RT K E S t d
abbrev SA (K : PySem.W.Frag) (E : L2.St → XK) (S : L2.St → Prop) (t : TA) (d : DAn) : Prop := SG (RA K) K E S t d
def dVar (i : Nat) : DEn := fun δ μ => match δ[i]? with
  | some (some d) => .ok d μ
  | _ => .bad
theorem se_var {i : Nat} : SE K E S (tVar i) (dVar i) := by
  intro ρ F δ μ σ H Q r v s p
  unfold dVar at p
  cases e : δ[i]? with
  | none => rw [e] at p; exact p.elim
  | some o =>
    cases o with
    | none => rw [e] at p; exact p.elim
    | some d =>
      rw [e] at p
      obtain ⟨u, h1, h2⟩ := v.at_ i d e
      exact ⟨u, h1, p ρ F u H (.refl ρ F) r h2⟩
def dC (d : D) : DEn := fun _ μ => .ok d μ
theorem se_int {i : Int} : SE K E S (tC (.int i)) (dC (.int i)) := fun ρ F _ _ _ H _ r _ _ p => p ρ F _ H (.refl ρ F) r (.int i)
theorem se_bl {i : Bool} : SE K E S (tC (.bl i)) (dC (.bl i)) := fun ρ F _ _ _ H _ r _ _ p => p ρ F _ H (.refl ρ F) r (.bl i)
theorem se_non : SE K E S (tC .non) (dC .non) := fun ρ F _ _ _ H _ r _ _ p => p ρ F _ H (.refl ρ F) r .non
theorem se_str {i : Str} : SE K E S (tC (.str i)) (dC (.str i)) := fun ρ F _ _ _ H _ r _ _ p => p ρ F _ H (.refl ρ F) r (.str i)
/-- what lies in the module: a value that needs no heap -/
theorem se_glb {u : V} : SE K E S (tC u) (dC (.glb u)) := fun ρ F _ _ _ H _ r _ _ p => p ρ F _ H (.refl ρ F) r (.glb u)
theorem se_glbD {u : V} {d : D} (h : ∀ ρ F, DR K ρ F d u) : SE K E S (tC u) (dC d) := fun ρ F _ _ _ H _ r _ _ p => p ρ F _ H (.refl ρ F) r (h ρ F)
/-! ### two-place operations -/
abbrev FOp := D → D → List M → Out D
def dOp (f : FOp) (a b : DEn) : DEn := fun δ μ => (a δ μ).bind fun x μ1 => (b δ μ1).bind fun y μ2 => f x y μ2
def OpD (K : PySem.W.Frag) (r : R2) (f : FOp) : Prop := ∀ ρ F μ H x y v u (Q : VK) (E : XK), RH K ρ F μ H → DR K ρ F x v → DR K ρ F y u → Post (RE K) K ρ F (f x y μ) Q E → r v u H Q
theorem se_op {r : R2} {f : FOp} (o : OpD K r f) (ha : SE K E S ta a) (hb : SE K E S tb b) : SE K E S (tOp r ta tb) (dOp f a b) := by
  intro ρ F δ μ σ H Q rh v s p
  refine ha.thn rh v s p fun x μ1 ρ1 F1 y H1 _ _ r1 v1 q1 p1 => ?_
  refine hb.thn r1 v1 s p1 fun x2 μ2 ρ2 F2 y2 H2 _ e2 r2 v2 q2 p2 => ?_
  exact o ρ2 F2 μ2 H2 x x2 y y2 Q (E σ) r2 (q1.mono e2) q2 p2
theorem OpD.or {r r' : R2} {f : FOp} {g : D → D → List M → Bool} (h : ∀ ρ F μ H x y v u (Q : VK) (E : XK), g x y μ = true → RH K ρ F μ H → DR K ρ F x v → DR K ρ F y u → Post (RE K) K ρ F (f x y μ) Q E → r v u H Q)
    (h' : ∀ ρ F μ H x y v u (Q : VK) (E : XK), g x y μ = false → RH K ρ F μ H → DR K ρ F x v → DR K ρ F y u → Post (RE K) K ρ F (f x y μ) Q E → r' v u H Q) : OpD K (ROr r r') f := fun ρ F μ H x y v u Q E rh a b p => by
  cases e : g x y μ with
  | true => exact .inl (h ρ F μ H x y v u Q E e rh a b p)
  | false => exact .inr (h' ρ F μ H x y v u Q E e rh a b p)
/-- ints under a condition -/
def fI (C : Int → Int → Bool) (g : Int → Int → D) : FOp := fun x y μ => match x, y with
  | .int i, .int j => if C i j = true then .ok (g i j) μ else .bad
  | _, _ => .bad
theorem fI_ok {C : Int → Int → Bool} {g : Int → Int → D} {i j : Int} {μ : List M} (h : C i j = true) : fI C g (.int i) (.int j) μ = .ok (g i j) μ := by
  show (if C i j = true then _ else _) = _
  rw [if_pos h]
theorem fI_cases {C : Int → Int → Bool} {g : Int → Int → D} {x y : D} {μ : List M} {ρ : List Addr} {F : Hp} {Q : VK} {E : XK} (p : Post (RE K) K ρ F (fI C g x y μ) Q E) : ∃ i j, x = .int i ∧ y = .int j ∧ C i j = true := by
  cases x <;> first | exact p.elim | skip
  cases y <;> first | exact p.elim | skip
  rename_i i j
  cases e : C i j with
  | true => exact ⟨i, j, rfl, rfl, e⟩
  | false =>
    have q : fI C g (.int i) (.int j) μ = .bad := by
      show (if C i j = true then _ else _) = _
      rw [e]
      rfl
    rw [q] at p
    exact p.elim
theorem od_int {C : Int → Int → Prop} {Cb : Int → Int → Bool} {g : Int → Int → Int} (hC : ∀ i j, Cb i j = true → C i j) : OpD K (rI C fun i j => .int (g i j)) (fI Cb fun i j => .int (g i j)) := fun ρ F μ H x y v u Q E rh a b p => by
  obtain ⟨i, j, rfl, rfl, h⟩ := fI_cases p
  rw [fI_ok h] at p
  cases a
  cases b
  exact ⟨i, j, rfl, rfl, hC i j h, p ρ F _ H (.refl ρ F) rh (.int _)⟩
theorem od_int0 {g : Int → Int → Int} : OpD K (rI0 fun i j => .int (g i j)) (fI (fun _ _ => true) fun i j => .int (g i j)) := fun ρ F μ H x y v u Q E rh a b p => by
  obtain ⟨i, j, rfl, rfl, h⟩ := fI_cases p
  rw [fI_ok h] at p
  cases a
  cases b
  exact ⟨i, j, rfl, rfl, p ρ F _ H (.refl ρ F) rh (.int _)⟩
theorem od_bl0 {g : Int → Int → Bool} : OpD K (rI0 fun i j => .bl (g i j)) (fI (fun _ _ => true) fun i j => .bl (g i j)) := fun ρ F μ H x y v u Q E rh a b p => by
  obtain ⟨i, j, rfl, rfl, h⟩ := fI_cases p
  rw [fI_ok h] at p
  cases a
  cases b
  exact ⟨i, j, rfl, rfl, p ρ F _ H (.refl ρ F) rh (.bl _)⟩
/-! ### == of data -/
def okPy (d : PyData) : Bool := d.canLay0 && decide (d.depth ≤ 50)
mutual
theorem dp_of_dq {H : Hp} : ∀ (d : PyData) (v : V), d.canLay0 = true → Dq K H v d → Dp K H v d
  | .none, _, _, h => by cases h; exact .non
  | .bool b, _, _, h => by cases h; exact .bl b
  | .int i, _, _, h => by cases h; exact .int i
  | .str x, _, _, h => by cases h; exact .str x
  | .list ds, _, c, h => by
    cases h with
    | lst a b => exact .lst a (dpAll_of_dq ds _ (by rw [PyData.canLay0] at c; exact c) b)
  | .tuple ds, _, c, h => by
    cases h with
    | tup a b => exact .tup a (dpAll_of_dq ds _ (by rw [PyData.canLay0] at c; exact c) b)
  | .dict _, _, c, _ => by rw [PyData.canLay0] at c; cases c
theorem dpAll_of_dq {H : Hp} : ∀ (ds : List PyData) (vs : List V), PyData.canLayAll0 ds = true → DqAll K H vs ds → DpAll K H vs ds
  | [], _, _, h => by cases h; exact .nil
  | d :: ds, _, c, h => by
    rw [PyData.canLayAll0, Bool.and_eq_true] at c
    cases h with
    | cons a b => exact .cons (dp_of_dq d _ c.1 a) (dpAll_of_dq ds _ c.2 b)
end
def rEqP (K : PySem.W.Frag) (neg : Bool) : R2 := fun x y H Q => (∃ i j, x = .str i ∧ y = .str j ∧ Q (.bl (if neg then !(i == j) else i == j)) H) ∨
  ∃ d e, Dp K H x d ∧ Dp K H y e ∧ okPy d = true ∧ okPy e = true ∧ Q (.bl (if neg then !PyData.eqv d e else PyData.eqv d e)) H
theorem op_eqP {X : Cx} (hu : X.A.units + 64 < cLine) : OpR X (compareOp .Eq) (rEqP X.K false) := by
  intro pins s σ H x y v u Q I rx ry h
  rcases h with ⟨i, j, rfl, rfl, q⟩ | ⟨d, e, hd, he, o1, o2, q⟩
  · exact op_eq pins s σ H _ _ v u Q I rx ry ⟨rfl, by rw [dec_str]; exact q⟩
  · obtain ⟨as, r1⟩ := Dp.reads I d x v hd rx
    obtain ⟨bs, r2⟩ := Dp.reads I e y u he ry
    unfold okPy at o1 o2
    rw [Bool.and_eq_true] at o1 o2
    have d1 := of_decide_eq_true o1.2
    exact SeqAt.compareEq_reads r1 r2 o1.1 o2.1 (by omega) ⟨.bl _, H, I, rfl, q⟩
theorem op_neP {X : Cx} (hu : X.A.units + 64 < cLine) : OpR X (compareOp .NotEq) (rEqP X.K true) := by
  intro pins s σ H x y v u Q I rx ry h
  rcases h with ⟨i, j, rfl, rfl, q⟩ | ⟨d, e, hd, he, o1, o2, q⟩
  · exact op_ne pins s σ H _ _ v u Q I rx ry ⟨rfl, by rw [dec_str]; exact q⟩
  · obtain ⟨as, r1⟩ := Dp.reads I d x v hd rx
    obtain ⟨bs, r2⟩ := Dp.reads I e y u he ry
    unfold okPy at o1 o2
    rw [Bool.and_eq_true] at o1 o2
    have d1 := of_decide_eq_true o1.2
    exact SeqAt.compareNe_reads r1 r2 o1.1 o2.1 (by omega) ⟨.bl _, H, I, rfl, q⟩
def fEqD (neg : Bool) : FOp := fun x y μ => match pyS μ x, pyS μ y with
  | some d, some e => if okPy d && okPy e then .ok (.bl (if neg then !PyData.eqv d e else PyData.eqv d e)) μ else .bad
  | _, _ => .bad
def fEq (neg : Bool) : FOp := fun x y μ => match x, y with
  | .str i, .str j => .ok (.bl (if neg then !(i == j) else i == j)) μ
  | x, y => fEqD neg x y μ
theorem fEq_cases (neg : Bool) (x y : D) (μ : List M) : (∃ i j, x = .str i ∧ y = .str j) ∨ fEq neg x y μ = fEqD neg x y μ := by
  cases x <;> cases y <;> first | exact .inl ⟨_, _, rfl, rfl⟩ | exact .inr rfl
theorem od_eq {neg : Bool} : OpD K (rEqP K neg) (fEq neg) := fun ρ F μ H x y v u Q E rh a b p => by
  rcases fEq_cases neg x y μ with ⟨i, j, rfl, rfl⟩ | e
  · cases a
    cases b
    exact .inl ⟨i, j, rfl, rfl, p ρ F _ H (.refl ρ F) rh (.bl _)⟩
  rw [e] at p
  unfold fEqD at p
  cases h1 : pyS μ x with
  | none => rw [h1] at p; exact p.elim
  | some d =>
    cases h2 : pyS μ y with
    | none => rw [h1, h2] at p; exact p.elim
    | some e =>
      rw [h1, h2] at p
      dsimp only at p
      cases h3 : (okPy d && okPy e) with
      | false => rw [h3] at p; exact p.elim
      | true =>
        rw [h3, if_pos rfl] at p
        rw [Bool.and_eq_true] at h3
        have c1 := h3.1
        have c2 := h3.2
        unfold okPy at c1 c2
        rw [Bool.and_eq_true] at c1 c2
        exact .inr ⟨d, e, dp_of_dq d _ c1.1 (pyS_dp rh a h1), dp_of_dq e _ c2.1 (pyS_dp rh b h2), h3.1, h3.2, p ρ F _ H (.refl ρ F) rh (.bl _)⟩
/-! ### is None -/
def fIsN (neg : Bool) : FOp := fun x y μ => match y with
  | .non => match x with
    | .non => .ok (.bl (!neg)) μ
    | .glb _ => .bad
    | _ => .ok (.bl neg) μ
  | _ => .bad
def rIsNn (neg : Bool) : R2 := fun x y H Q => y = .non ∧ Q (.bl (if neg then !decide (x = .non) else decide (x = .non))) H
theorem op_isNn {X : Cx} : OpR X (compareOp .Is) (rIsNn false) := op_isN
theorem op_notNn {X : Cx} : OpR X (compareOp .IsNot) (rIsNn true) := op_notN
theorem od_isN {neg : Bool} : OpD K (rIsNn neg) (fIsN neg) := fun ρ F μ H x y v u Q E rh a b p => by
  cases y <;> first | exact p.elim | skip
  cases b
  refine ⟨rfl, ?_⟩
  cases x with
  | non =>
    cases a
    have q := p ρ F _ H (.refl ρ F) rh (.bl _)
    cases neg <;> exact q
  | glb w => exact p.elim
  | bl i => cases a; have q := p ρ F _ H (.refl ρ F) rh (.bl _); cases neg <;> exact q
  | int i => cases a; have q := p ρ F _ H (.refl ρ F) rh (.bl _); cases neg <;> exact q
  | str i => cases a; have q := p ρ F _ H (.refl ρ F) rh (.bl _); cases neg <;> exact q
  | tup i => cases a; have q := p ρ F _ H (.refl ρ F) rh (.bl _); cases neg <;> exact q
  | lst i => cases a; have q := p ρ F _ H (.refl ρ F) rh (.bl _); cases neg <;> exact q
  | ins C fs => cases a; have q := p ρ F _ H (.refl ρ F) rh (.bl _); cases neg <;> exact q
  | loc k => cases a; have q := p ρ F _ H (.refl ρ F) rh (.bl _); cases neg <;> exact q
  | dct k => cases a; have q := p ρ F _ H (.refl ρ F) rh (.bl _); cases neg <;> exact q
/-! ### tests -/
def dTest (a : DEn) : DTn := fun δ μ => (a δ μ).bind fun x μ1 => match x with
  | .bl b => .ok b μ1
  | _ => .bad
theorem st_test (ha : SE K E S ta a) : ST K E S (tTest ta) (dTest a) := by
  intro ρ F δ μ σ H Q rh v s p
  refine ha.thn rh v s p fun x μ1 ρ1 F1 y H1 _ _ r1 v1 q1 p1 => ?_
  cases x <;> first | exact p1.elim | skip
  cases q1
  exact ⟨_, rfl, p1 ρ1 F1 _ H1 (.refl _ _) r1 rfl⟩
variable {tt tu : TT} {c d : DTn}
def dAnd (c d : DTn) : DTn := fun δ μ => (c δ μ).bind fun x μ1 => if x = true then d δ μ1 else .ok false μ1
def dOr (c d : DTn) : DTn := fun δ μ => (c δ μ).bind fun x μ1 => if x = true then .ok true μ1 else d δ μ1
def dNot (c : DTn) : DTn := fun δ μ => (c δ μ).bind fun x μ1 => .ok (!x) μ1
theorem st_and (h1 : ST K E S tt c) (h2 : ST K E S tu d) : ST K E S (tAnd tt tu) (dAnd c d) := by
  intro ρ F δ μ σ H Q rh v s p
  refine h1.thn rh v s p fun x μ1 ρ1 F1 y H1 _ _ r1 v1 q1 p1 => ?_
  subst q1
  cases x with
  | true => exact h2 ρ1 F1 δ μ1 σ H1 Q r1 v1 s p1
  | false => exact p1 ρ1 F1 _ H1 (.refl _ _) r1 rfl
theorem st_or (h1 : ST K E S tt c) (h2 : ST K E S tu d) : ST K E S (tOr tt tu) (dOr c d) := by
  intro ρ F δ μ σ H Q rh v s p
  refine h1.thn rh v s p fun x μ1 ρ1 F1 y H1 _ _ r1 v1 q1 p1 => ?_
  subst q1
  cases x with
  | false => exact h2 ρ1 F1 δ μ1 σ H1 Q r1 v1 s p1
  | true => exact p1 ρ1 F1 _ H1 (.refl _ _) r1 rfl
theorem st_not (h1 : ST K E S tt c) : ST K E S (tNot tt) (dNot c) := by
  intro ρ F δ μ σ H Q rh v s p
  refine h1.thn rh v s p fun x μ1 ρ1 F1 y H1 _ _ r1 v1 q1 p1 => ?_
  subst q1
  exact p1 ρ1 F1 _ H1 (.refl _ _) r1 rfl
/-- a value's truth -/
def truS (μ : List M) : D → Option Bool
  | .non => some false
  | .bl b => some b
  | .int i => some (i != 0)
  | .str x => if x.length ≤ sizeLine then some ((x.length : Int) != 0) else none
  | .dct ks => some (!ks.isEmpty)
  | d => (seqS μ d).map fun ds => !ds.isEmpty
theorem truS_V {ρ : List Addr} {F H : Hp} {μ : List M} (r : RH K ρ F μ H) {d : D} {v : V} {k : Bool} (h : DR K ρ F d v) (q : truS μ d = some k) : TruV K v H k := by
  have seqs : ∀ ds : List D, seqS μ d = some ds → k = !ds.isEmpty → TruV K v H k := fun ds z e => by
    obtain ⟨a, xs, rfl, sq, dr⟩ := seqS_sq r h z
    have l := dr.length
    have e2 : ds.isEmpty = xs.isEmpty := by
      cases ds <;> cases xs <;> first | rfl | (simp at l)
    rw [e2] at e
    rcases sq with sq | sq
    · exact .inl ⟨xs, sq, e⟩
    · exact .inr (.inl ⟨xs, sq, e⟩)
  cases d with
  | non => cases h; cases q; rfl
  | bl b => cases h; cases q; rfl
  | int i => cases h; cases q; rfl
  | str x =>
    cases h
    have q2 : (if x.length ≤ sizeLine then some ((x.length : Int) != 0) else none) = some k := q
    by_cases z : x.length ≤ sizeLine
    · rw [if_pos z] at q2
      cases q2
      exact ⟨z, rfl⟩
    · rw [if_neg z] at q2
      cases q2
  | tup ds => cases q; exact seqs ds rfl rfl
  | lst ds => cases q; exact seqs ds rfl rfl
  | loc j =>
    have q2 : (seqS μ (.loc j)).map (fun ds => !ds.isEmpty) = some k := q
    cases z : seqS μ (.loc j) with
    | none => rw [z] at q2; cases q2
    | some ds =>
      rw [z] at q2
      cases q2
      exact seqs ds z rfl
  | ins C fs => cases q
  | glb w => cases q
  | dct ks =>
    cases h with
    | dct a b =>
      cases q
      refine .inr (.inr ⟨_, r.fr _ _ a, ?_⟩)
      cases b <;> rfl
def dTru (a : DEn) : DTn := fun δ μ => (a δ μ).bind fun x μ1 => match truS μ1 x with
  | some b => .ok b μ1
  | none => .bad
theorem st_tru (ha : SE K E S ta a) : ST K E S (fun σ H Q => ta σ H fun x H' => ∃ k, TruV K x H' k ∧ Q k H') (dTru a) := by
  intro ρ F δ μ σ H Q rh v s p
  refine ha.thn rh v s p fun x μ1 ρ1 F1 y H1 _ _ r1 v1 q1 p1 => ?_
  cases e : truS μ1 x with
  | none => rw [e] at p1; exact p1.elim
  | some k =>
    rw [e] at p1
    exact ⟨k, truS_V r1 q1 e, p1 ρ1 F1 _ H1 (.refl _ _) r1 rfl⟩
def dIf (c : DTn) (a b : DEn) : DEn := fun δ μ => (c δ μ).bind fun x μ1 => if x = true then a δ μ1 else b δ μ1
theorem se_if (h1 : ST K E S tt c) (ha : SE K E S ta a) (hb : SE K E S tb b) : SE K E S (tIf tt ta tb) (dIf c a b) := by
  intro ρ F δ μ σ H Q rh v s p
  refine h1.thn rh v s p fun x μ1 ρ1 F1 y H1 _ _ r1 v1 q1 p1 => ?_
  subst q1
  cases x with
  | true => exact ha ρ1 F1 δ μ1 σ H1 Q r1 v1 s p1
  | false => exact hb ρ1 F1 δ μ1 σ H1 Q r1 v1 s p1
/-! ### argument lists, displays -/
variable {tr : TA} {da : DAn}
def dNil : DAn := fun _ μ => .ok [] μ
def dCons (a : DEn) (r : DAn) : DAn := fun δ μ => (a δ μ).bind fun x μ1 => (r δ μ1).bind fun xs μ2 => .ok (x :: xs) μ2
theorem sa_nil : SA K E S tNil dNil := fun ρ F _ _ _ H _ r _ _ p => p ρ F [] H (.refl ρ F) r .nil
theorem sa_cons (ha : SE K E S ta a) (hr : SA K E S tr da) : SA K E S (tCons ta tr) (dCons a da) := by
  intro ρ F δ μ σ H Q rh v s p
  refine ha.thn rh v s p fun x μ1 ρ1 F1 y H1 _ _ r1 v1 q1 p1 => ?_
  refine hr.thn r1 v1 s p1 fun xs μ2 ρ2 F2 ys H2 _ e2 r2 v2 q2 p2 => ?_
  exact p2 ρ2 F2 _ H2 (.refl _ _) r2 (.cons (q1.mono e2) q2)
def dTup (r : DAn) : DEn := fun δ μ => (r δ μ).bind fun xs μ1 => if xs.length ≤ sizeLine then .ok (.tup xs) μ1 else .bad
def dLst (r : DAn) : DEn := fun δ μ => (r δ μ).bind fun xs μ1 => if xs.length ≤ sizeLine then .ok (.loc μ1.length) (μ1 ++ [.lst xs]) else .bad
theorem se_tup (hr : SA K E S tr da) : SE K E S (tTup tr) (dTup da) := by
  intro ρ F δ μ σ H Q rh v s p
  refine hr.thn rh v s p fun xs μ1 ρ1 F1 ys H1 _ _ r1 v1 q1 p1 => ?_
  have l := q1.length
  split at p1
  · refine ⟨by omega, fun t ht => ?_⟩
    obtain ⟨r2, e2⟩ := r1.grow (o := .tup ys) ht
    exact p1 ρ1 _ _ _ e2 r2 (.tup (SqT.of upd_same) (q1.mono e2))
  · exact p1.elim
theorem se_lst (hr : SA K E S tr da) : SE K E S (tLst tr) (dLst da) := by
  intro ρ F δ μ σ H Q rh v s p
  refine hr.thn rh v s p fun xs μ1 ρ1 F1 ys H1 _ _ r1 v1 q1 p1 => ?_
  have l := q1.length
  split at p1
  · refine ⟨by omega, fun t ht => ?_⟩
    obtain ⟨r2, e2⟩ := r1.alloc (o := .lst ys) (m := .lst xs) ht ⟨ys, rfl, q1⟩
    exact p1 _ F1 _ _ e2 r2 (.loc (by rw [← r1.len]; exact loc_new _ _))
  · exact p1.elim
/-! ### indices, fields -/
def fIx : FOp := fun x y μ => match y with
  | .int i => match seqS μ x with
    | some ds => match atI ds i with
      | some d => .ok d μ
      | none => .bad
    | none => .bad
  | _ => .bad
theorem atI_rel {ρ : List Addr} {F : Hp} {ds : List D} {xs : List V} {i : Int} {d : D} (h : DRs K ρ F ds xs) (e : atI ds i = some d) : ∃ v, atI xs i = some v ∧ DR K ρ F d v := by
  unfold atI at e ⊢
  rw [h.length] at e
  cases z : ixN xs.length i with
  | none => rw [z] at e; cases e
  | some j =>
    rw [z] at e
    exact h.get e
theorem od_ix : OpD K (rIx K) fIx := fun ρ F μ H x y v u Q E rh a b p => by
  cases y <;> first | exact p.elim | skip
  rename_i i
  cases b
  unfold fIx at p
  dsimp only at p
  cases h1 : seqS μ x with
  | none => rw [h1] at p; exact p.elim
  | some ds =>
    rw [h1] at p
    dsimp only at p
    cases h2 : atI ds i with
    | none => rw [h2] at p; exact p.elim
    | some d =>
      rw [h2] at p
      obtain ⟨t, xs, rfl, sq, dr⟩ := seqS_sq rh a h1
      obtain ⟨w, hw, rw'⟩ := atI_rel dr h2
      have q := p ρ F w H (.refl ρ F) rh rw'
      rcases sq with sq | sq
      · exact .inl ⟨t, xs, i, w, rfl, rfl, sq, hw, q⟩
      · exact .inr (.inl ⟨t, xs, i, w, rfl, rfl, sq, hw, q⟩)
/-- a class's facts for fields -/
abbrev ClsF := Addr → Str → Bool
def dFld (c : ClsF) (a : DEn) (f : Str) : DEn := fun δ μ => (a δ μ).bind fun x μ1 => match x with
  | .ins C fs => if c C f then (match fs.lookup f with
    | some d => .ok d μ1
    | none => .bad) else .bad
  | .loc k => match μ1[k]? with
    | some (.ins C fs) => if c C f then (match fs.lookup f with
      | some d => .ok d μ1
      | none => .bad) else .bad
    | _ => .bad
  | _ => .bad
theorem se_fld {c : ClsF} {f : Str} (hc : ∀ C, c C f = true → Cls K C ∧ NoAttr K C f) (ha : SE K E S ta a) : SE K E S (tFld K ta f) (dFld c a f) := by
  intro ρ F δ μ σ H Q rh v s p
  refine ha.thn rh v s p fun x μ1 ρ1 F1 y H1 _ _ r1 v1 q1 p1 => ?_
  have fin : ∀ (C : Addr) (fs : List (Str × D)) (a dx : Addr) (gs : List (Str × V)), y = .ref a → H1 a = some (.ins C dx gs) → DRf K ρ1 F1 fs gs →
      Post (RE K) K ρ1 F1 (if c C f then (match fs.lookup f with | some d => Out.ok d μ1 | none => .bad) else .bad) Q (E σ) →
      ∃ a C dx fs v, y = .ref a ∧ H1 a = some (.ins C dx fs) ∧ Cls K C ∧ NoAttr K C f ∧ fs.lookup f = some v ∧ Q v H1 := fun C fs a dx gs e h r p => by
    cases z : c C f with
    | false => rw [z] at p; exact p.elim
    | true =>
      rw [z, if_pos rfl] at p
      cases w : fs.lookup f with
      | none => rw [w] at p; exact p.elim
      | some d =>
        rw [w] at p
        obtain ⟨u, hu, ru⟩ := r.look w
        exact ⟨a, C, dx, gs, u, e, h, (hc C z).1, (hc C z).2, hu, p ρ1 F1 u H1 (.refl _ _) r1 ru⟩
  cases x with
  | ins C fs => cases q1 with
    | ins e r => exact fin C fs _ _ _ rfl (r1.fr _ _ e) r p1
  | loc k =>
    cases q1 with
    | loc z =>
      dsimp only at p1
      cases w : μ1[k]? with
      | none => rw [w] at p1; exact p1.elim
      | some m =>
        cases m with
        | lst ds => rw [w] at p1; exact p1.elim
        | dct ds => rw [w] at p1; exact p1.elim
        | ins C fs =>
          rw [w] at p1
          obtain ⟨dx, gs, e, r⟩ := r1.ob _ _ _ z w
          exact fin C fs _ dx gs rfl e r p1
  | _ => exact p1.elim
end
end Dn
set_option Elab.async false
set_option linter.all false
set_option maxRecDepth 100000
set_option maxHeartbeats 1000000
set_option autoImplicit false
/-! Dn2: statements, loops, defs and their calls. -/
namespace Dn
open PySem PySem.Spec PyProof.Rows L2 Gk
inductive SO where
  | nx (δ : VS) (μ : List M)
  | ret (x : D) (μ : List M)
  | brk (δ : VS) (μ : List M)
  | cnt (δ : VS) (μ : List M)
  | exc (z : Z) (δ : VS) (μ : List M)
  | bad
abbrev DSn := VS → List M → SO
section
variable (K : PySem.W.Frag)
def SPost (ρ : List Addr) (F : Hp) (o : SO) (T : Ends) (E : L2.St → XK) : Prop := match o with
  | .nx δ' μ' => ∀ ρ' F' σ' H', Ext ρ F ρ' F' → RH K ρ' F' μ' H' → VR K ρ' F' δ' σ' → T.nx σ' H'
  | .ret x μ' => ∀ ρ' F' v H', Ext ρ F ρ' F' → RH K ρ' F' μ' H' → DR K ρ' F' x v → T.rt v H'
  | .brk δ' μ' => ∀ ρ' F' σ' H', Ext ρ F ρ' F' → RH K ρ' F' μ' H' → VR K ρ' F' δ' σ' → T.bk σ' H'
  | .cnt δ' μ' => ∀ ρ' F' σ' H', Ext ρ F ρ' F' → RH K ρ' F' μ' H' → VR K ρ' F' δ' σ' → T.ct σ' H'
  | .exc z δ' μ' => ∀ ρ' F' σ' H' d, Ext ρ F ρ' F' → RH K ρ' F' μ' H' → VR K ρ' F' δ' σ' → XR K ρ' F' z d → E σ' (.ref z.C) (some d) H'
  | .bad => False
end
section
variable {K : PySem.W.Frag} {E : L2.St → XK} {S : L2.St → Prop} {te : TE} {a : DEn} {t u : TS} {g h : DSn}
theorem SPost.ext {ρ ρ1 : List Addr} {F F1 : Hp} {o : SO} {T : Ends} (e : Ext ρ F ρ1 F1) (p : SPost K ρ F o T E) : SPost K ρ1 F1 o T E := by
  cases o with
  | nx δ μ => exact fun ρ' F' σ' H' e' => p ρ' F' σ' H' (e.trans e')
  | ret δ μ => exact fun ρ' F' σ' H' e' => p ρ' F' σ' H' (e.trans e')
  | brk δ μ => exact fun ρ' F' σ' H' e' => p ρ' F' σ' H' (e.trans e')
  | cnt δ μ => exact fun ρ' F' σ' H' e' => p ρ' F' σ' H' (e.trans e')
  | exc z δ μ => exact fun ρ' F' σ' H' d e' => p ρ' F' σ' H' d (e.trans e')
  | bad => exact p
def SS (K : PySem.W.Frag) (E : L2.St → XK) (S : L2.St → Prop) (t : TS) (g : DSn) : Prop :=
  ∀ ρ F δ μ σ H (T : Ends), RH K ρ F μ H → VR K ρ F δ σ → S σ → SPost K ρ F (g δ μ) T E → t T σ H
abbrev SSt (K : PySem.W.Frag) (E : L2.St → XK) (t : TS) (g : DSn) : Prop := SS K E (fun _ => True) t g
/-- a value, then what is done with it -/
def Out.thenS (o : Out D) (δ : VS) (k : D → List M → SO) : SO := match o with
  | .ok x μ => k x μ
  | .exc z μ => .exc z δ μ
  | .bad => .bad
def Out.thenT (o : Out Bool) (δ : VS) (k : Bool → List M → SO) : SO := match o with
  | .ok x μ => k x μ
  | .exc z μ => .exc z δ μ
  | .bad => .bad
theorem SG.thnS {d : DEn} (h : SE K E S te d) {ρ : List Addr} {F : Hp} {δ : VS} {μ : List M} {σ : L2.St} {H : Hp} {k : D → List M → SO} {T : Ends} {Q' : V → Hp → Prop} (r : RH K ρ F μ H) (v : VR K ρ F δ σ) (s : S σ)
    (p : SPost K ρ F ((d δ μ).thenS δ k) T E) (c : ∀ x μ1 ρ1 F1 y H1, d δ μ = .ok x μ1 → Ext ρ F ρ1 F1 → RH K ρ1 F1 μ1 H1 → VR K ρ1 F1 δ σ → DR K ρ1 F1 x y → SPost K ρ1 F1 (k x μ1) T E → Q' y H1) : te σ H Q' := by
  refine h ρ F δ μ σ H Q' r v s ?_
  cases e : d δ μ with
  | ok x μ1 =>
    rw [e] at p
    exact fun ρ1 F1 y H1 ex r1 q => c x μ1 ρ1 F1 y H1 e ex r1 (v.mono ex) q (SPost.ext ex p)
  | exc z μ1 =>
    rw [e] at p
    exact fun ρ' F' H' d ex r1 x => p ρ' F' σ H' d ex r1 (v.mono ex) x
  | bad =>
    rw [e] at p
    exact p.elim
theorem SG.thnT {tt : TT} {d : DTn} (h : ST K E S tt d) {ρ : List Addr} {F : Hp} {δ : VS} {μ : List M} {σ : L2.St} {H : Hp} {k : Bool → List M → SO} {T : Ends} {Q' : Bool → Hp → Prop} (r : RH K ρ F μ H) (v : VR K ρ F δ σ) (s : S σ)
    (p : SPost K ρ F ((d δ μ).thenT δ k) T E) (c : ∀ x μ1 ρ1 F1 H1, d δ μ = .ok x μ1 → Ext ρ F ρ1 F1 → RH K ρ1 F1 μ1 H1 → VR K ρ1 F1 δ σ → SPost K ρ1 F1 (k x μ1) T E → Q' x H1) : tt σ H Q' := by
  refine h ρ F δ μ σ H Q' r v s ?_
  cases e : d δ μ with
  | ok x μ1 =>
    rw [e] at p
    intro ρ1 F1 y H1 ex r1 q
    cases q
    exact c x μ1 ρ1 F1 H1 e ex r1 (v.mono ex) (SPost.ext ex p)
  | exc z μ1 =>
    rw [e] at p
    exact fun ρ' F' H' d ex r1 x => p ρ' F' σ H' d ex r1 (v.mono ex) x
  | bad =>
    rw [e] at p
    exact p.elim
/-! ### small statements -/
def dNext : DSn := fun δ μ => .nx δ μ
theorem ss_nil : SS K E S tNext dNext := fun ρ F δ μ σ H T r v _ p => p ρ F σ H (.refl _ _) r v
def SO.thn (o : SO) (k : DSn) : SO := match o with
  | .nx δ' μ' => k δ' μ'
  | o => o
def dSeq (g h : DSn) : DSn := fun δ μ => (g δ μ).thn h
theorem ss_cons (hg : SSt K E t g) (hh : SSt K E u h) : SSt K E (tSeq t u) (dSeq g h) := by
  intro ρ F δ μ σ H T r v s p
  refine hg ρ F δ μ σ H _ r v s ?_
  unfold dSeq SO.thn at p
  cases e : g δ μ with
  | nx δ' μ' =>
    rw [e] at p
    exact fun ρ' F' σ' H' ex r' v' => hh ρ' F' δ' μ' σ' H' T r' v' trivial (SPost.ext ex p)
  | ret x μ' => rw [e] at p; exact p
  | brk δ' μ' => rw [e] at p; exact p
  | cnt δ' μ' => rw [e] at p; exact p
  | exc z δ' μ' => rw [e] at p; exact p
  | bad => rw [e] at p; exact p
def dPass : DSn := fun δ μ => .nx δ μ
def dBreak : DSn := fun δ μ => .brk δ μ
def dCont : DSn := fun δ μ => .cnt δ μ
theorem ss_break : SS K E S tBreak dBreak := fun ρ F δ μ σ H T r v _ p => p ρ F σ H (.refl _ _) r v
theorem ss_cont : SS K E S tCont dCont := fun ρ F δ μ σ H T r v _ p => p ρ F σ H (.refl _ _) r v
def dDrop (a : DEn) : DSn := fun δ μ => (a δ μ).thenS δ fun _ μ1 => .nx δ μ1
theorem ss_drop (ha : SE K E S te a) : SS K E S (tDrop te) (dDrop a) := fun ρ F δ μ σ H T r v s p =>
  ha.thnS r v s p fun x μ1 ρ1 F1 y H1 _ _ r1 v1 q1 p1 => p1 ρ1 F1 σ H1 (.refl _ _) r1 v1
def dRet (a : DEn) : DSn := fun δ μ => (a δ μ).thenS δ fun x μ1 => .ret x μ1
theorem ss_ret (ha : SE K E S te a) : SS K E S (tRet te) (dRet a) := fun ρ F δ μ σ H T r v s p =>
  ha.thnS r v s p fun x μ1 ρ1 F1 y H1 _ _ r1 v1 q1 p1 => p1 ρ1 F1 y H1 (.refl _ _) r1 q1
def dRetN : DSn := fun _ μ => .ret .non μ
theorem ss_retN : SS K E S tRetN dRetN := fun ρ F δ μ σ H T r v _ p => p ρ F _ H (.refl _ _) r .non
def dIfS (c : DTn) (g h : DSn) : DSn := fun δ μ => (c δ μ).thenT δ fun b μ1 => if b = true then g δ μ1 else h δ μ1
theorem ss_if {tt : TT} {c : DTn} (hc : ST K E S tt c) (hg : SS K E S t g) (hh : SS K E S u h) : SS K E S (tIfS tt t u) (dIfS c g h) := fun ρ F δ μ σ H T r v s p =>
  hc.thnT r v s p fun x μ1 ρ1 F1 H1 _ _ r1 v1 p1 => by
    cases x with
    | true => exact hg ρ1 F1 δ μ1 σ H1 T r1 v1 s p1
    | false => exact hh ρ1 F1 δ μ1 σ H1 T r1 v1 s p1
/-! ### targets -/
abbrev DGn := D → DSn
def GPost (K : PySem.W.Frag) (ρ : List Addr) (F : Hp) (o : SO) (Q : L2.St → Hp → Prop) : Prop := match o with
  | .nx δ' μ' => ∀ ρ' F' σ' H', Ext ρ F ρ' F' → RH K ρ' F' μ' H' → VR K ρ' F' δ' σ' → Q σ' H'
  | _ => False
def TGt (K : PySem.W.Frag) (g : TG) (d : DGn) : Prop := ∀ ρ F δ μ σ H x v (Q : L2.St → Hp → Prop), RH K ρ F μ H → VR K ρ F δ σ → DR K ρ F x v → GPost K ρ F (d x δ μ) Q → g v σ H Q
def TGts (K : PySem.W.Frag) (g : TGs) (d : List D → DSn) : Prop := ∀ ρ F δ μ σ H xs vs (Q : L2.St → Hp → Prop), RH K ρ F μ H → VR K ρ F δ σ → DRs K ρ F xs vs → GPost K ρ F (d xs δ μ) Q → g vs σ H Q
theorem GPost.ext {ρ ρ1 : List Addr} {F F1 : Hp} {o : SO} {Q : L2.St → Hp → Prop} (e : Ext ρ F ρ1 F1) (p : GPost K ρ F o Q) : GPost K ρ1 F1 o Q := by
  cases o with
  | nx δ μ => exact fun ρ' F' σ' H' e' => p ρ' F' σ' H' (e.trans e')
  | _ => exact p
def dgName (i : Nat) : DGn := fun x δ μ => .nx (δ.set i (some x)) μ
theorem tg_name {i : Nat} : TGt K (gName i) (dgName i) := fun ρ F δ μ σ H x w Q r v q p => p ρ F _ H (.refl _ _) r (v.set i q)
def dgNil : List D → DSn := fun xs δ μ => match xs with
  | [] => .nx δ μ
  | _ => .bad
def dgCons (g : DGn) (h : List D → DSn) : List D → DSn := fun xs δ μ => match xs with
  | x :: r => (match g x δ μ with
    | .nx δ1 μ1 => h r δ1 μ1
    | _ => .bad)
  | [] => .bad
theorem tgs_nil : TGts K gNil dgNil := fun ρ F δ μ σ H xs vs Q r v q p => by
  cases xs with
  | nil => cases q; exact ⟨rfl, p ρ F σ H (.refl _ _) r v⟩
  | cons x xs => exact p.elim
theorem tgs_cons {g : TG} {gs : TGs} {d : DGn} {ds : List D → DSn} (h1 : TGt K g d) (h2 : TGts K gs ds) : TGts K (gCons g gs) (dgCons d ds) := fun ρ F δ μ σ H xs vs Q r v q p => by
  cases xs with
  | nil => exact p.elim
  | cons x xs =>
    cases q with
    | cons q1 q2 =>
      refine ⟨_, _, rfl, h1 ρ F δ μ σ H x _ _ r v q1 ?_⟩
      unfold dgCons at p
      dsimp only at p
      cases e : d x δ μ with
      | nx δ1 μ1 =>
        rw [e] at p
        exact fun ρ1 F1 σ1 H1 ex r1 v1 => h2 ρ1 F1 δ1 μ1 σ1 H1 xs _ Q r1 v1 (q2.mono ex) (GPost.ext ex p)
      | _ => rw [e] at p; exact p.elim
/-- (a, b, ..) = a tuple -/
def dgTup (n : Nat) (h : List D → DSn) : DGn := fun x δ μ => match x with
  | .tup ds => if ds.length = n then h ds δ μ else .bad
  | _ => .bad
theorem tg_tup {n : Nat} {gs : TGs} {ds : List D → DSn} (h : TGts K gs ds) : TGt K (gTup K n gs) (dgTup n ds) := fun ρ F δ μ σ H x w Q r v q p => by
  cases x with
  | tup xs =>
    cases q with
    | tup sq dr =>
      unfold dgTup at p
      dsimp only at p
      split at p
      · exact ⟨_, _, rfl, sqT_same r.fr sq, by rw [← dr.length]; assumption, h ρ F δ μ σ H xs _ Q r v dr p⟩
      · exact p.elim
  | _ => exact p.elim
/-- xs[i] = .. -/
def dgSub (o i : DEn) : DGn := fun x δ μ => match o δ μ with
  | .ok (.loc k) μ1 => (match i δ μ1 with
    | .ok (.int j) μ2 => (match μ2[k]? with
      | some (.lst ds) => (match ixN ds.length j with
        | some n => .nx δ (μ2.set k (.lst (ds.set n x)))
        | none => .bad)
      | _ => .bad)
    | _ => .bad)
  | _ => .bad
theorem tg_sub {to ti : TE} {o i : DEn} (ho : SE K (fun _ _ _ _ => False) (fun _ => True) to o) (hi : SE K (fun _ _ _ _ => False) (fun _ => True) ti i) : TGt K (gSub to ti rSetL) (dgSub o i) := fun ρ F δ μ σ H x w Q r v q p => by
  unfold dgSub at p
  refine ho ρ F δ μ σ H _ r v trivial ?_
  cases e1 : o δ μ with
  | exc z μ1 => rw [e1] at p; exact p.elim
  | bad => rw [e1] at p; exact p.elim
  | ok y μ1 =>
    rw [e1] at p
    cases y <;> first | exact p.elim | skip
    rename_i k
    dsimp only at p
    intro ρ1 F1 y1 H1 ex1 r1 q1
    refine hi ρ1 F1 δ μ1 σ H1 _ r1 (v.mono ex1) trivial ?_
    cases e2 : i δ μ1 with
    | exc z μ2 => rw [e2] at p; exact p.elim
    | bad => rw [e2] at p; exact p.elim
    | ok y2 μ2 =>
      rw [e2] at p
      cases y2 <;> first | exact p.elim | skip
      rename_i j
      dsimp only at p
      intro ρ2 F2 y2 H2 ex2 r2 q2
      cases q2
      cases h3 : μ2[k]? with
      | none => rw [h3] at p; exact p.elim
      | some m =>
        cases m with
        | ins C fs => rw [h3] at p; exact p.elim
        | dct ks => rw [h3] at p; exact p.elim
        | lst ds =>
          rw [h3] at p
          dsimp only at p
          cases h4 : ixN ds.length j with
          | none => rw [h4] at p; exact p.elim
          | some n =>
            rw [h4] at p
            cases q1 with
            | loc z =>
              have z2 := ex2.pre _ _ z
              obtain ⟨xs, hx, dr⟩ := r2.ob _ _ _ z2 h3
              have qx := (q.mono ex1).mono ex2
              refine ⟨_, xs, j, n, rfl, rfl, hx, by rw [← dr.length]; exact h4, ?_⟩
              exact p ρ2 F2 σ _ (ex1.trans ex2) (r2.put z2 ⟨_, rfl, dr.set qx n⟩) ((v.mono ex1).mono ex2)
def SO.only (o : SO) : SO := match o with
  | .nx δ2 μ2 => .nx δ2 μ2
  | _ => .bad
def dAsg (a : DEn) (g : DGn) : DSn := fun δ μ => (a δ μ).thenS δ fun x μ1 => (g x δ μ1).only
theorem ss_asg {g : TG} {d : DGn} (ha : SE K E S te a) (hg : TGt K g d) : SS K E S (tAsg te g) (dAsg a d) := fun ρ F δ μ σ H T r v s p =>
  ha.thnS r v s p fun x μ1 ρ1 F1 y H1 _ _ r1 v1 q1 p1 => by
    refine hg ρ1 F1 δ μ1 σ H1 x y _ r1 v1 q1 ?_
    cases e : d x δ μ1 with
    | nx δ2 μ2 => rw [e] at p1; exact p1
    | _ => rw [e] at p1; exact p1.elim
/-! ### loops -/
/-- the items of a walk: `it` gives the i-th as it is met; `gd` says what must not change meanwhile -/
structure Its where
  ds : List D
  gd : List M → Bool
def WalkD (K : PySem.W.Frag) (ρ : List Addr) (F : Hp) (J : It) (I : Its) : Prop := ∀ ρ2 F2 μ2 H2, Ext ρ F ρ2 F2 → RH K ρ2 F2 μ2 H2 → I.gd μ2 = true →
  (∀ i d, I.ds[i]? = some d → J.go i H2 ∧ ∀ v H3, J.yld i H2 v H3 → ∃ F3, Ext ρ2 F2 ρ2 F3 ∧ RH K ρ2 F3 μ2 H3 ∧ DR K ρ2 F3 d v) ∧ J.stop I.ds.length H2
abbrev DIn := VS → List M → Out Its
abbrev RI (K : PySem.W.Frag) : List Addr → Hp → Its → It → Prop := fun ρ F I J => WalkD K ρ F J I
abbrev SI (K : PySem.W.Frag) (E : L2.St → XK) (S : L2.St → Prop) (t : TI) (d : DIn) : Prop := SG (RI K) K E S t d
theorem WalkD.ext {ρ ρ1 : List Addr} {F F1 : Hp} {J : It} {I : Its} (h : WalkD K ρ F J I) (e : Ext ρ F ρ1 F1) : WalkD K ρ1 F1 J I := fun ρ2 F2 μ2 H2 e2 => h ρ2 F2 μ2 H2 (e.trans e2)
def forGo (gd : List M → Bool) (b : DGn) (body : DSn) : List D → DSn
  | [], δ, μ => if gd μ = true then .nx δ μ else .bad
  | x :: xs, δ, μ => if gd μ = true then (match b x δ μ with
    | .nx δ1 μ1 => (match body δ1 μ1 with
      | .nx δ2 μ2 => forGo gd b body xs δ2 μ2
      | .cnt δ2 μ2 => forGo gd b body xs δ2 μ2
      | .brk δ2 μ2 => .nx δ2 μ2
      | o => o)
    | _ => .bad) else .bad
def dFor (it : DIn) (b : DGn) (body : DSn) : DSn := fun δ μ => match it δ μ with
  | .ok I μ1 => forGo I.gd b body I.ds δ μ1
  | .exc z μ1 => .exc z δ μ1
  | .bad => .bad
theorem ss_for {wi : TI} {gt : TG} {tb : TS} {it : DIn} {b : DGn} {body : DSn} (hi : SI K E (fun _ => True) wi it) (hg : TGt K gt b) (hb : SSt K E tb body) : SSt K E (tFor wi gt tb) (dFor it b body) := by
  intro ρ F δ μ σ H T r v s p
  refine hi ρ F δ μ σ H _ r v trivial ?_
  unfold dFor at p
  cases e : it δ μ with
  | bad => rw [e] at p; exact p.elim
  | exc z μ1 =>
    rw [e] at p
    exact fun ρ' F' H' d ex r1 x => p ρ' F' σ H' d ex r1 (v.mono ex) x
  | ok I μ1 =>
    rw [e] at p
    intro ρ1 F1 J H1 ex r1 w
    have v1 := v.mono ex
    have p1 : SPost K ρ1 F1 (forGo I.gd b body I.ds δ μ1) T E := SPost.ext ex p
    refine ⟨fun i m σ' H' => m = I.ds.length - i ∧ i ≤ I.ds.length ∧ ∃ ρ' F' δ' μ', Ext ρ1 F1 ρ' F' ∧ RH K ρ' F' μ' H' ∧ VR K ρ' F' δ' σ' ∧ SPost K ρ' F' (forGo I.gd b body (I.ds.drop i) δ' μ') T E,
      ⟨_, rfl, Nat.zero_le _, ρ1, F1, δ, μ1, .refl _ _, r1, v1, p1⟩, ?_⟩
    rintro i m σ' H' ⟨rfl, hil, ρ', F', δ', μ', ex', r', v', p'⟩
    have gd : I.gd μ' = true := by
      cases z : I.gd μ' with
      | true => rfl
      | false =>
        cases q : I.ds.drop i with
        | nil => rw [q, forGo, z] at p'; exact p'.elim
        | cons x xs => rw [q, forGo, z] at p'; exact p'.elim
    obtain ⟨go, stop⟩ := w ρ' F' μ' H' ex' r' gd
    by_cases hlt : i < I.ds.length
    · obtain ⟨g1, g2⟩ := go i I.ds[i] (List.getElem?_eq_getElem hlt)
      rw [List.drop_eq_getElem_cons hlt, forGo, gd, if_pos rfl] at p'
      refine .inr ⟨g1, fun σ2 H2 => ∃ ρ2 F2 δ2 μ2, Ext ρ1 F1 ρ2 F2 ∧ RH K ρ2 F2 μ2 H2 ∧ VR K ρ2 F2 δ2 σ2 ∧ SPost K ρ2 F2 (forGo I.gd b body (I.ds.drop (i + 1)) δ2 μ2) T E,
        fun σ2 H2 z => ⟨_, by omega, rfl, hlt, z⟩, fun x H3 hy => ?_⟩
      obtain ⟨F3, ex3, r3, q3⟩ := g2 x H3 hy
      refine hg ρ' F3 δ' μ' σ' H3 I.ds[i] x _ r3 (v'.mono ex3) q3 ?_
      cases e2 : b I.ds[i] δ' μ' with
      | nx δ1 μ1' =>
        rw [e2] at p'
        dsimp only at p'
        intro ρ4 F4 σ4 H4 ex4 r4 v4
        refine hb ρ4 F4 δ1 μ1' σ4 H4 _ r4 v4 trivial ?_
        have exx : Ext ρ' F' ρ4 F4 := ex3.trans ex4
        cases e3 : body δ1 μ1' with
        | nx δ2 μ2 =>
          rw [e3] at p'
          exact fun ρ5 F5 σ5 H5 ex5 r5 v5 => ⟨ρ5, F5, δ2, μ2, ex'.trans (exx.trans ex5), r5, v5, SPost.ext (exx.trans ex5) p'⟩
        | cnt δ2 μ2 =>
          rw [e3] at p'
          exact fun ρ5 F5 σ5 H5 ex5 r5 v5 => ⟨ρ5, F5, δ2, μ2, ex'.trans (exx.trans ex5), r5, v5, SPost.ext (exx.trans ex5) p'⟩
        | brk δ2 μ2 =>
          rw [e3] at p'
          exact fun ρ5 F5 σ5 H5 ex5 => p' ρ5 F5 σ5 H5 (exx.trans ex5)
        | ret x2 μ2 =>
          rw [e3] at p'
          exact fun ρ5 F5 σ5 H5 ex5 => p' ρ5 F5 σ5 H5 (exx.trans ex5)
        | exc z δ2 μ2 =>
          rw [e3] at p'
          exact fun ρ5 F5 σ5 H5 d ex5 => p' ρ5 F5 σ5 H5 d (exx.trans ex5)
        | bad => rw [e3] at p'; exact p'.elim
      | _ => rw [e2] at p'; exact p'.elim
    · have e4 : i = I.ds.length := by omega
      subst e4
      rw [List.drop_length, forGo, gd, if_pos rfl] at p'
      exact .inl ⟨stop, p' ρ' F' σ' H' (.refl _ _) r' v'⟩
end
end Dn
set_option Elab.async false
set_option linter.all false
set_option maxRecDepth 100000
set_option maxHeartbeats 1000000
set_option autoImplicit false
/-! Dn3: walks, comprehensions, while. -/
namespace Dn
open PySem PySem.Spec PyProof.Rows L2 Gk RZ
section
variable {K : PySem.W.Frag} {E : L2.St → XK} {S : L2.St → Prop}
/-! ### walks -/
/-- what must not change while x is walked -/
noncomputable def gdOf (x : D) (ds : List D) (μ : List M) : Bool := match x with
  | .loc k => @decide (μ[k]? = some (.lst ds)) (Classical.propDecidable _)
  | _ => true
theorem gdOf_loc {k : Nat} {ds : List D} {μ : List M} (h : μ[k]? = some (.lst ds)) : gdOf (.loc k) ds μ = true := by
  unfold gdOf
  exact @decide_eq_true _ (Classical.propDecidable _) h
theorem gdOf_tup {xs ds : List D} {μ : List M} : gdOf (.tup xs) ds μ = true := rfl
theorem gdOf_lst {xs ds : List D} {μ : List M} : gdOf (.lst xs) ds μ = true := rfl
def isTup : D → Bool
  | .tup _ => true
  | _ => false
/-- as it is walked: a list or a tuple at one address throughout -/
theorem seq_stays {ρ : List Addr} {F : Hp} {μ : List M} {H : Hp} {x : D} {v : V} {ds : List D} (r : RH K ρ F μ H) (q : DR K ρ F x v) (e : seqS μ x = some ds) :
    ∃ a, v = .ref a ∧ ((isTup x = true ∧ ∀ ρ2 F2 μ2 H2, Ext ρ F ρ2 F2 → RH K ρ2 F2 μ2 H2 → gdOf x ds μ2 = true → ∃ xs, SqT K H2 a xs ∧ DRs K ρ2 F2 ds xs) ∨
      (isTup x = false ∧ ∀ ρ2 F2 μ2 H2, Ext ρ F ρ2 F2 → RH K ρ2 F2 μ2 H2 → gdOf x ds μ2 = true → ∃ xs, SqL K H2 a xs ∧ DRs K ρ2 F2 ds xs)) := by
  cases x with
  | tup es => cases q with
    | tup a b => cases e; exact ⟨_, rfl, .inl ⟨rfl, fun ρ2 F2 μ2 H2 ex r2 _ => ⟨_, sqT_same r2.fr (sqT_same ex.fr a), b.mono ex⟩⟩⟩
  | lst es => cases q with
    | lst a b => cases e; exact ⟨_, rfl, .inr ⟨rfl, fun ρ2 F2 μ2 H2 ex r2 _ => ⟨_, Same.seq r2.fr (Same.seq ex.fr a), b.mono ex⟩⟩⟩
  | loc k =>
    cases q with
    | loc z =>
      refine ⟨_, rfl, .inr ⟨rfl, fun ρ2 F2 μ2 H2 ex r2 g => ?_⟩⟩
      unfold gdOf at g
      have g2 := @of_decide_eq_true _ (Classical.propDecidable _) g
      obtain ⟨xs, h1, h2⟩ := r2.ob _ _ _ (ex.pre _ _ z) g2
      exact ⟨xs, SqL.of h1, h2⟩
  | _ => cases e
theorem walk_L {ρ : List Addr} {F : Hp} {a : Addr} {I : Its} (h : ∀ ρ2 F2 μ2 H2, Ext ρ F ρ2 F2 → RH K ρ2 F2 μ2 H2 → I.gd μ2 = true → ∃ xs, SqL K H2 a xs ∧ DRs K ρ2 F2 I.ds xs) : WalkD K ρ F (Itl K a) I := fun ρ2 F2 μ2 H2 ex r g => by
  obtain ⟨xs, sq, dr⟩ := h ρ2 F2 μ2 H2 ex r g
  refine ⟨fun i d hd => ?_, ⟨xs, sq, by rw [dr.length]; exact Nat.le_refl _⟩⟩
  obtain ⟨v, hv, rv⟩ := dr.get hd
  refine ⟨⟨xs, v, sq, hv⟩, fun v' H3 y => ?_⟩
  obtain ⟨rfl, y2⟩ := y
  have e := y2 xs sq
  rw [hv] at e
  cases e
  exact ⟨F2, .refl _ _, r, rv⟩
theorem walk_T {ρ : List Addr} {F : Hp} {a : Addr} {I : Its} (h : ∀ ρ2 F2 μ2 H2, Ext ρ F ρ2 F2 → RH K ρ2 F2 μ2 H2 → I.gd μ2 = true → ∃ xs, SqT K H2 a xs ∧ DRs K ρ2 F2 I.ds xs) : WalkD K ρ F (Itt K a) I := fun ρ2 F2 μ2 H2 ex r g => by
  obtain ⟨xs, sq, dr⟩ := h ρ2 F2 μ2 H2 ex r g
  refine ⟨fun i d hd => ?_, ⟨xs, sq, by rw [dr.length]; exact Nat.le_refl _⟩⟩
  obtain ⟨v, hv, rv⟩ := dr.get hd
  refine ⟨⟨xs, v, sq, hv⟩, fun v' H3 y => ?_⟩
  obtain ⟨rfl, y2⟩ := y
  have e := y2 xs sq
  rw [hv] at e
  cases e
  exact ⟨F2, .refl _ _, r, rv⟩
noncomputable def dSeqI (a : DEn) : DIn := fun δ μ => (a δ μ).bind fun x μ1 => match seqS μ1 x with
  | some ds => .ok ⟨ds, gdOf x ds⟩ μ1
  | none => .bad
theorem gd_now {ρ : List Addr} {F H : Hp} {μ : List M} {x : D} {ds : List D} (e : seqS μ x = some ds) : gdOf x ds μ = true := by
  cases x with
  | loc k =>
    rw [seqS] at e
    cases y : μ[k]? with
    | none => rw [y] at e; cases e
    | some m =>
      cases m with
      | ins C fs => rw [y] at e; cases e
      | dct ks => rw [y] at e; cases e
      | lst es => rw [y] at e; cases e; exact gdOf_loc y
  | _ => rfl
theorem si_seq {te : TE} {a : DEn} (ha : SE K E S te a) : SI K E S (iSeqS K te) (dSeqI a) := by
  intro ρ F δ μ σ H R rh v s p
  refine ha.thn rh v s p fun x μ1 ρ1 F1 y H1 _ _ r1 v1 q1 p1 => ?_
  cases e : seqS μ1 x with
  | none => rw [e] at p1; exact p1.elim
  | some ds =>
    rw [e] at p1
    obtain ⟨t, rfl, h⟩ := seq_stays r1 q1 e
    have g := gd_now (ρ := ρ1) (F := F1) (H := H1) e
    rcases h with ⟨_, h⟩ | ⟨_, h⟩
    · obtain ⟨xs, sq, _⟩ := h ρ1 F1 μ1 H1 (.refl _ _) r1 g
      exact ⟨t, xs, rfl, .inr ⟨sq, p1 ρ1 F1 _ H1 (.refl _ _) r1 (walk_T h)⟩⟩
    · obtain ⟨xs, sq, _⟩ := h ρ1 F1 μ1 H1 (.refl _ _) r1 g
      exact ⟨t, xs, rfl, .inl ⟨sq, p1 ρ1 F1 _ H1 (.refl _ _) r1 (walk_L h)⟩⟩
/-- the items with their numbers -/
def enumD : Nat → List D → List D
  | _, [] => []
  | n, d :: ds => .tup [.int n, d] :: enumD (n + 1) ds
theorem enumD_length : ∀ (ds : List D) (n : Nat), (enumD n ds).length = ds.length
  | [], _ => rfl
  | _ :: ds, n => by rw [enumD, List.length_cons, List.length_cons, enumD_length ds]
theorem enumD_get : ∀ (ds : List D) (n i : Nat) (e : D), (enumD n ds)[i]? = some e → ∃ d, ds[i]? = some d ∧ e = .tup [.int ((n + i : Nat) : Int), d]
  | [], _, _, _, h => by simp [enumD] at h
  | d :: ds, n, 0, e, h => by
    cases (Option.some.inj (show some (D.tup [.int n, d]) = some e from h))
    exact ⟨d, rfl, rfl⟩
  | d :: ds, n, i + 1, e, h => by
    obtain ⟨d', h1, h2⟩ := enumD_get ds (n + 1) i e (by simpa [enumD] using h)
    exact ⟨d', by simpa using h1, by rw [h2, Nat.add_right_comm]; rfl⟩
theorem walk_eL {ρ : List Addr} {F : Hp} {a : Addr} {ds : List D} {gd : List M → Bool} (h : ∀ ρ2 F2 μ2 H2, Ext ρ F ρ2 F2 → RH K ρ2 F2 μ2 H2 → gd μ2 = true → ∃ xs, SqL K H2 a xs ∧ DRs K ρ2 F2 ds xs) : WalkD K ρ F (Ite K a) ⟨enumD 0 ds, gd⟩ := fun ρ2 F2 μ2 H2 ex r g => by
  obtain ⟨xs, sq, dr⟩ := h ρ2 F2 μ2 H2 ex r g
  refine ⟨fun i e he => ?_, ⟨xs, sq, by show _ ≤ (enumD 0 ds).length; rw [enumD_length, dr.length]; exact Nat.le_refl _⟩⟩
  obtain ⟨d, hd, rfl⟩ := enumD_get ds 0 i e he
  obtain ⟨v, hv, rv⟩ := dr.get hd
  refine ⟨⟨xs, v, sq, hv⟩, fun v' H3 y => ?_⟩
  obtain ⟨T, x, rfl, hT, rfl, y2⟩ := y
  have e := y2 xs sq
  rw [hv] at e
  cases e
  obtain ⟨r2, e2⟩ := r.grow (o := .tup [.int (i : Nat), v]) hT
  refine ⟨_, e2, r2, .tup (SqT.of upd_same) (.cons ?_ (.cons (rv.mono e2) .nil))⟩
  rw [Nat.zero_add]
  exact .int _
theorem walk_eT {ρ : List Addr} {F : Hp} {a : Addr} {ds : List D} {gd : List M → Bool} (h : ∀ ρ2 F2 μ2 H2, Ext ρ F ρ2 F2 → RH K ρ2 F2 μ2 H2 → gd μ2 = true → ∃ xs, SqT K H2 a xs ∧ DRs K ρ2 F2 ds xs) : WalkD K ρ F (Iet K a) ⟨enumD 0 ds, gd⟩ := fun ρ2 F2 μ2 H2 ex r g => by
  obtain ⟨xs, sq, dr⟩ := h ρ2 F2 μ2 H2 ex r g
  refine ⟨fun i e he => ?_, ⟨xs, sq, by show _ ≤ (enumD 0 ds).length; rw [enumD_length, dr.length]; exact Nat.le_refl _⟩⟩
  obtain ⟨d, hd, rfl⟩ := enumD_get ds 0 i e he
  obtain ⟨v, hv, rv⟩ := dr.get hd
  refine ⟨⟨xs, v, sq, hv⟩, fun v' H3 y => ?_⟩
  obtain ⟨T, x, rfl, hT, rfl, y2⟩ := y
  have e := y2 xs sq
  rw [hv] at e
  cases e
  obtain ⟨r2, e2⟩ := r.grow (o := .tup [.int (i : Nat), v]) hT
  refine ⟨_, e2, r2, .tup (SqT.of upd_same) (.cons ?_ (.cons (rv.mono e2) .nil))⟩
  rw [Nat.zero_add]
  exact .int _
noncomputable def dEnumI (a : DAn) : DIn := fun δ μ => (a δ μ).bind fun xs μ1 => match xs with
  | [x] => (match seqS μ1 x with
    | some ds => .ok ⟨enumD 0 ds, gdOf x ds⟩ μ1
    | none => .bad)
  | _ => .bad
theorem si_enum {ta : TA} {a : DAn} (ha : SA K E S ta a) : SI K E S (iEnumS K ta) (dEnumI a) := by
  intro ρ F δ μ σ H R rh v s p
  refine ha.thn rh v s p fun xs μ1 ρ1 F1 y H1 e0 ex0 r1 v1 q1 p1 => ?_
  cases q1 with
  | nil => exact p1.elim
  | cons q1 q2 =>
    cases q2 with
    | cons _ _ => exact p1.elim
    | nil =>
      rename_i x u
      dsimp only at p1
      cases e : seqS μ1 x with
      | none => rw [e] at p1; exact p1.elim
      | some ds =>
        rw [e] at p1
        obtain ⟨t, rfl, h⟩ := seq_stays r1 q1 e
        have g := gd_now (ρ := ρ1) (F := F1) (H := H1) e
        rcases h with ⟨_, h⟩ | ⟨_, h⟩
        · obtain ⟨xs, sq, _⟩ := h ρ1 F1 μ1 H1 (.refl _ _) r1 g
          exact ⟨t, xs, rfl, .inr ⟨sq, p1 ρ1 F1 _ H1 (.refl _ _) r1 (walk_eT h)⟩⟩
        · obtain ⟨xs, sq, _⟩ := h ρ1 F1 μ1 H1 (.refl _ _) r1 g
          exact ⟨t, xs, rfl, .inl ⟨sq, p1 ρ1 F1 _ H1 (.refl _ _) r1 (walk_eL h)⟩⟩
def rangeD (lo : Int) (n : Nat) : List D := (List.range n).map fun i => .int (lo + (i : Nat))
theorem walk_R {ρ : List Addr} {F : Hp} {lo : Int} {n : Nat} : WalkD K ρ F (Itr lo n) ⟨rangeD lo n, fun _ => true⟩ := fun ρ2 F2 μ2 H2 ex r g => by
  have l : (rangeD lo n).length = n := by simp [rangeD]
  refine ⟨fun i e he => ?_, show n ≤ (rangeD lo n).length by rw [l]; exact Nat.le_refl _⟩
  have hi : i < n := by
    have := (List.getElem?_eq_some_iff.mp he).1
    rw [l] at this
    exact this
  refine ⟨hi, fun v' H3 y => ?_⟩
  obtain ⟨rfl, rfl⟩ := y
  refine ⟨F2, .refl _ _, r, ?_⟩
  have e2 : e = .int (lo + (i : Nat)) := by
    have h2 : (rangeD lo n)[i]? = some e := he
    unfold rangeD at h2
    rw [List.getElem?_map, List.getElem?_range hi] at h2
    exact (Option.some.inj h2).symm
  rw [e2]
  exact .int _
def dRng1 (a : DAn) : DIn := fun δ μ => (a δ μ).bind fun xs μ1 => match xs with
  | [.int j] => if -(2 ^ 62) ≤ j ∧ j < 2 ^ 62 then .ok ⟨rangeD 0 j.toNat, fun _ => true⟩ μ1 else .bad
  | _ => .bad
def dRng2 (a : DAn) : DIn := fun δ μ => (a δ μ).bind fun xs μ1 => match xs with
  | [.int i, .int j] => if -(2 ^ 62) ≤ i ∧ i < 2 ^ 62 ∧ -(2 ^ 62) ≤ j ∧ j < 2 ^ 62 then .ok ⟨rangeD i (j - i).toNat, fun _ => true⟩ μ1 else .bad
  | _ => .bad
theorem si_rng1 {ta : TA} {a : DAn} (ha : SA K E S ta a) : SI K E S (iRng1 ta) (dRng1 a) := by
  intro ρ F δ μ σ H R rh v s p
  refine ha.thn rh v s p fun xs μ1 ρ1 F1 y H1 e0 ex0 r1 v1 q1 p1 => ?_
  cases q1 with
  | nil => exact p1.elim
  | cons q1 q2 =>
    cases q1 <;> first | exact p1.elim | skip
    cases q2 with
    | cons _ _ => exact p1.elim
    | nil =>
      rename_i j
      dsimp only at p1
      split at p1
      · rename_i z
        exact ⟨j, rfl, z.1, z.2, p1 ρ1 F1 _ H1 (.refl _ _) r1 walk_R⟩
      · exact p1.elim
theorem si_rng2 {ta : TA} {a : DAn} (ha : SA K E S ta a) : SI K E S (iRng2 ta) (dRng2 a) := by
  intro ρ F δ μ σ H R rh v s p
  refine ha.thn rh v s p fun xs μ1 ρ1 F1 y H1 e0 ex0 r1 v1 q1 p1 => ?_
  cases q1 with
  | nil => exact p1.elim
  | cons q1 q2 =>
    cases q1 <;> first | exact p1.elim | skip
    cases q2 with
    | nil => exact p1.elim
    | cons q2 q3 =>
      cases q2 <;> first | exact p1.elim | skip
      cases q3 with
      | cons _ _ => exact p1.elim
      | nil =>
        rename_i i j
        dsimp only at p1
        split at p1
        · rename_i z
          exact ⟨i, j, rfl, z, p1 ρ1 F1 _ H1 (.refl _ _) r1 walk_R⟩
        · exact p1.elim
/-- pairs of items -/
def zipD : List D → List D → List D
  | x :: xs, y :: ys => .tup [x, y] :: zipD xs ys
  | _, _ => []
theorem zipD_get : ∀ (xs ys : List D) (i : Nat) (e : D), (zipD xs ys)[i]? = some e → ∃ x y, xs[i]? = some x ∧ ys[i]? = some y ∧ e = .tup [x, y]
  | [], _, _, _, h => by simp [zipD] at h
  | _ :: _, [], _, _, h => by simp [zipD] at h
  | x :: xs, y :: ys, 0, e, h => by
    cases (Option.some.inj (show some (D.tup [x, y]) = some e from h))
    exact ⟨x, y, rfl, rfl, rfl⟩
  | x :: xs, y :: ys, i + 1, e, h => by
    obtain ⟨x', y', h1, h2, h3⟩ := zipD_get xs ys i e (by simpa [zipD] using h)
    exact ⟨x', y', by simpa using h1, by simpa using h2, h3⟩
theorem zipD_length : ∀ xs ys : List D, (zipD xs ys).length = min xs.length ys.length
  | [], ys => by simp [zipD]
  | _ :: _, [] => by simp [zipD]
  | x :: xs, y :: ys => by
    rw [zipD, List.length_cons, List.length_cons, List.length_cons, zipD_length xs ys]
    omega
theorem walk_zL {ρ : List Addr} {F : Hp} {a b : Addr} {ds es : List D} {gd : List M → Bool} (h : ∀ ρ2 F2 μ2 H2, Ext ρ F ρ2 F2 → RH K ρ2 F2 μ2 H2 → gd μ2 = true → ∃ xs ys, SqL K H2 a xs ∧ DRs K ρ2 F2 ds xs ∧ SqL K H2 b ys ∧ DRs K ρ2 F2 es ys) :
    WalkD K ρ F (Itz K a b) ⟨zipD ds es, gd⟩ := fun ρ2 F2 μ2 H2 ex r g => by
  obtain ⟨xs, ys, sq, dr, sq2, dr2⟩ := h ρ2 F2 μ2 H2 ex r g
  refine ⟨fun i e he => ?_, ⟨xs, ys, sq, sq2, ?_⟩⟩
  · obtain ⟨d, d2, hd, hd2, rfl⟩ := zipD_get ds es i e he
    obtain ⟨v, hv, rv⟩ := dr.get hd
    obtain ⟨w, hw, rw'⟩ := dr2.get hd2
    refine ⟨⟨xs, ys, v, w, sq, sq2, hv, hw⟩, fun v' H3 y => ?_⟩
    obtain ⟨T, x, y', rfl, hT, rfl, y2, y3⟩ := y
    have e1 := y2 xs sq
    have e2 := y3 ys sq2
    rw [hv] at e1
    rw [hw] at e2
    cases e1
    cases e2
    obtain ⟨r2, e2⟩ := r.grow (o := .tup [v, w]) hT
    exact ⟨_, e2, r2, .tup (SqT.of upd_same) (.cons (rv.mono e2) (.cons (rw'.mono e2) .nil))⟩
  · show xs.length ≤ (zipD ds es).length ∨ ys.length ≤ (zipD ds es).length
    rw [zipD_length, dr.length, dr2.length]
    omega
theorem walk_zT {ρ : List Addr} {F : Hp} {a b : Addr} {ds es : List D} {gd : List M → Bool} (h : ∀ ρ2 F2 μ2 H2, Ext ρ F ρ2 F2 → RH K ρ2 F2 μ2 H2 → gd μ2 = true → ∃ xs ys, SqT K H2 a xs ∧ DRs K ρ2 F2 ds xs ∧ SqT K H2 b ys ∧ DRs K ρ2 F2 es ys) :
    WalkD K ρ F (ItzT K a b) ⟨zipD ds es, gd⟩ := fun ρ2 F2 μ2 H2 ex r g => by
  obtain ⟨xs, ys, sq, dr, sq2, dr2⟩ := h ρ2 F2 μ2 H2 ex r g
  refine ⟨fun i e he => ?_, ⟨xs, ys, sq, sq2, ?_⟩⟩
  · obtain ⟨d, d2, hd, hd2, rfl⟩ := zipD_get ds es i e he
    obtain ⟨v, hv, rv⟩ := dr.get hd
    obtain ⟨w, hw, rw'⟩ := dr2.get hd2
    refine ⟨⟨xs, ys, v, w, sq, sq2, hv, hw⟩, fun v' H3 y => ?_⟩
    obtain ⟨T, x, y', rfl, hT, rfl, y2, y3⟩ := y
    have e1 := y2 xs sq
    have e2 := y3 ys sq2
    rw [hv] at e1
    rw [hw] at e2
    cases e1
    cases e2
    obtain ⟨r2, e2⟩ := r.grow (o := .tup [v, w]) hT
    exact ⟨_, e2, r2, .tup (SqT.of upd_same) (.cons (rv.mono e2) (.cons (rw'.mono e2) .nil))⟩
  · show xs.length ≤ (zipD ds es).length ∨ ys.length ≤ (zipD ds es).length
    rw [zipD_length, dr.length, dr2.length]
    omega
noncomputable def dZipI (a : DAn) : DIn := fun δ μ => (a δ μ).bind fun xs μ1 => match xs with
  | [x, y] => (match seqS μ1 x, seqS μ1 y with
    | some ds, some es => if isTup x = isTup y then .ok ⟨zipD ds es, fun μ => gdOf x ds μ && gdOf y es μ⟩ μ1 else .bad
    | _, _ => .bad)
  | _ => .bad
theorem si_zip {ta : TA} {a : DAn} (ha : SA K E S ta a) : SI K E S (iZipA K ta) (dZipI a) := by
  intro ρ F δ μ σ H R rh v s p
  refine ha.thn rh v s p fun xs μ1 ρ1 F1 y H1 e0 ex0 r1 v1 q1 p1 => ?_
  cases q1 with
  | nil => exact p1.elim
  | cons q1 q2 =>
    cases q2 with
    | nil => exact p1.elim
    | cons q2 q3 =>
      cases q3 with
      | cons _ _ => exact p1.elim
      | nil =>
        rename_i x u y w
        dsimp only at p1
        cases e : seqS μ1 x with
        | none => rw [e] at p1; exact p1.elim
        | some ds =>
          cases e2 : seqS μ1 y with
          | none => rw [e, e2] at p1; exact p1.elim
          | some es =>
            rw [e, e2] at p1
            dsimp only at p1
            split at p1
            · rename_i same
              obtain ⟨t, rfl, h⟩ := seq_stays r1 q1 e
              obtain ⟨t2, rfl, h2⟩ := seq_stays r1 q2 e2
              have g := gd_now (ρ := ρ1) (F := F1) (H := H1) e
              have g2 := gd_now (ρ := ρ1) (F := F1) (H := H1) e2
              rcases h with ⟨k1, h⟩ | ⟨k1, h⟩
              · rcases h2 with ⟨k2, h2⟩ | ⟨k2, h2⟩
                · obtain ⟨xs, sq, _⟩ := h ρ1 F1 μ1 H1 (.refl _ _) r1 g
                  obtain ⟨ys, sq2, _⟩ := h2 ρ1 F1 μ1 H1 (.refl _ _) r1 g2
                  refine ⟨t, t2, xs, ys, rfl, .inr ⟨sq, sq2, p1 ρ1 F1 _ H1 (.refl _ _) r1 (walk_zT fun ρ2 F2 μ2 H2 ex r2 gg => ?_)⟩⟩
                  rw [Bool.and_eq_true] at gg
                  obtain ⟨xs', a1, a2⟩ := h ρ2 F2 μ2 H2 ex r2 gg.1
                  obtain ⟨ys', b1, b2⟩ := h2 ρ2 F2 μ2 H2 ex r2 gg.2
                  exact ⟨xs', ys', a1, a2, b1, b2⟩
                · rw [k1, k2] at same
                  cases same
              · rcases h2 with ⟨k2, h2⟩ | ⟨k2, h2⟩
                · rw [k1, k2] at same
                  cases same
                · obtain ⟨xs, sq, _⟩ := h ρ1 F1 μ1 H1 (.refl _ _) r1 g
                  obtain ⟨ys, sq2, _⟩ := h2 ρ1 F1 μ1 H1 (.refl _ _) r1 g2
                  refine ⟨t, t2, xs, ys, rfl, .inl ⟨sq, sq2, p1 ρ1 F1 _ H1 (.refl _ _) r1 (walk_zL fun ρ2 F2 μ2 H2 ex r2 gg => ?_)⟩⟩
                  rw [Bool.and_eq_true] at gg
                  obtain ⟨xs', a1, a2⟩ := h ρ2 F2 μ2 H2 ex r2 gg.1
                  obtain ⟨ys', b1, b2⟩ := h2 ρ2 F2 μ2 H2 ex r2 gg.2
                  exact ⟨xs', ys', a1, a2, b1, b2⟩
            · exact p1.elim
/-! ### comprehensions -/
def wipeD (δ : VS) : List Nat → VS
  | [] => δ
  | v :: vs => (wipeD δ vs).set v none
theorem VR.wipe {ρ : List Addr} {F : Hp} {δ : VS} {σ : L2.St} (h : VR K ρ F δ σ) : ∀ vs : List Nat, VR K ρ F (wipeD δ vs) (L2.wipe σ vs)
  | [] => h
  | v :: vs => (VR.wipe h vs).unset v none
theorem wipe_get (σ : L2.St) : ∀ (vs : List Nat) (j : Nat), (L2.wipe σ vs)[j]? = if j ∈ vs then (if j < σ.length then some none else none) else σ[j]?
  | [], j => by simp [L2.wipe]
  | v :: vs, j => by
    rw [L2.wipe, List.getElem?_set, L2.wipe_length]
    by_cases e : v = j
    · subst e
      simp
    · rw [if_neg e, wipe_get σ vs j]
      by_cases z : j ∈ vs
      · rw [if_pos z, if_pos (List.mem_cons_of_mem _ z)]
      · rw [if_neg z, if_neg fun h => (List.mem_cons.mp h).elim (fun q => e q.symm) z]
theorem wipe_set {σ : L2.St} {vs : List Nat} {i : Nat} {o : Option V} (h : i ∈ vs) : L2.wipe (σ.set i o) vs = L2.wipe σ vs := by
  apply List.ext_getElem?
  intro j
  rw [wipe_get, wipe_get, List.length_set]
  by_cases z : j ∈ vs
  · rw [if_pos z, if_pos z]
  · rw [if_neg z, if_neg z, List.getElem?_set_ne]
    rintro rfl
    exact z h
def GPostW (K : PySem.W.Frag) (vs : List Nat) (σ : L2.St) (ρ : List Addr) (F : Hp) (o : SO) (Q : L2.St → Hp → Prop) : Prop := match o with
  | .nx δ' μ' => ∀ ρ' F' σ' H', Ext ρ F ρ' F' → RH K ρ' F' μ' H' → VR K ρ' F' δ' σ' → L2.wipe σ' vs = L2.wipe σ vs → Q σ' H'
  | _ => False
def TGw (K : PySem.W.Frag) (ws : List Nat) (g : TG) (d : DGn) : Prop := ∀ ρ F δ μ σ H x v (Q : L2.St → Hp → Prop), RH K ρ F μ H → VR K ρ F δ σ → DR K ρ F x v → GPostW K ws σ ρ F (d x δ μ) Q → g v σ H Q
def TGsw (K : PySem.W.Frag) (ws : List Nat) (g : TGs) (d : List D → DSn) : Prop := ∀ ρ F δ μ σ H xs vs (Q : L2.St → Hp → Prop), RH K ρ F μ H → VR K ρ F δ σ → DRs K ρ F xs vs → GPostW K ws σ ρ F (d xs δ μ) Q → g vs σ H Q
theorem tw_name {ws : List Nat} {i : Nat} (h : i ∈ ws) : TGw K ws (gName i) (dgName i) := fun ρ F δ μ σ H x w Q r v q p => p ρ F _ H (.refl _ _) r (v.set i q) (wipe_set h)
theorem tws_nil {ws : List Nat} : TGsw K ws gNil dgNil := fun ρ F δ μ σ H xs vs Q r v q p => by
  cases xs with
  | nil => cases q; exact ⟨rfl, p ρ F σ H (.refl _ _) r v rfl⟩
  | cons x xs => exact p.elim
theorem tws_cons {ws : List Nat} {g : TG} {gs : TGs} {d : DGn} {ds : List D → DSn} (h1 : TGw K ws g d) (h2 : TGsw K ws gs ds) : TGsw K ws (gCons g gs) (dgCons d ds) := fun ρ F δ μ σ H xs vs Q r v q p => by
  cases xs with
  | nil => exact p.elim
  | cons x xs =>
    cases q with
    | cons q1 q2 =>
      refine ⟨_, _, rfl, h1 ρ F δ μ σ H x _ _ r v q1 ?_⟩
      unfold dgCons at p
      dsimp only at p
      cases e : d x δ μ with
      | nx δ1 μ1 =>
        rw [e] at p
        dsimp only at p
        intro ρ1 F1 σ1 H1 ex r1 v1 w1
        refine h2 ρ1 F1 δ1 μ1 σ1 H1 xs _ Q r1 v1 (q2.mono ex) ?_
        cases e2 : ds xs δ1 μ1 with
        | nx δ2 μ2 =>
          rw [e2] at p
          exact fun ρ2 F2 σ2 H2 ex2 r2 v2 w2 => p ρ2 F2 σ2 H2 (ex.trans ex2) r2 v2 (w2.trans w1)
        | _ => rw [e2] at p; exact p.elim
      | _ => rw [e] at p; exact p.elim
theorem tw_tup {ws : List Nat} {n : Nat} {gs : TGs} {ds : List D → DSn} (h : TGsw K ws gs ds) : TGw K ws (gTup K n gs) (dgTup n ds) := fun ρ F δ μ σ H x w Q r v q p => by
  cases x with
  | tup xs =>
    cases q with
    | tup sq dr =>
      unfold dgTup at p
      dsimp only at p
      split at p
      · exact ⟨_, _, rfl, sqT_same r.fr sq, by rw [← dr.length]; assumption, h ρ F δ μ σ H xs _ Q r v dr p⟩
      · exact p.elim
  | _ => exact p.elim
def dYes : DTn := fun _ μ => .ok true μ
theorem st_yes : ST K E S tYes dYes := fun ρ F δ μ σ H Q r v s p => p ρ F true H (.refl _ _) r rfl
def compGo (gd : List M → Bool) (b : DGn) (c : DTn) (e : DEn) (k : Nat) (δ : VS) : List D → List M → Option (List M)
  | [], μ => if gd μ = true then some μ else none
  | x :: xs, μ => if gd μ = true then (match b x δ μ with
    | .nx δ1 μ1 => (match c δ1 μ1 with
      | .ok true μ2 => (match e δ1 μ2 with
        | .ok y μ3 => (match μ3[k]? with
          | some (.lst acc) => if acc.length < sizeLine then compGo gd b c e k δ xs (μ3.set k (.lst (acc ++ [y]))) else none
          | _ => none)
        | _ => none)
      | .ok false μ2 => compGo gd b c e k δ xs μ2
      | _ => none)
    | _ => none) else none
def dComp (it : DIn) (b : DGn) (c : DTn) (e : DEn) (vs : List Nat) : DEn := fun δ μ => (it δ μ).bind fun I μ1 => match compGo I.gd b c e μ1.length (wipeD δ vs) I.ds (μ1 ++ [.lst []]) with
  | some μ2 => .ok (.loc μ1.length) μ2
  | none => .bad
abbrev EF : L2.St → XK := fun _ _ _ _ => False
theorem se_comp {wi : TI} {gt : TG} {tt : TT} {te : TE} {it : DIn} {b : DGn} {c : DTn} {e : DEn} {vs : List Nat} (hi : SI K E S wi it) (hg : TGw K vs gt b) (hc : ST K EF (fun _ => True) tt c) (he : SE K EF (fun _ => True) te e) :
    SE K E S (tLc wi gt tt te vs) (dComp it b c e vs) := by
  intro ρ F δ μ σ H Q rh v s p
  refine hi.thn rh v s p fun I μ1 ρ1 F1 J H1 _ _ r1 v1 w p1 => ?_
  intro L hL
  cases e0 : compGo I.gd b c e μ1.length (wipeD δ vs) I.ds (μ1 ++ [.lst []]) with
  | none => rw [e0] at p1; exact p1.elim
  | some μ9 =>
    rw [e0] at p1
    obtain ⟨r2, ex2⟩ := r1.alloc (o := .lst []) (m := .lst []) hL ⟨[], rfl, .nil⟩
    have hk : ρ1.length = μ1.length := r1.len
    have atL : ∀ ρ' F', Ext (ρ1 ++ [L]) F1 ρ' F' → ρ'[μ1.length]? = some L := fun ρ' F' ex => ex.pre _ _ (by rw [← hk]; exact loc_new ρ1 L)
    refine ⟨fun i m H' => m = I.ds.length - i ∧ i ≤ I.ds.length ∧ ∃ ρ' F' μ', Ext (ρ1 ++ [L]) F1 ρ' F' ∧ RH K ρ' F' μ' H' ∧ compGo I.gd b c e μ1.length (wipeD δ vs) (I.ds.drop i) μ' = some μ9,
      ⟨_, rfl, Nat.zero_le _, _, F1, _, .refl _ _, r2, e0⟩, ?_⟩
    rintro i m H' ⟨rfl, hil, ρ', F', μ', ex', r', p'⟩
    have ex1 : Ext ρ1 F1 ρ' F' := ex2.trans ex'
    have gd : I.gd μ' = true := by
      cases z : I.gd μ' with
      | true => rfl
      | false =>
        cases q : I.ds.drop i with
        | nil => rw [q, compGo, z] at p'; cases p'
        | cons x xs => rw [q, compGo, z] at p'; cases p'
    obtain ⟨go, stop⟩ := w ρ' F' μ' H' ex1 r' gd
    by_cases hlt : i < I.ds.length
    · obtain ⟨g1, g2⟩ := go i I.ds[i] (List.getElem?_eq_getElem hlt)
      rw [List.drop_eq_getElem_cons hlt, compGo, gd, if_pos rfl] at p'
      refine .inr ⟨g1, fun H2 => ∃ ρ2 F2 μ2, Ext (ρ1 ++ [L]) F1 ρ2 F2 ∧ RH K ρ2 F2 μ2 H2 ∧ compGo I.gd b c e μ1.length (wipeD δ vs) (I.ds.drop (i + 1)) μ2 = some μ9,
        fun H2 z => ⟨_, by omega, rfl, hlt, z⟩, fun x H3 hy => ?_⟩
      obtain ⟨F3, ex3, r3, q3⟩ := g2 x H3 hy
      have vw : VR K ρ' F3 (wipeD δ vs) (L2.wipe σ vs) := ((v1.mono ex1).mono ex3).wipe vs
      refine hg ρ' F3 (wipeD δ vs) μ' (L2.wipe σ vs) H3 I.ds[i] x _ r3 vw q3 ?_
      cases e2 : b I.ds[i] (wipeD δ vs) μ' with
      | nx δ1 μa =>
        rw [e2] at p'
        dsimp only at p'
        intro ρ4 F4 σ4 H4 ex4 r4 v4 w4
        have ww : L2.wipe (L2.wipe σ vs) vs = L2.wipe σ vs := by
          apply List.ext_getElem?
          intro j
          rw [wipe_get, wipe_get, L2.wipe_length]
          by_cases z : j ∈ vs
          · rw [if_pos z, if_pos z]
          · rw [if_neg z, if_neg z]
        refine ⟨w4.trans ww, ?_⟩
        have exx : Ext ρ' F' ρ4 F4 := ex3.trans ex4
        refine hc ρ4 F4 δ1 μa σ4 H4 _ r4 v4 trivial ?_
        cases e3 : c δ1 μa with
        | bad => rw [e3] at p'; cases p'
        | exc z μb => rw [e3] at p'; cases p'
        | ok y μb =>
          rw [e3] at p'
          intro ρ5 F5 y' H5 ex5 r5 hy'
          subst hy'
          cases y with
          | false =>
            dsimp only at p'
            exact ⟨ρ5, F5, μb, ex'.trans (exx.trans ex5), r5, p'⟩
          | true =>
            rw [if_pos rfl]
            dsimp only at p'
            refine he ρ5 F5 δ1 μb σ4 H5 _ r5 (v4.mono ex5) trivial ?_
            cases e4 : e δ1 μb with
            | bad => rw [e4] at p'; cases p'
            | exc z μd => rw [e4] at p'; cases p'
            | ok y μd =>
              rw [e4] at p'
              dsimp only at p'
              intro ρ6 F6 y6 H6 ex6 r6 q6
              have z := atL ρ6 F6 (ex'.trans (exx.trans (ex5.trans ex6)))
              cases e5 : μd[μ1.length]? with
              | none => rw [e5] at p'; cases p'
              | some m =>
                cases m with
                | ins C fs => rw [e5] at p'; cases p'
                | dct ks => rw [e5] at p'; cases p'
                | lst acc =>
                  rw [e5] at p'
                  dsimp only at p'
                  split at p'
                  · rename_i hz
                    obtain ⟨xs, hx, dr⟩ := r6.ob _ _ _ z e5
                    exact ⟨xs, hx, by rw [← dr.length]; exact hz, ρ6, F6, _, ex'.trans (exx.trans (ex5.trans ex6)), r6.put (m := .lst (acc ++ [y])) z ⟨_, rfl, dr.append (.cons q6 .nil)⟩, p'⟩
                  · cases p'
      | _ => rw [e2] at p'; cases p'
    · have e4 : i = I.ds.length := by omega
      subst e4
      rw [List.drop_length, compGo, gd, if_pos rfl] at p'
      cases p'
      exact .inl ⟨stop, p1 ρ' F' _ H' ex1 r' (.loc (atL ρ' F' ex'))⟩
/-! ### while -/
def whileGo (c : DTn) (body : DSn) : Nat → DSn
  | 0, _, _ => .bad
  | n + 1, δ, μ => (c δ μ).thenT δ fun b μ1 => if b = true then (match body δ μ1 with
    | .nx δ2 μ2 => whileGo c body n δ2 μ2
    | .cnt δ2 μ2 => whileGo c body n δ2 μ2
    | .brk δ2 μ2 => .nx δ2 μ2
    | o => o) else .nx δ μ1
theorem ss_while {tc : TT} {tb : TS} {c : DTn} {body : DSn} (n : Nat) (hc : ST K E (fun _ => True) tc c) (hb : SSt K E tb body) : SSt K E (tWhile tc tb) (whileGo c body n) := by
  intro ρ F δ μ σ H T r v s p
  refine ⟨fun m σ' H' => ∃ ρ' F' δ' μ', Ext ρ F ρ' F' ∧ RH K ρ' F' μ' H' ∧ VR K ρ' F' δ' σ' ∧ SPost K ρ' F' (whileGo c body m δ' μ') T E, ⟨n, ρ, F, δ, μ, .refl _ _, r, v, p⟩, ?_⟩
  rintro m σ' H' ⟨ρ', F', δ', μ', ex', r', v', p'⟩
  cases m with
  | zero => exact p'.elim
  | succ m =>
    refine SG.thnT hc r' v' trivial p' fun x μ1 ρ1 F1 H1 _ ex1 r1 v1 p1 => ?_
    cases x with
    | false => exact p1 ρ1 F1 σ' H1 (.refl _ _) r1 v1
    | true =>
      rw [if_pos rfl] at p1
      rw [if_pos rfl]
      refine ⟨fun σ2 H2 => ∃ ρ2 F2 δ2 μ2, Ext ρ F ρ2 F2 ∧ RH K ρ2 F2 μ2 H2 ∧ VR K ρ2 F2 δ2 σ2 ∧ SPost K ρ2 F2 (whileGo c body m δ2 μ2) T E, fun σ2 H2 z => ⟨m, Nat.lt_succ_self m, z⟩, ?_⟩
      refine hb ρ1 F1 δ' μ1 σ' H1 _ r1 v1 trivial ?_
      cases e3 : body δ' μ1 with
      | nx δ2 μ2 =>
        rw [e3] at p1
        exact fun ρ5 F5 σ5 H5 ex5 r5 v5 => ⟨ρ5, F5, δ2, μ2, ex'.trans (ex1.trans ex5), r5, v5, SPost.ext ex5 p1⟩
      | cnt δ2 μ2 =>
        rw [e3] at p1
        exact fun ρ5 F5 σ5 H5 ex5 r5 v5 => ⟨ρ5, F5, δ2, μ2, ex'.trans (ex1.trans ex5), r5, v5, SPost.ext ex5 p1⟩
      | brk δ2 μ2 =>
        rw [e3] at p1
        exact fun ρ5 F5 σ5 H5 ex5 => p1 ρ5 F5 σ5 H5 ex5
      | ret x2 μ2 =>
        rw [e3] at p1
        exact fun ρ5 F5 σ5 H5 ex5 => p1 ρ5 F5 σ5 H5 ex5
      | exc z δ2 μ2 =>
        rw [e3] at p1
        exact fun ρ5 F5 σ5 H5 d ex5 => p1 ρ5 F5 σ5 H5 d ex5
      | bad => rw [e3] at p1; exact p1.elim
end
end Dn
set_option Elab.async false
set_option linter.all false
set_option maxRecDepth 100000
set_option maxHeartbeats 1000000
set_option autoImplicit false
/-! Dn4: what a def leaves: its new things become known trees; its promise; calls. -/
namespace Dn
open PySem PySem.Spec PyProof.Rows L2 Gk
section
variable {K : PySem.W.Frag}
/-! ### new things become trees -/
mutual
def fzB (n : Nat) (look : Nat → Option D) : D → Option D
  | .loc k => if k < n then some (.loc k) else look k
  | .tup ds => (fzBs n look ds).map .tup
  | .lst ds => (fzBs n look ds).map .lst
  | .ins C fs => (fzBf n look fs).map (.ins C)
  | .dct ks => (fzBk n look ks).map .dct
  | .non => some .non
  | .bl b => some (.bl b)
  | .int i => some (.int i)
  | .str x => some (.str x)
  | .glb v => some (.glb v)
def fzBs (n : Nat) (look : Nat → Option D) : List D → Option (List D)
  | [] => some []
  | d :: ds => (fzB n look d).bind fun e => (fzBs n look ds).map fun es => e :: es
def fzBf (n : Nat) (look : Nat → Option D) : List (Str × D) → Option (List (Str × D))
  | [] => some []
  | (x, d) :: ds => (fzB n look d).bind fun e => (fzBf n look ds).map fun es => (x, e) :: es
def fzBk (n : Nat) (look : Nat → Option D) : List (Key × D) → Option (List (Key × D))
  | [] => some []
  | (x, d) :: ds => (fzB n look d).bind fun e => (fzBk n look ds).map fun es => (x, e) :: es
end
/-- the thing of the store at k as a tree; `ex` is left out -/
def fzK (n : Nat) (ex : Option Nat) (μ : List M) : Nat → Nat → Option D
  | 0, _ => none
  | f + 1, k => if ex = some k then none else match μ[k]? with
    | some (.lst ds) => (fzBs n (fzK n ex μ f) ds).map .lst
    | some (.ins C fs) => (fzBf n (fzK n ex μ f) fs).map (.ins C)
    | some (.dct ks) => (fzBk n (fzK n ex μ f) ks).map .dct
    | none => none
/-! no thing of the store from n on -/
mutual
def clo (n : Nat) : D → Bool
  | .loc k => decide (k < n)
  | .tup ds => clos n ds
  | .lst ds => clos n ds
  | .ins _ fs => clof n fs
  | .dct ks => clok n ks
  | _ => true
def clos (n : Nat) : List D → Bool
  | [] => true
  | d :: ds => clo n d && clos n ds
def clof (n : Nat) : List (Str × D) → Bool
  | [] => true
  | (_, d) :: ds => clo n d && clof n ds
def clok (n : Nat) : List (Key × D) → Bool
  | [] => true
  | (_, d) :: ds => clo n d && clok n ds
end
mutual
theorem fzB_clo (n : Nat) (look : Nat → Option D) : ∀ d : D, clo n d = true → fzB n look d = some d
  | .loc k, h => by
    rw [clo] at h
    rw [fzB, if_pos (of_decide_eq_true h)]
  | .tup ds, h => by
    rw [clo] at h
    rw [fzB, fzBs_clo n look ds h]
    rfl
  | .lst ds, h => by
    rw [clo] at h
    rw [fzB, fzBs_clo n look ds h]
    rfl
  | .ins C fs, h => by
    rw [clo] at h
    rw [fzB, fzBf_clo n look fs h]
    rfl
  | .dct ks, h => by
    rw [clo] at h
    rw [fzB, fzBk_clo n look ks h]
    rfl
  | .non, _ => by rw [fzB]
  | .bl _, _ => by rw [fzB]
  | .int _, _ => by rw [fzB]
  | .str _, _ => by rw [fzB]
  | .glb _, _ => by rw [fzB]
theorem fzBs_clo (n : Nat) (look : Nat → Option D) : ∀ ds : List D, clos n ds = true → fzBs n look ds = some ds
  | [], _ => by rw [fzBs]
  | d :: ds, h => by
    rw [clos, Bool.and_eq_true] at h
    rw [fzBs, fzB_clo n look d h.1, fzBs_clo n look ds h.2]
    rfl
theorem fzBf_clo (n : Nat) (look : Nat → Option D) : ∀ ds : List (Str × D), clof n ds = true → fzBf n look ds = some ds
  | [], _ => by rw [fzBf]
  | (x, d) :: ds, h => by
    rw [clof, Bool.and_eq_true] at h
    rw [fzBf, fzB_clo n look d h.1, fzBf_clo n look ds h.2]
    rfl
theorem fzBk_clo (n : Nat) (look : Nat → Option D) : ∀ ds : List (Key × D), clok n ds = true → fzBk n look ds = some ds
  | [], _ => by rw [fzBk]
  | (x, d) :: ds, h => by
    rw [clok, Bool.and_eq_true] at h
    rw [fzBk, fzB_clo n look d h.1, fzBk_clo n look ds h.2]
    rfl
end
variable {ρ ρ' : List Addr} {F' F'' : Hp} {n : Nat} {look : Nat → Option D}
mutual
theorem fzB_ok (e : Same F' F'') (hc : ∀ (k : Nat) (a : Addr), k < n → ρ'[k]? = some a → ρ[k]? = some a) (hl : ∀ (k : Nat) (a : Addr) (d : D), n ≤ k → look k = some d → ρ'[k]? = some a → DR K ρ F'' d (.ref a)) :
    ∀ (d : D) (v : V) (d' : D), DR K ρ' F' d v → fzB n look d = some d' → DR K ρ F'' d' v
  | .loc k, _, d', h, q => by
    cases h with
    | loc z =>
      rw [fzB] at q
      by_cases lt : k < n
      · rw [if_pos lt] at q
        cases q
        exact .loc (hc _ _ lt z)
      · rw [if_neg lt] at q
        exact hl k _ d' (by omega) q z
  | .tup ds, _, d', h, q => by
    cases h with
    | tup a b =>
      rw [fzB] at q
      cases z : fzBs n look ds with
      | none => rw [z] at q; cases q
      | some es =>
        rw [z] at q
        cases q
        exact .tup (sqT_same e a) (fzBs_ok e hc hl ds _ es b z)
  | .lst ds, _, d', h, q => by
    cases h with
    | lst a b =>
      rw [fzB] at q
      cases z : fzBs n look ds with
      | none => rw [z] at q; cases q
      | some es =>
        rw [z] at q
        cases q
        exact .lst (Same.seq e a) (fzBs_ok e hc hl ds _ es b z)
  | .ins C fs, _, d', h, q => by
    cases h with
    | ins a b =>
      rw [fzB] at q
      cases z : fzBf n look fs with
      | none => rw [z] at q; cases q
      | some es =>
        rw [z] at q
        cases q
        exact .ins (e _ _ a) (fzBf_ok e hc hl fs _ es b z)
  | .dct ks, _, d', h, q => by
    cases h with
    | dct a b =>
      rw [fzB] at q
      cases z : fzBk n look ks with
      | none => rw [z] at q; cases q
      | some es =>
        rw [z] at q
        cases q
        exact .dct (e _ _ a) (fzBk_ok e hc hl ks _ es b z)
  | .non, _, _, h, q => by cases h; rw [fzB] at q; cases q; exact .non
  | .bl b, _, _, h, q => by cases h; rw [fzB] at q; cases q; exact .bl b
  | .int i, _, _, h, q => by cases h; rw [fzB] at q; cases q; exact .int i
  | .str x, _, _, h, q => by cases h; rw [fzB] at q; cases q; exact .str x
  | .glb u, _, _, h, q => by cases h; rw [fzB] at q; cases q; exact .glb u
theorem fzBs_ok (e : Same F' F'') (hc : ∀ (k : Nat) (a : Addr), k < n → ρ'[k]? = some a → ρ[k]? = some a) (hl : ∀ (k : Nat) (a : Addr) (d : D), n ≤ k → look k = some d → ρ'[k]? = some a → DR K ρ F'' d (.ref a)) :
    ∀ (ds : List D) (vs : List V) (es : List D), DRs K ρ' F' ds vs → fzBs n look ds = some es → DRs K ρ F'' es vs
  | [], _, _, h, q => by cases h; rw [fzBs] at q; cases q; exact .nil
  | d :: ds, _, _, h, q => by
    cases h with
    | cons a b =>
      rw [fzBs] at q
      cases z : fzB n look d with
      | none => rw [z] at q; cases q
      | some d' =>
        cases y : fzBs n look ds with
        | none => rw [z, y] at q; cases q
        | some es =>
          rw [z, y] at q
          cases q
          exact .cons (fzB_ok e hc hl d _ d' a z) (fzBs_ok e hc hl ds _ es b y)
theorem fzBf_ok (e : Same F' F'') (hc : ∀ (k : Nat) (a : Addr), k < n → ρ'[k]? = some a → ρ[k]? = some a) (hl : ∀ (k : Nat) (a : Addr) (d : D), n ≤ k → look k = some d → ρ'[k]? = some a → DR K ρ F'' d (.ref a)) :
    ∀ (ds : List (Str × D)) (vs : List (Str × V)) (es : List (Str × D)), DRf K ρ' F' ds vs → fzBf n look ds = some es → DRf K ρ F'' es vs
  | [], _, _, h, q => by cases h; rw [fzBf] at q; cases q; exact .nil
  | (x, d) :: ds, _, _, h, q => by
    cases h with
    | cons a b =>
      rw [fzBf] at q
      cases z : fzB n look d with
      | none => rw [z] at q; cases q
      | some d' =>
        cases y : fzBf n look ds with
        | none => rw [z, y] at q; cases q
        | some es =>
          rw [z, y] at q
          cases q
          exact .cons (fzB_ok e hc hl d _ d' a z) (fzBf_ok e hc hl ds _ es b y)
theorem fzBk_ok (e : Same F' F'') (hc : ∀ (k : Nat) (a : Addr), k < n → ρ'[k]? = some a → ρ[k]? = some a) (hl : ∀ (k : Nat) (a : Addr) (d : D), n ≤ k → look k = some d → ρ'[k]? = some a → DR K ρ F'' d (.ref a)) :
    ∀ (ds : List (Key × D)) (vs : List (Key × V)) (es : List (Key × D)), DRk K ρ' F' ds vs → fzBk n look ds = some es → DRk K ρ F'' es vs
  | [], _, _, h, q => by cases h; rw [fzBk] at q; cases q; exact .nil
  | (x, d) :: ds, _, _, h, q => by
    cases h with
    | cons a b =>
      rw [fzBk] at q
      cases z : fzB n look d with
      | none => rw [z] at q; cases q
      | some d' =>
        cases y : fzBk n look ds with
        | none => rw [z, y] at q; cases q
        | some es =>
          rw [z, y] at q
          cases q
          exact .cons (fzB_ok e hc hl d _ d' a z) (fzBk_ok e hc hl ds _ es b y)
end
/-! what is known of things that were there already -/
mutual
theorem DR.cut {F : Hp} (e : Same F' F'') (pre : ∀ (k : Nat) (a : Addr), ρ[k]? = some a → ρ'[k]? = some a) : ∀ (d : D) (v0 v : V), DR K ρ F d v0 → DR K ρ' F' d v → DR K ρ F'' d v
  | .loc k, _, _, h, q => by
    cases h with
    | loc z =>
      cases q with
      | loc y =>
        have := pre _ _ z
        rw [y] at this
        cases this
        exact .loc z
  | .tup ds, _, _, h, q => by
    cases h with
    | tup _ b => cases q with
      | tup c d => exact .tup (sqT_same e c) (DRs.cut e pre ds _ _ b d)
  | .lst ds, _, _, h, q => by
    cases h with
    | lst _ b => cases q with
      | lst c d => exact .lst (Same.seq e c) (DRs.cut e pre ds _ _ b d)
  | .ins C fs, _, _, h, q => by
    cases h with
    | ins _ b => cases q with
      | ins c d => exact .ins (e _ _ c) (DRf.cut e pre fs _ _ b d)
  | .dct ks, _, _, h, q => by
    cases h with
    | dct _ b => cases q with
      | dct c d => exact .dct (e _ _ c) (DRk.cut e pre ks _ _ b d)
  | .non, _, _, _, q => by cases q; exact .non
  | .bl b, _, _, _, q => by cases q; exact .bl b
  | .int i, _, _, _, q => by cases q; exact .int i
  | .str x, _, _, _, q => by cases q; exact .str x
  | .glb u, _, _, _, q => by cases q; exact .glb u
theorem DRs.cut {F : Hp} (e : Same F' F'') (pre : ∀ (k : Nat) (a : Addr), ρ[k]? = some a → ρ'[k]? = some a) : ∀ (ds : List D) (us vs : List V), DRs K ρ F ds us → DRs K ρ' F' ds vs → DRs K ρ F'' ds vs
  | [], _, _, _, q => by cases q; exact .nil
  | d :: ds, _, _, h, q => by
    cases h with
    | cons a b => cases q with
      | cons a' b' => exact .cons (DR.cut e pre d _ _ a a') (DRs.cut e pre ds _ _ b b')
theorem DRf.cut {F : Hp} (e : Same F' F'') (pre : ∀ (k : Nat) (a : Addr), ρ[k]? = some a → ρ'[k]? = some a) : ∀ (ds : List (Str × D)) (us vs : List (Str × V)), DRf K ρ F ds us → DRf K ρ' F' ds vs → DRf K ρ F'' ds vs
  | [], _, _, _, q => by cases q; exact .nil
  | (x, d) :: ds, _, _, h, q => by
    cases h with
    | cons a b => cases q with
      | cons a' b' => exact .cons (DR.cut e pre d _ _ a a') (DRf.cut e pre ds _ _ b b')
theorem DRk.cut {F : Hp} (e : Same F' F'') (pre : ∀ (k : Nat) (a : Addr), ρ[k]? = some a → ρ'[k]? = some a) : ∀ (ds : List (Key × D)) (us vs : List (Key × V)), DRk K ρ F ds us → DRk K ρ' F' ds vs → DRk K ρ F'' ds vs
  | [], _, _, _, q => by cases q; exact .nil
  | (x, d) :: ds, _, _, h, q => by
    cases h with
    | cons a b => cases q with
      | cons a' b' => exact .cons (DR.cut e pre d _ _ a a') (DRk.cut e pre ds _ _ b b')
end
def cloM (n : Nat) : M → Bool
  | .lst ds => clos n ds
  | .ins _ fs => clof n fs
  | .dct ks => clok n ks
/-- the things that were there stand as they stood, or hold nothing new -/
def Back (n : Nat) (μ μ' : List M) : Prop := n ≤ μ'.length ∧ ∀ k, k < n → μ'[k]? = μ[k]? ∨ ∃ m, μ'[k]? = some m ∧ cloM n m = true
/-- the known part, and what of the new things is known from now on -/
def Fup (F' : Hp) (P : Addr → Bool) (H' : Hp) : Hp := fun b => if P b = true then H' b else F' b
/-- the new addresses but for one -/
def newP (ρ' : List Addr) (n : Nat) (ex : Option Addr) (b : Addr) : Bool := decide (b ∈ ρ'.drop n) && !decide (ex = some b)
theorem Fup.same {F H : Hp} {P : Addr → Bool} (e : Same F H) : Same F (Fup F P H) := fun b o h => by
  unfold Fup
  split
  · exact e b o h
  · exact h
theorem Fup.to {F H : Hp} {P : Addr → Bool} (e : Same F H) : Same (Fup F P H) H := fun b o h => by
  unfold Fup at h
  split at h
  · exact h
  · exact e b o h
/-- a new thing of the store, as a tree -/
theorem fzK_ok {μ' : List M} {H' : Hp} {ex : Option Nat} {exa : Option Addr} (r : RH K ρ' F' μ' H') (hn : ρ.length = n) (hpre : ∀ (k : Nat) (a : Addr), ρ[k]? = some a → ρ'[k]? = some a)
    (hex : ∀ (k : Nat) (a : Addr), ρ'[k]? = some a → exa = some a → ex = some k) : ∀ (f k : Nat) (a : Addr) (d : D), n ≤ k → fzK n ex μ' f k = some d → ρ'[k]? = some a → DR K ρ (Fup F' (newP ρ' n exa) H') d (.ref a)
  | 0, k, a, d, _, q, _ => by cases q
  | f + 1, k, a, d, hk, q, z => by
    have hc : ∀ (k : Nat) (a : Addr), k < n → ρ'[k]? = some a → ρ[k]? = some a := fun k a lt h => by
      have h2 := hpre k _ (List.getElem?_eq_getElem (show k < ρ.length by omega))
      rw [h] at h2
      rw [Option.some.inj h2]
      exact List.getElem?_eq_getElem (by omega)
    rw [fzK] at q
    by_cases e1 : ex = some k
    · rw [if_pos e1] at q
      cases q
    · rw [if_neg e1] at q
      have hP : newP ρ' n exa a = true := by
        unfold newP
        rw [Bool.and_eq_true]
        refine ⟨decide_eq_true ?_, ?_⟩
        · refine List.mem_of_getElem? (i := k - n) ?_
          rw [List.getElem?_drop, show n + (k - n) = k by omega]
          exact z
        · rw [decide_eq_false fun h => e1 (hex k a z h)]
          rfl
      have at_ : Fup F' (newP ρ' n exa) H' a = H' a := by
        unfold Fup
        rw [if_pos hP]
      cases y : μ'[k]? with
      | none => rw [y] at q; cases q
      | some m =>
        rw [y] at q
        cases m with
        | lst ds =>
          dsimp only at q
          obtain ⟨xs, h1, h2⟩ := r.ob _ _ _ z y
          cases w : fzBs n (fzK n ex μ' f) ds with
          | none => rw [w] at q; cases q
          | some es =>
            rw [w] at q
            cases q
            exact .lst (SqL.of (at_.trans h1)) (fzBs_ok (Fup.same r.fr) hc (fzK_ok r hn hpre hex f) ds _ es h2 w)
        | ins C fs =>
          dsimp only at q
          obtain ⟨dx, gs, h1, h2⟩ := r.ob _ _ _ z y
          cases w : fzBf n (fzK n ex μ' f) fs with
          | none => rw [w] at q; cases q
          | some es =>
            rw [w] at q
            cases q
            exact .ins (at_.trans h1) (fzBf_ok (Fup.same r.fr) hc (fzK_ok r hn hpre hex f) fs _ es h2 w)
        | dct ks =>
          dsimp only at q
          obtain ⟨gs, h1, h2⟩ := r.ob _ _ _ z y
          cases w : fzBk n (fzK n ex μ' f) ks with
          | none => rw [w] at q; cases q
          | some es =>
            rw [w] at q
            cases q
            exact .dct (at_.trans h1) (fzBk_ok (Fup.same r.fr) hc (fzK_ok r hn hpre hex f) ks _ es h2 w)
/-- the store is cut back -/
theorem RH.back {F H H' : Hp} {μ μ' : List M} {exa : Option Addr} (r0 : RH K ρ F μ H) (hn : μ.length = n) (ex : Ext ρ F ρ' F') (r : RH K ρ' F' μ' H') (hb : Back n μ μ') :
    RH K ρ (Fup F' (newP ρ' n exa) H') (μ'.take n) H' ∧ Ext ρ F ρ (Fup F' (newP ρ' n exa) H') := by
  have ln : ρ.length = n := r0.len.trans hn
  have hc : ∀ (k : Nat) (a : Addr), k < n → ρ'[k]? = some a → ρ[k]? = some a := fun k a lt h => by
    have h2 := ex.pre k _ (List.getElem?_eq_getElem (show k < ρ.length by omega))
    rw [h] at h2
    rw [Option.some.inj h2]
    exact List.getElem?_eq_getElem (by omega)
  refine ⟨⟨Fup.to r.fr, ?_, r0.nd, fun a ha => ?_, fun k a m h1 h2 => ?_⟩, ⟨ex.fr.trans (Fup.same r.fr), fun _ _ z => z⟩⟩
  · rw [List.length_take, ln]
    have := hb.1
    omega
  · obtain ⟨k, hk⟩ := List.getElem?_of_mem ha
    have lk : k < n := by
      have := (List.getElem?_eq_some_iff.mp hk).1
      omega
    have hk' := ex.pre k a hk
    unfold Fup
    have hP : newP ρ' n exa a = false := by
      unfold newP
      rw [decide_eq_false, Bool.false_and]
      intro hm
      obtain ⟨j, hj⟩ := List.getElem?_of_mem hm
      rw [List.getElem?_drop] at hj
      obtain ⟨l1, e1⟩ := List.getElem?_eq_some_iff.mp hk'
      obtain ⟨l2, e2⟩ := List.getElem?_eq_some_iff.mp hj
      have := (List.getElem_inj r.nd).mp (e1.trans e2.symm)
      omega
    rw [hP, if_neg Bool.false_ne_true]
    exact r.off a (List.mem_of_getElem? hk')
  · have lk : k < n := by
      have := (List.getElem?_eq_some_iff.mp h1).1
      omega
    rw [List.getElem?_take_of_lt lk] at h2
    have q := r.ob k a m (ex.pre k a h1) h2
    rcases hb.2 k lk with z | ⟨m', z, c⟩
    · rw [z] at h2
      have q0 := r0.ob k a m h1 h2
      cases m with
      | lst ds =>
        obtain ⟨xs, a1, a2⟩ := q
        obtain ⟨ys, b1, b2⟩ := q0
        exact ⟨xs, a1, DRs.cut (Fup.same r.fr) ex.pre ds _ _ b2 a2⟩
      | ins C fs =>
        obtain ⟨dx, xs, a1, a2⟩ := q
        obtain ⟨dy, ys, b1, b2⟩ := q0
        exact ⟨dx, xs, a1, DRf.cut (Fup.same r.fr) ex.pre fs _ _ b2 a2⟩
      | dct ks =>
        obtain ⟨xs, a1, a2⟩ := q
        obtain ⟨ys, b1, b2⟩ := q0
        exact ⟨xs, a1, DRk.cut (Fup.same r.fr) ex.pre ks _ _ b2 a2⟩
    · rw [h2] at z
      cases z
      have nol : ∀ (k : Nat) (a : Addr) (d : D), n ≤ k → (fun _ : Nat => (none : Option D)) k = some d → ρ'[k]? = some a → DR K ρ (Fup F' (newP ρ' n exa) H') d (.ref a) := fun _ _ _ _ z => absurd (show (none : Option D) = some _ from z) (by simp)
      cases m with
      | lst ds =>
        obtain ⟨xs, a1, a2⟩ := q
        exact ⟨xs, a1, fzBs_ok (Fup.same r.fr) hc nol ds _ ds a2 (fzBs_clo n _ ds c)⟩
      | ins C fs =>
        obtain ⟨dx, xs, a1, a2⟩ := q
        exact ⟨dx, xs, a1, fzBf_ok (Fup.same r.fr) hc nol fs _ fs a2 (fzBf_clo n _ fs c)⟩
      | dct ks =>
        obtain ⟨xs, a1, a2⟩ := q
        exact ⟨xs, a1, fzBk_ok (Fup.same r.fr) hc nol ks _ ks a2 (fzBk_clo n _ ks c)⟩
/-! ### a def's end -/
/-- how deep new things may lie within one another -/
def deepK : Nat := 6
open Classical in
noncomputable def leaveT (μ : List M) (o : SO) : Out D := match o with
  | .nx _ μ' => if Back μ.length μ μ' then .ok .non (μ'.take μ.length) else .bad
  | .ret x μ' => if Back μ.length μ μ' then (match fzB μ.length (fzK μ.length none μ' deepK) x with
    | some y => .ok y (μ'.take μ.length)
    | none => .bad) else .bad
  | .exc z _ μ' => if Back μ.length μ μ' then (match fzBf μ.length (fzK μ.length none μ' deepK) z.fs with
    | some fs => .exc ⟨z.C, fs⟩ (μ'.take μ.length)
    | none => .bad) else .bad
  | _ => .bad
open Classical in
/-- what is handed back is a new list that the caller may change -/
noncomputable def leaveO (μ : List M) (o : SO) : Out D := match o with
  | .ret (.loc k) μ' => if Back μ.length μ μ' ∧ μ.length ≤ k then (match μ'[k]? with
    | some (.lst ds) => (match fzBs μ.length (fzK μ.length (some k) μ' deepK) ds with
      | some es => .ok (.loc μ.length) (μ'.take μ.length ++ [.lst es])
      | none => .bad)
    | _ => .bad) else .bad
  | o => leaveT μ o
theorem leaveT_ok {F H : Hp} {μ : List M} {o : SO} {Q : VK} {E : XK} (r0 : RH K ρ F μ H) (p : Post (RE K) K ρ F (leaveT μ o) Q E) : SPost K ρ F o { nx := fun _ H' => Q .non H', rt := Q } fun _ => E := by
  cases o with
  | nx δ μ' =>
    intro ρ' F' σ' H' ex r v
    unfold leaveT at p
    dsimp only at p
    split at p
    · rename_i hb
      obtain ⟨r1, e1⟩ := r0.back (exa := none) rfl ex r hb
      exact p _ _ _ _ e1 r1 .non
    · exact p.elim
  | ret x μ' =>
    intro ρ' F' v H' ex r q
    unfold leaveT at p
    dsimp only at p
    split at p
    · rename_i hb
      obtain ⟨r1, e1⟩ := r0.back (exa := none) rfl ex r hb
      cases z : fzB μ.length (fzK μ.length none μ' deepK) x with
      | none => rw [z] at p; exact p.elim
      | some y =>
        rw [z] at p
        refine p _ _ _ _ e1 r1 ?_
        refine fzB_ok (Fup.same r.fr) (fun k a lt h => ?_) (fzK_ok r r0.len ex.pre (fun _ _ _ z => by cases z) _) x v y q z
        have h2 := ex.pre k _ (List.getElem?_eq_getElem (show k < ρ.length by rw [r0.len]; exact lt))
        rw [h] at h2
        rw [Option.some.inj h2]
        exact List.getElem?_eq_getElem _
    · exact p.elim
  | exc zz δ μ' =>
    intro ρ' F' σ' H' d ex r v q
    unfold leaveT at p
    dsimp only at p
    split at p
    · rename_i hb
      obtain ⟨r1, e1⟩ := r0.back (exa := none) rfl ex r hb
      cases z : fzBf μ.length (fzK μ.length none μ' deepK) zz.fs with
      | none => rw [z] at p; exact p.elim
      | some y =>
        rw [z] at p
        obtain ⟨gs, q1, q2⟩ := q
        refine p _ _ _ d e1 r1 ⟨gs, Fup.same r.fr _ _ q1, ?_⟩
        refine fzBf_ok (Fup.same r.fr) (fun k a lt h => ?_) (fzK_ok r r0.len ex.pre (fun _ _ _ z => by cases z) _) zz.fs gs y q2 z
        have h2 := ex.pre k _ (List.getElem?_eq_getElem (show k < ρ.length by rw [r0.len]; exact lt))
        rw [h] at h2
        rw [Option.some.inj h2]
        exact List.getElem?_eq_getElem _
    · exact p.elim
  | _ => exact p.elim
theorem leaveO_ok {F H : Hp} {μ : List M} {o : SO} {Q : VK} {E : XK} (r0 : RH K ρ F μ H) (p : Post (RE K) K ρ F (leaveO μ o) Q E) : SPost K ρ F o { nx := fun _ H' => Q .non H', rt := Q } fun _ => E := by
  cases o with
  | ret x μ' =>
    cases x with
    | loc k =>
      intro ρ' F' v H' ex r q
      unfold leaveO at p
      dsimp only at p
      split at p
      · rename_i hb
        obtain ⟨hb, hk⟩ := hb
        cases q with
        | @loc _ a z =>
          cases y : μ'[k]? with
          | none => rw [y] at p; exact p.elim
          | some m =>
            cases m with
            | ins C fs => rw [y] at p; exact p.elim
            | dct ks => rw [y] at p; exact p.elim
            | lst ds =>
              rw [y] at p
              dsimp only at p
              obtain ⟨r1, e1⟩ := r0.back (exa := some a) rfl ex r hb
              cases w : fzBs μ.length (fzK μ.length (some k) μ' deepK) ds with
              | none => rw [w] at p; exact p.elim
              | some es =>
                rw [w] at p
                obtain ⟨xs, h1, h2⟩ := r.ob _ _ _ z y
                have hc : ∀ (j : Nat) (b : Addr), j < μ.length → ρ'[j]? = some b → ρ[j]? = some b := fun j b lt h => by
                  have h2 := ex.pre j _ (List.getElem?_eq_getElem (show j < ρ.length by rw [r0.len]; exact lt))
                  rw [h] at h2
                  rw [Option.some.inj h2]
                  exact List.getElem?_eq_getElem _
                have hes : DRs K ρ (Fup F' (newP ρ' μ.length (some a)) H') es xs := by
                  refine fzBs_ok (Fup.same r.fr) hc (fzK_ok r r0.len ex.pre (fun j b hj hb2 => ?_) _) ds xs es h2 w
                  cases hb2
                  obtain ⟨l1, e1⟩ := List.getElem?_eq_some_iff.mp hj
                  obtain ⟨l2, e2⟩ := List.getElem?_eq_some_iff.mp z
                  rw [(List.getElem_inj r.nd).mp (e1.trans e2.symm)]
                have na : ∀ b ∈ ρ, b ≠ a := fun b hb2 e => by
                  subst e
                  obtain ⟨j, hj⟩ := List.getElem?_of_mem hb2
                  have l0 := (List.getElem?_eq_some_iff.mp hj).1
                  obtain ⟨l1, e1⟩ := List.getElem?_eq_some_iff.mp (ex.pre _ _ hj)
                  obtain ⟨l2, e2⟩ := List.getElem?_eq_some_iff.mp z
                  have := (List.getElem_inj r.nd).mp (e1.trans e2.symm)
                  have l3 := r0.len
                  omega
                have Fa : Fup F' (newP ρ' μ.length (some a)) H' a = none := by
                  unfold Fup newP
                  rw [decide_eq_true (rfl : some a = some a), Bool.not_true, Bool.and_false, if_neg Bool.false_ne_true]
                  exact r.off a (List.mem_of_getElem? z)
                have ex2 : Ext ρ (Fup F' (newP ρ' μ.length (some a)) H') (ρ ++ [a]) (Fup F' (newP ρ' μ.length (some a)) H') := ⟨Same.refl _, fun j b h => by rw [List.getElem?_append_left (List.getElem?_eq_some_iff.mp h).1]; exact h⟩
                have lt : (μ'.take μ.length).length = μ.length := by rw [List.length_take]; have := hb.1; omega
                refine p (ρ ++ [a]) (Fup F' (newP ρ' μ.length (some a)) H') _ H' (e1.trans ex2) ⟨r1.fr, by rw [List.length_append, List.length_append, r0.len, lt]; rfl, ?_, fun b hb2 => ?_, fun j b m h3 h4 => ?_⟩ (.loc ?_)
                · refine List.nodup_append.mpr ⟨r0.nd, by simp, fun b hb2 c hc2 => ?_⟩
                  rw [List.mem_singleton.mp hc2]
                  exact na b hb2
                · rcases List.mem_append.mp hb2 with h3 | h3
                  · exact r1.off b h3
                  · rw [List.mem_singleton.mp h3]
                    exact Fa
                · by_cases hj : j < ρ.length
                  · rw [List.getElem?_append_left hj] at h3
                    rw [List.getElem?_append_left (by rw [lt, ← r0.len]; exact hj)] at h4
                    exact (r1.ob j b m h3 h4).mono ex2
                  · have ej : j = ρ.length := by
                      have := (List.getElem?_eq_some_iff.mp h3).1
                      rw [List.length_append, List.length_singleton] at this
                      omega
                    subst ej
                    rw [List.getElem?_append_right (Nat.le_refl _), Nat.sub_self] at h3
                    cases (Option.some.inj h3)
                    rw [r0.len, List.getElem?_append_right (by rw [lt]; exact Nat.le_refl _), lt, Nat.sub_self] at h4
                    cases (Option.some.inj h4)
                    exact ⟨xs, h1, hes.mono ex2⟩
                · rw [← r0.len]
                  exact loc_new ρ a
      · exact p.elim
    | _ => exact leaveT_ok r0 p
  | _ => exact leaveT_ok r0 p
/-! ### promises -/
abbrev Den := List D → List M → Out D
/-- the promise that a function of trees makes -/
def spD (K : PySem.W.Frag) (den : Den) (n : Nat) : Sp := fun vs H Q E => ∃ ρ F μ ds, RH K ρ F μ H ∧ DRs K ρ F ds vs ∧ vs.length = n ∧ Post (RE K) K ρ F (den ds μ) Q E
def slots (nN : Nat) (ds : List D) : VS := ds.map some ++ List.replicate (nN - ds.length) none
noncomputable def dDef (nN : Nat) (own : Bool) (g : DSn) : Den := fun ds μ => if own = true then leaveO μ (g (slots nN ds) μ) else leaveT μ (g (slots nN ds) μ)
theorem slots_ok {F : Hp} {N : List Str} {ds : List D} {vs : List V} (h : DRs K ρ F ds vs) (hl : vs.length ≤ N.length) : VR K ρ F (slots N.length ds) (L2.start N vs) := by
  have l := h.length
  refine ⟨by simp only [slots, L2.start, List.length_append, List.length_map, List.length_replicate]; omega, fun i d hd => ?_⟩
  unfold slots at hd
  unfold L2.start
  by_cases hi : i < ds.length
  · rw [List.getElem?_append_left (by rw [List.length_map]; exact hi), List.getElem?_map] at hd
    cases e : ds[i]? with
    | none => rw [e] at hd; cases hd
    | some d' =>
      rw [e] at hd
      cases (Option.some.inj (Option.some.inj hd))
      obtain ⟨v, hv, rv⟩ := h.get e
      exact ⟨v, by rw [List.getElem?_append_left (by rw [List.length_map]; omega), List.getElem?_map, hv]; rfl, rv⟩
  · rw [List.getElem?_append_right (by rw [List.length_map]; omega), List.getElem?_replicate] at hd
    split at hd <;> cases hd
section
variable {P : Program} {w : World} {mg : Str → Option Value} {base : Heap}
/-- a def keeps what its body's function says -/
theorem fn_den {own : Bool} {x qual : Str} {st : Stmt} {f : Addr} {fd : FuncData} {N ps : List Str} {k : Nat} {g : DSn} (F : Fun K x qual st f fd) (Sc : FnScope N ps (defScope st))
    (hb : ∀ (cdv : Value) (A : Around) (outer : List Env) (s : Shared) (H : Hp) (E : XK), Room k (A.deeper (envOfC qual (defScope st) s.heap.objs.size f cdv)) →
      ∃ t, PSs (cxOf (L2.CX P w) P w K mg base N qual (defScope st) f cdv A outer s H E) (defBody st) t ∧ SSt K (WE fun cls d _ H => E cls d H) t g) :
    FnOk P w K mg base (L2.CX P w) (k + 1) f fd ps (spD K (dDef N.length own g) ps.length) := by
  refine F.okX Sc (fun vs H Q E h => ?_) (fun cdv A outer s H vs Q E hr h => ?_)
  · obtain ⟨_, _, _, _, _, _, e, _⟩ := h
    exact e
  · obtain ⟨t, ht, hs⟩ := hb cdv A outer s H E hr
    refine ⟨t, ht, ?_⟩
    obtain ⟨ρ, F, μ, ds, r, dr, hl, p⟩ := h
    have hpl : ps.length ≤ N.length := by
      have := congrArg List.length Sc.pre
      rw [List.length_take] at this
      omega
    refine hs ρ F _ μ _ H _ r (slots_ok dr (by omega)) trivial ?_
    unfold dDef at p
    split at p
    · exact leaveO_ok r p
    · exact leaveT_ok r p
/-- the same where nothing is being shown -/
theorem gn_den {own : Bool} {x qual : Str} {st : Stmt} {f : Addr} {fd : FuncData} {N ps : List Str} {k : Nat} {g : DSn} (F : Fun K x qual st f fd) (Sc : FnScope N ps (defScope st))
    (hb : ∀ (cdv : Value) (A : Around) (outer : List Env) (s : Shared) (H : Hp) (E : XK), Quiet A → Room k (A.deeper (envOfC qual (defScope st) s.heap.objs.size f cdv)) →
      ∃ t, PSs (cxOf (L2.CX P w) P w K mg base N qual (defScope st) f cdv A outer s H E) (defBody st) t ∧ SSt K (WE fun cls d _ H => E cls d H) t g) :
    GOk P w K mg base (L2.CX P w) (k + 1) f fd ps (spD K (dDef N.length own g) ps.length) := by
  refine g_body (fun_ex F) Sc (fun vs H Q E h => ?_) (fun cv A ou s H vs Q E qa hr h => ?_)
  · obtain ⟨_, _, _, _, _, _, e, _⟩ := h
    exact e
  · obtain ⟨t, ht, hs⟩ := hb cv A ou s H E qa hr
    refine ⟨t, ht, ?_⟩
    obtain ⟨ρ, F, μ, ds, r, dr, hl, p⟩ := h
    have hpl : ps.length ≤ N.length := by
      have := congrArg List.length Sc.pre
      rw [List.length_take] at this
      omega
    refine hs ρ F _ μ _ H _ r (slots_ok dr (by omega)) trivial ?_
    unfold dDef at p
    split at p
    · exact leaveO_ok r p
    · exact leaveT_ok r p
end
/-! ### calls -/
def dCall (den : Den) (n : Nat) (dds : List D) (da : DAn) : DEn := fun δ μ => (da δ μ).bind fun xs μ1 => if (xs ++ dds).length = n then den (xs ++ dds) μ1 else .bad
theorem se_call {den : Den} {n : Nat} {dvs : List V} {dds : List D} {W : WX} {S : L2.St → Prop} {ta : TA} {da : DAn} (hd : ∀ ρ F, DRs K ρ F dds dvs) (ha : SA K (WE W) S ta da) : SE K (WE W) S (tCallSD (spD K den n) dvs (WE W) ta) (dCall den n dds da) := by
  intro ρ F δ μ σ H Q rh v s p
  refine ha.thn rh v s p fun xs μ1 ρ1 F1 y H1 e0 ex0 r1 v1 q1 p1 => ?_
  split at p1
  · rename_i hl
    have dr := q1.append (hd ρ1 F1)
    exact ⟨ρ1, F1, μ1, _, r1, dr, by rw [← dr.length]; exact hl, p1⟩
  · exact p1.elim
section
variable {X : Cx} {CX : CXT} {k : Nat} {f : Addr} {fd : FuncData} {ps : List Str} {sp : Sp} {dvs : List V} {ds : List Value} {E : L2.St → XK} {x : Str} {p pos : Pos} {e : Expr} {es : List Expr} {t : TA}
/-- f(..) of a def that wants nothing to be shown -/
theorem pe_gSD (G : GOk X.prog X.w X.K X.mg X.base CX k f fd ps sp) (qa : Quiet X.A) (rm : Room k X.A) (hg : Gl X x) (hm : X.mg x = some (.ref f)) (hk : PySem.W.keepIn X.K (.ref f) = true) (hb : Binds X.K fd ps ds) (hd : Vals dvs ds) (hx : ∀ σ, PassesAt CX X σ (E σ))
    (ha : PA X (e :: es) t) (hdb : (x == ("__debug__" : Str)) = false := by decide) (he : starEach (e :: es) X.env = (false, eval e X.env) :: starEach es X.env := by rfl) (hpl : (backTo pos (starEach es X.env)).any (·.1) = false := by rfl) :
    PE X (.Call (.Name x p) (e :: es) [] pos) (tCallSD sp dvs E t) := by
  constructor
  intro pins s σ H Q I h
  refine wpAny_Call_Name_kw (ld_glob I hg hm ?_ hdb)
  refine PySem.W.callWith_K (h₀ := X.base) I.ok.mod.kin hk ?_ he hpl
  refine thn (ha.run pos pins s σ H _ I h) fun us s1 z => ?_
  obtain ⟨xs, H1, I1, r, q⟩ := z
  refine ⟨I1.kIn, ?_⟩
  have rr : Vals (xs ++ dvs) (us ++ ds) := Vals.append r hd
  have el : (us ++ ds).length = ps.length := (Vals.length rr).symm.trans (G.ln _ _ _ _ q)
  have c := G.go X.A X.stack s1 H1 ⟨us, []⟩ (us ++ ds) (xs ++ dvs) Q (E σ) qa rm I1.env0 (hb s1 us I1.kIn el) rr q
  refine wpAny_call (codeAny_mono c fun res s2 z => ?_)
  cases res with
  | error e => exact hx σ pins H1 s1 e s2 I1 z
  | ok fl => cases fl <;> first | exact I1.after z | exact False.elim z
end
end
end Dn
set_option Elab.async false
set_option linter.all false
set_option maxRecDepth 100000
set_option maxHeartbeats 1000000
set_option autoImplicit false
/-! Dn5: calls of built-in functions, methods of lists, errors raised and caught. -/
namespace Dn
open PySem PySem.Spec PyProof.Rows L2 Gk
section
variable {K : PySem.W.Frag} {E : L2.St → XK} {S : L2.St → Prop} {ta : TA} {da : DAn} {te tb : TE} {a b : DEn}
/-! ### built-in functions -/
abbrev FB := List D → List M → Out D
def CD (K : PySem.W.Frag) (r : List V → Hp → VK → Prop) (f : FB) : Prop := ∀ ρ F μ H xs vs (Q : VK) (E : XK), RH K ρ F μ H → DRs K ρ F xs vs → Post (RE K) K ρ F (f xs μ) Q E → r vs H Q
def dCB (f : FB) (da : DAn) : DEn := fun δ μ => (da δ μ).bind fun xs μ1 => f xs μ1
theorem se_cb {r : List V → Hp → VK → Prop} {f : FB} (h : CD K r f) (ha : SA K E S ta da) : SE K E S (tCB r ta) (dCB f da) := by
  intro ρ F δ μ σ H Q rh v s p
  refine ha.thn rh v s p fun xs μ1 ρ1 F1 y H1 e0 ex0 r1 v1 q1 p1 => ?_
  exact h ρ1 F1 μ1 H1 xs y Q (E σ) r1 q1 p1
/-- calls of one built-in thing, one of two ways -/
def COr (r r' : List V → Hp → VK → Prop) : List V → Hp → VK → Prop := fun xs H Q => r xs H Q ∨ r' xs H Q
theorem CallR.or {X : Cx} {f : Value} {r r' : List V → Hp → VK → Prop} (h : CallR X f r) (h' : CallR X f r') : CallR X f (COr r r') := fun pins s σ H xs us Q I rr q => by
  rcases q with q | q
  · exact h pins s σ H xs us Q I rr q
  · exact h' pins s σ H xs us Q I rr q
/-- one argument -/
def f1 (f : D → List M → Out D) : FB := fun xs μ => match xs with
  | [x] => f x μ
  | _ => .bad
def f2 (f : D → D → List M → Out D) : FB := fun xs μ => match xs with
  | [x, y] => f x y μ
  | _ => .bad
theorem cd1 {r : List V → Hp → VK → Prop} {f : D → List M → Out D} (h : ∀ ρ F μ H x v (Q : VK) (E : XK), RH K ρ F μ H → DR K ρ F x v → Post (RE K) K ρ F (f x μ) Q E → r [v] H Q) : CD K r (f1 f) := fun ρ F μ H xs vs Q E rh q p => by
  cases q with
  | nil => exact p.elim
  | cons q1 q2 =>
    cases q2 with
    | nil => exact h ρ F μ H _ _ Q E rh q1 p
    | cons _ _ => exact p.elim
theorem cd2 {r : List V → Hp → VK → Prop} {f : D → D → List M → Out D} (h : ∀ ρ F μ H x y v u (Q : VK) (E : XK), RH K ρ F μ H → DR K ρ F x v → DR K ρ F y u → Post (RE K) K ρ F (f x y μ) Q E → r [v, u] H Q) : CD K r (f2 f) := fun ρ F μ H xs vs Q E rh q p => by
  cases q with
  | nil => exact p.elim
  | cons q1 q2 =>
    cases q2 with
    | nil => exact p.elim
    | cons q2 q3 =>
      cases q3 with
      | nil => exact h ρ F μ H _ _ _ _ Q E rh q1 q2 p
      | cons _ _ => exact p.elim
/-- len -/
def lenS (μ : List M) : D → Option Nat
  | .str x => if x.length ≤ sizeLine then some x.length else none
  | d => (seqS μ d).map List.length
def fLen : D → List M → Out D := fun x μ => match lenS μ x with
  | some n => .ok (.int n) μ
  | none => .bad
theorem lenS_V {ρ : List Addr} {F H : Hp} {μ : List M} (r : RH K ρ F μ H) {d : D} {v : V} {n : Nat} (h : DR K ρ F d v) (q : lenS μ d = some n) : LenV K v H n := by
  have seqs : ∀ ds : List D, seqS μ d = some ds → n = ds.length → LenV K v H n := fun ds z e => by
    obtain ⟨a, xs, rfl, sq, dr⟩ := seqS_sq r h z
    rw [dr.length] at e
    rcases sq with sq | sq
    · exact .inl ⟨xs, sq, e⟩
    · exact .inr ⟨xs, sq, e⟩
  have gen : (seqS μ d).map List.length = some n → LenV K v H n := fun q => by
    cases z : seqS μ d with
    | none => rw [z] at q; cases q
    | some ds =>
      rw [z] at q
      cases q
      exact seqs ds z rfl
  cases d with
  | str x =>
    cases h
    have q2 : (if x.length ≤ sizeLine then some x.length else none) = some n := q
    by_cases z : x.length ≤ sizeLine
    · rw [if_pos z] at q2
      cases q2
      exact ⟨z, rfl⟩
    · rw [if_neg z] at q2
      cases q2
  | _ => exact gen q
abbrev rLenV (K : PySem.W.Frag) : List V → Hp → VK → Prop := fun xs H Q => ∃ x n, xs = [x] ∧ LenV K x H n ∧ Q (.int (n : Nat)) H
theorem cd_len : CD K (rLenV K) (f1 fLen) := cd1 fun ρ F μ H x v Q E rh q p => by
  unfold fLen at p
  cases e : lenS μ x with
  | none => rw [e] at p; exact p.elim
  | some n =>
    rw [e] at p
    exact ⟨v, n, rfl, lenS_V rh q e, p ρ F _ H (.refl _ _) rh (.int _)⟩
/-- int of an int, a bool -/
def fInt : D → List M → Out D := fun x μ => match x with
  | .int i => .ok (.int i) μ
  | .bl k => .ok (.int (if k then 1 else 0)) μ
  | _ => .bad
abbrev rInt1 : List V → Hp → VK → Prop := fun xs H Q => (∃ i, xs = [.int i] ∧ Q (.int i) H) ∨ ∃ k, xs = [.bl k] ∧ Q (.int (if k then 1 else 0)) H
theorem cd_int : CD K rInt1 (f1 fInt) := cd1 fun ρ F μ H x v Q E rh q p => by
  cases x <;> first | exact p.elim | skip
  · cases q; exact .inr ⟨_, rfl, p ρ F _ H (.refl _ _) rh (.int _)⟩
  · cases q; exact .inl ⟨_, rfl, p ρ F _ H (.refl _ _) rh (.int _)⟩
def fAbs : D → List M → Out D := fun x μ => match x with
  | .int i => .ok (.int (if i < 0 then -i else i)) μ
  | _ => .bad
abbrev rAbs : List V → Hp → VK → Prop := fun xs H Q => ∃ i, xs = [.int i] ∧ Q (.int (if i < 0 then -i else i)) H
theorem cd_abs : CD K rAbs (f1 fAbs) := cd1 fun ρ F μ H x v Q E rh q p => by
  cases x <;> first | exact p.elim | skip
  cases q
  exact ⟨_, rfl, p ρ F _ H (.refl _ _) rh (.int _)⟩
def fMax2 : D → D → List M → Out D := fun x y μ => match x, y with
  | .int i, .int j => .ok (.int (if j > i then j else i)) μ
  | _, _ => .bad
def fMin2 : D → D → List M → Out D := fun x y μ => match x, y with
  | .int i, .int j => .ok (.int (if j < i then j else i)) μ
  | _, _ => .bad
abbrev rMax2I : List V → Hp → VK → Prop := fun xs H Q => ∃ i j, xs = [.int i, .int j] ∧ Q (.int (if j > i then j else i)) H
abbrev rMin2I : List V → Hp → VK → Prop := fun xs H Q => ∃ i j, xs = [.int i, .int j] ∧ Q (.int (if j < i then j else i)) H
theorem cd_max2 : CD K rMax2I (f2 fMax2) := cd2 fun ρ F μ H x y v u Q E rh q1 q2 p => by
  cases x <;> first | exact p.elim | skip
  cases y <;> first | exact p.elim | skip
  cases q1
  cases q2
  exact ⟨_, _, rfl, p ρ F _ H (.refl _ _) rh (.int _)⟩
theorem cd_min2 : CD K rMin2I (f2 fMin2) := cd2 fun ρ F μ H x y v u Q E rh q1 q2 p => by
  cases x <;> first | exact p.elim | skip
  cases y <;> first | exact p.elim | skip
  cases q1
  cases q2
  exact ⟨_, _, rfl, p ρ F _ H (.refl _ _) rh (.int _)⟩
def fGcd : D → D → List M → Out D := fun x y μ => match x, y with
  | .int i, .int j => .ok (.int ((Nat.gcd i.natAbs j.natAbs : Nat) : Int)) μ
  | _, _ => .bad
theorem cd_gcd : CD K rGcd (f2 fGcd) := cd2 fun ρ F μ H x y v u Q E rh q1 q2 p => by
  cases x <;> first | exact p.elim | skip
  cases y <;> first | exact p.elim | skip
  cases q1
  cases q2
  exact ⟨_, _, rfl, p ρ F _ H (.refl _ _) rh (.int _)⟩
/-- list(x), tuple(x) -/
def fList : D → List M → Out D := fun x μ => match seqS μ x with
  | some ds => .ok (.loc μ.length) (μ ++ [.lst ds])
  | none => .bad
def fTuple : D → List M → Out D := fun x μ => match seqS μ x with
  | some ds => .ok (.tup ds) μ
  | none => .bad
abbrev rListOf (K : PySem.W.Frag) : List V → Hp → VK → Prop := fun xs H Q => ∃ p ys, xs = [.ref p] ∧ (SqL K H p ys ∨ SqT K H p ys) ∧ ∀ l, H l = none → Q (.ref l) (upd H l (.lst ys))
abbrev rTupleOf (K : PySem.W.Frag) : List V → Hp → VK → Prop := fun xs H Q => ∃ p ys, xs = [.ref p] ∧ ((SqL K H p ys ∧ ∀ l, H l = none → Q (.ref l) (upd H l (.tup ys))) ∨ (SqT K H p ys ∧ Q (.ref p) H))
theorem cd_list : CD K (rListOf K) (f1 fList) := cd1 fun ρ F μ H x v Q E rh q p => by
  unfold fList at p
  cases e : seqS μ x with
  | none => rw [e] at p; exact p.elim
  | some ds =>
    rw [e] at p
    obtain ⟨t, xs, rfl, sq, dr⟩ := seqS_sq rh q e
    refine ⟨t, xs, rfl, sq, fun l hl => ?_⟩
    obtain ⟨r2, e2⟩ := rh.alloc (o := .lst xs) (m := .lst ds) hl ⟨xs, rfl, dr⟩
    exact p _ F _ _ e2 r2 (.loc (by rw [← rh.len]; exact loc_new _ _))
theorem cd_tuple : CD K (rTupleOf K) (f1 fTuple) := cd1 fun ρ F μ H x v Q E rh q p => by
  unfold fTuple at p
  cases e : seqS μ x with
  | none => rw [e] at p; exact p.elim
  | some ds =>
    rw [e] at p
    have mk : ∀ t xs, v = .ref t → SqL K H t xs → DRs K ρ F ds xs → rTupleOf K [v] H Q := fun t xs hv sq dr => by
      subst hv
      refine ⟨t, xs, rfl, .inl ⟨sq, fun l hl => ?_⟩⟩
      obtain ⟨r2, e2⟩ := rh.grow (o := .tup xs) hl
      exact p _ _ _ _ e2 r2 (.tup (SqT.of upd_same) (dr.mono e2))
    cases x with
    | tup es =>
      cases e
      cases q with
      | tup sq dr => exact ⟨_, _, rfl, .inr ⟨sqT_same rh.fr sq, p ρ F _ H (.refl _ _) rh (.tup sq dr)⟩⟩
    | lst es =>
      cases e
      cases q with
      | lst sq dr => exact mk _ _ rfl (Same.seq rh.fr sq) dr
    | loc k =>
      cases q with
      | loc z =>
        rw [seqS] at e
        cases y : μ[k]? with
        | none => rw [y] at e; cases e
        | some m =>
          cases m with
          | ins C fs => rw [y] at e; cases e
          | dct ks => rw [y] at e; cases e
          | lst es =>
            rw [y] at e
            cases e
            obtain ⟨xs, h1, h2⟩ := rh.ob _ _ _ z y
            exact mk _ _ rfl (SqL.of h1) h2
    | _ => cases e
/-- repr of data -/
def okShow (d : PyData) : Bool := d.showable && !d.hasDict && decide (d.depth ≤ 50) && decide (d.shown.length ≤ sizeLine)
def okShowD (d : PyData) : Bool := d.showable && decide (d.depth ≤ 50) && decide (d.shown.length ≤ sizeLine)
def fRepr : D → List M → Out D := fun x μ => match pyS μ x with
  | some d => if okShowD d then .ok (.str d.shown) μ else .bad
  | none => .bad
def rReprD (K : PySem.W.Frag) : List V → Hp → VK → Prop := fun xs H Q => ∃ (x : V) (d : PyData), xs = [x] ∧ Dq K H x d ∧ okShowD d = true ∧ Q (.str d.shown) H
theorem cd_repr : CD K (rReprD K) (f1 fRepr) := cd1 fun ρ F μ H x v Q E rh q p => by
  unfold fRepr at p
  cases e : pyS μ x with
  | none => rw [e] at p; exact p.elim
  | some d =>
    rw [e] at p
    dsimp only at p
    split at p
    · rename_i z
      exact ⟨v, d, rfl, pyS_dp rh q e, z, p ρ F _ H (.refl _ _) rh (.str _)⟩
    · exact p.elim
theorem call_reprD {X : Cx} (Sy : SysK X.K) (qa : Quiet X.A) (hu : X.A.units + 64 < cLine) : CallR X (.builtin "repr") (rReprD X.K) := by
  intro pins s σ H xs us Q I r h
  obtain ⟨x, d, rfl, hd, fi, q⟩ := h
  obtain ⟨u, rfl, ru⟩ := vals1 r
  obtain ⟨as, rd, na⟩ := Dq.reads Sy I d x u hd ru
  unfold okShowD at fi
  simp only [Bool.and_eq_true, decide_eq_true_eq] at fi
  obtain ⟨⟨sh, dp⟩, sz⟩ := fi
  have keep : ∀ (h' : Heap) (t : Tok) (tk : Nat), (∀ b o, s.heap.get? b = some o → h'.get? b = some o) →
      EP X pins σ Q (.str d.shown t) { s with heap := h', toks := tk } :=
    fun h' t tk k => ⟨.str d.shown, H, I.kept (t' := tk) k, ⟨t, rfl⟩, q⟩
  have flat : ∀ (t : Tok) (tk : Nat), EP X pins σ Q (.str d.shown t) { s with toks := tk } :=
    fun t tk => ⟨.str d.shown, H, I.tok tk, ⟨t, rfl⟩, q⟩
  cases d with
  | none => cases rd; exact PySem.P.repr_of_none (flat _ _)
  | bool b => cases rd; exact PySem.P.repr_of_bool (flat _ _)
  | int i =>
    cases rd
    exact PySem.P.repr_of_int (of_decide_eq_true (by simpa only [PyData.showable] using sh)) (flat _ _)
  | str y => cases rd; exact PySem.P.repr_of_str (flat _ _) sz
  | list ds =>
    cases rd with
    | list a1 a2 a3 a4 => exact repr_of_reads' (.list a1 a2 a3 a4) sh (fun _ => na) qa (by omega) (fun _ _ z => z) (fun h' t tk k => keep h' t tk k) sz
  | tuple ds =>
    cases rd with
    | tuple a1 a2 a3 a4 => exact repr_of_reads' (.tuple a1 a2 a3 a4) sh (fun _ => na) qa (by omega) (fun _ _ z => z) (fun h' t tk k => keep h' t tk k) sz
  | dict kv =>
    cases rd with
    | dict a1 a2 a3 a4 a5 => exact repr_of_reads' (.dict a1 a2 a3 a4 a5) sh (fun _ => na) qa (by omega) (fun _ _ z => z) (fun h' t tk k => keep h' t tk k) sz
/-! ### isinstance -/
def tyS (μ : List M) : D → Option String
  | .non => some "NoneType"
  | .bl _ => some "bool"
  | .int _ => some "int"
  | .str _ => some "str"
  | .tup _ => some "tuple"
  | .lst _ => some "list"
  | .dct _ => some "dict"
  | .loc k => match μ[k]? with
    | some (.lst _) => some "list"
    | some (.dct _) => some "dict"
    | _ => none
  | _ => none
def tyNames : List String := ["NoneType", "bool", "int", "str", "list", "tuple", "dict"]
theorem tyS_names {μ : List M} {d : D} {n : String} (h : tyS μ d = some n) : n ∈ tyNames := by
  cases d with
  | loc k =>
    rw [tyS] at h
    cases y : μ[k]? with
    | none => rw [y] at h; cases h
    | some m =>
      rw [y] at h
      cases m with
      | lst ds => cases h; decide
      | dct ds => cases h; decide
      | ins C fs => cases h
  | ins C fs => cases h
  | glb v => cases h
  | _ => cases h; decide
theorem tyx_l {H : Hp} {a : Addr} {xs : List V} (h : SqL K H a xs) : TyX K H (.ref a) (.type "list") := by
  rcases h with (h | ⟨o, h⟩) | ⟨o, _, _, h, c, _⟩
  · exact .base (.lst h)
  · exact .base (.frz h)
  · exact .kList h c
theorem tyx_t {H : Hp} {a : Addr} {xs : List V} (h : SqT K H a xs) : TyX K H (.ref a) (.type "tuple") := by
  rcases h with (h | ⟨o, h⟩) | ⟨o, _, _, h, c, _⟩
  · exact .base (.tup h)
  · exact .fTuple h
  · exact .kTuple h c
theorem tyS_x {ρ : List Addr} {F H : Hp} {μ : List M} (r : RH K ρ F μ H) {d : D} {v : V} {n : String} (h : DR K ρ F d v) (q : tyS μ d = some n) : TyX K H v (.type n) := by
  cases d with
  | non => cases h; cases q; exact .base .non
  | bl b => cases h; cases q; exact .base (.bl b)
  | int i => cases h; cases q; exact .base (.int i)
  | str x => cases h; cases q; exact .base (.str x)
  | tup ds => cases h with
    | tup a b => cases q; exact tyx_t (sqT_same r.fr a)
  | lst ds => cases h with
    | lst a b => cases q; exact tyx_l (Same.seq r.fr a)
  | dct ks => cases h with
    | dct a b => cases q; exact .base (.dK (r.fr _ _ a))
  | ins C fs => cases q
  | glb v => cases q
  | loc k =>
    cases h with
    | loc z =>
      rw [tyS] at q
      cases y : μ[k]? with
      | none => rw [y] at q; cases q
      | some m =>
        rw [y] at q
        cases m with
        | lst ds =>
          cases q
          obtain ⟨xs, e, _⟩ := r.ob _ _ _ z y
          exact tyx_l (SqL.of e)
        | dct ds =>
          cases q
          obtain ⟨xs, e, _⟩ := r.ob _ _ _ z y
          exact .base (.dK e)
        | ins C fs => cases q
/-- isinstance(x, T), isinstance(x, (T, ..)) of built-in types that are written -/
def fIsT (Ts : List String) : D → List M → Out D := fun x μ => match tyS μ x with
  | some n => if Ts.all okT then .ok (.bl (Ts.any fun T => isT T n)) μ else .bad
  | none => .bad
def dIsT (Ts : List String) (a : DEn) : DEn := fun δ μ => (a δ μ).bind fun x μ1 => fIsT Ts x μ1
def tyArgs : List String → TA
  | [] => tNil
  | T :: Ts => tCons (tC (.ty T)) (tyArgs Ts)
theorem tyArgs_run {σ : L2.St} {H : Hp} : ∀ {Ts : List String} {Q : List V → Hp → Prop}, Q (Ts.map V.ty) H → tyArgs Ts σ H Q
  | [], _, h => h
  | T :: Ts, Q, h => by
    show tyArgs Ts σ H _
    exact tyArgs_run (Ts := Ts) h
theorem kit_ns (n : String) (hn : n ∈ tyNames) : ∀ (Ts : List String), (∀ T ∈ Ts, okT T = true) → PySem.W.kitAny K (.type n) (Ts.map Value.type) = some (Ts.any fun T => isT T n)
  | [], _ => kitAny_nil
  | T :: Ts, h => kitAny_cons (kit_ty (kit_tab n hn T (by have := h T List.mem_cons_self; unfold okT at this; simpa using this))) (fun z => by
      rw [List.any_cons, z, Bool.false_or]
      exact kit_ns n hn Ts fun U hU => h U (List.mem_cons_of_mem _ hU)) fun z => by rw [List.any_cons, z, Bool.true_or]
theorem se_isT {Ts : List String} (hl : Ts.length ≤ 10) (ha : SE K E S te a) : SE K E S (tCB (rIsiT K) (tCons te (tCons (tTup (tyArgs Ts)) tNil))) (dIsT Ts a) := by
  intro ρ F δ μ σ H Q rh v s p
  refine ha.thn rh v s p fun x μ1 ρ1 F1 y H1 e0 ex0 r1 v1 q1 p1 => ?_
  refine tyArgs_run ⟨by rw [List.length_map, sizeLine_eq]; omega, fun t ht => ?_⟩
  unfold fIsT at p1
  cases e : tyS μ1 x with
  | none => rw [e] at p1; exact p1.elim
  | some n =>
    rw [e] at p1
    dsimp only at p1
    split at p1
    · rename_i ok
      obtain ⟨r2, e2⟩ := r1.grow (o := .tup (Ts.map V.ty)) ht
      exact ⟨y, t, _, _, _, _, rfl, upd_same, clsV_all Ts, tyS_x r2 (q1.mono e2) e, kit_ns n (tyS_names e) Ts (List.all_eq_true.mp ok), p1 _ _ _ _ e2 r2 (.bl _)⟩
    · exact p1.elim
theorem se_is1 {T : String} (ha : SE K E S te a) : SE K E S (tCB (rIsi K) (tCons te (tCons (tC (.ty T)) tNil))) (dIsT [T] a) := by
  intro ρ F δ μ σ H Q rh v s p
  refine ha.thn rh v s p fun x μ1 ρ1 F1 y H1 e0 ex0 r1 v1 q1 p1 => ?_
  unfold fIsT at p1
  cases e : tyS μ1 x with
  | none => rw [e] at p1; exact p1.elim
  | some n =>
    rw [e] at p1
    dsimp only at p1
    split at p1
    · rename_i ok
      have okT1 : okT T = true := by simpa using ok
      have k := kit_ty (K := K) (kit_tab n (tyS_names e) T (by unfold okT at okT1; simpa using okT1))
      refine ⟨y, .ty T, _, _, _, rfl, .ty T, tyS_x r1 q1 e, k, ?_⟩
      have q := p1 _ _ _ _ (.refl _ _) r1 (.bl _)
      simpa using q
    · exact p1.elim
/-! ### methods of lists -/
/-- xs.append(x), by the list's place in the store -/
def FM (K : PySem.W.Frag) (r : V → List V → Hp → VK → Prop) (f : D → List D → List M → Out D) : Prop := ∀ ρ F μ H o xs w vs (Q : VK) (E : XK), RH K ρ F μ H → DR K ρ F o w → DRs K ρ F xs vs → Post (RE K) K ρ F (f o xs μ) Q E → r w vs H Q
def fAppend : D → List D → List M → Out D := fun o xs μ => match o, xs with
  | .loc k, [x] => (match μ[k]? with
    | some (.lst ds) => if ds.length < sizeLine then .ok .non (μ.set k (.lst (ds ++ [x]))) else .bad
    | _ => .bad)
  | _, _ => .bad
theorem fm_append : FM K rAppend fAppend := fun ρ F μ H o xs w vs Q E rh q1 q2 p => by
  cases o <;> first | exact p.elim | skip
  rename_i k
  cases q2 with
  | nil => exact p.elim
  | cons a b =>
    cases b with
    | cons _ _ => exact p.elim
    | nil =>
      unfold fAppend at p
      dsimp only at p
      cases e : μ[k]? with
      | none => rw [e] at p; exact p.elim
      | some m =>
        cases m with
        | ins C fs => rw [e] at p; exact p.elim
        | dct ks => rw [e] at p; exact p.elim
        | lst ds =>
          rw [e] at p
          dsimp only at p
          split at p
          · cases q1 with
            | loc z =>
              obtain ⟨xs, h1, h2⟩ := rh.ob _ _ _ z e
              exact ⟨_, xs, _, rfl, rfl, h1, by rw [← h2.length]; assumption, p ρ F _ _ (.refl _ _) (rh.put (m := .lst _) z ⟨_, rfl, h2.append (.cons a .nil)⟩) .non⟩
          · exact p.elim
def fInsert : D → List D → List M → Out D := fun o xs μ => match o, xs with
  | .loc k, [.int i, x] => (match μ[k]? with
    | some (.lst ds) => if ds.length < sizeLine ∧ 0 ≤ i ∧ i ≤ ds.length then .ok .non (μ.set k (.lst (ds.take i.toNat ++ [x] ++ ds.drop i.toNat))) else .bad
    | _ => .bad)
  | _, _ => .bad
end
end Dn
set_option Elab.async false
set_option linter.all false
set_option maxRecDepth 100000
set_option maxHeartbeats 1000000
set_option autoImplicit false
/-! Dn6: instances made, their methods, properties, fields; errors raised and caught. -/
namespace Dn
open PySem PySem.Spec PyProof.Rows L2 Gk
theorem DRf.look_none {K : PySem.W.Frag} {ρ : List Addr} {F : Hp} {f : Str} : ∀ {ds : List (Str × D)} {vs : List (Str × V)}, DRf K ρ F ds vs → ds.lookup f = none → vs.lookup f = none
  | _, _, .nil, _ => rfl
  | (x, d) :: ds, (_, v) :: vs, .cons r t, e => by
    rw [List.lookup_cons] at e
    rw [List.lookup_cons]
    cases q : f == x with
    | true => rw [q] at e; cases e
    | false =>
      rw [q] at e
      exact DRf.look_none t e
/-! ### readings whose errors are wished for at the slots -/
def tMakeSD (C : Addr) (sp : Sp) (dvs : List V) (E : L2.St → XK) (t : TA) : TE := fun σ H Q => t σ H fun vs H1 => ∀ x dx, H1 x = none → H1 dx = none → dx ≠ x →
  sp (.ref x :: (vs ++ dvs)) (upd (upd H1 dx (.own x)) x (.ins C dx [])) (fun v H2 => v = .non ∧ Q (.ref x) H2) (E σ)
def tMethSD (C : Addr) (m : Str) (sp : Sp) (dvs : List V) (E : L2.St → XK) (ta : TE) (t : TA) : TE := fun σ H Q => ta σ H fun x H1 => ∃ a dx fs, x = .ref a ∧ H1 a = some (.ins C dx fs) ∧ fs.lookup m = none ∧
  t σ H1 fun vs H2 => sp (x :: (vs ++ dvs)) H2 Q (E σ)
section
variable {X : Cx} {CX : CXT} {k : Nat} {f C : Addr} {fd : FuncData} {ps : List Str} {sp : Sp} {dvs : List V} {ds : List Value} {E : L2.St → XK} {x m : Str} {p pos apos : Pos} {e o : Expr} {es : List Expr} {ta : TE} {t : TA}
theorem pe_makeSD (M : Mk X.K C f) (G : FnOk X.prog X.w X.K X.mg X.base CX k f fd ps sp) (rm : Room (k + 1) X.A) (hg : Gl X x) (hm : X.mg x = some (.ref C)) (hb : Binds X.K fd ps ds) (hd : Vals dvs ds) (hx : ∀ σ, PassesAt CX X σ (E σ))
    (ha : PA X (e :: es) t) (hdb : (x == ("__debug__" : Str)) = false := by decide) (he : starEach (e :: es) X.env = (false, eval e X.env) :: starEach es X.env := by rfl) (hpl : (backTo pos (starEach es X.env)).any (·.1) = false := by rfl) :
    PE X (.Call (.Name x p) (e :: es) [] pos) (tMakeSD C sp dvs E t) := by
  constructor
  intro pins s σ H Q I h
  refine wpAny_Call_Name_kw (ld_glob I hg hm ?_ hdb)
  refine PySem.W.callWith_K (h₀ := X.base) I.ok.mod.kin M.kp ?_ he hpl
  refine thn (ha.run pos pins s σ H _ I h) fun us s1 z => ?_
  obtain ⟨vs, H1, I1, r, q⟩ := z
  refine ⟨I1.kIn, ?_⟩
  have sz := I1.hok
  have hq := q (s1.heap.objs.size + 1) s1.heap.objs.size (sz.fresh (Nat.le_succ _)) (sz.fresh (Nat.le_refl _)) (Nat.ne_of_lt (Nat.lt_succ_self _))
  have I2 := Inv.made (C := C) I1
  have r2 : Vals (V.ref (s1.heap.objs.size + 1) :: (vs ++ dvs)) (Value.ref (s1.heap.objs.size + 1) :: (us ++ ds)) := .cons rfl (Vals.append r hd)
  have hl : (Value.ref (s1.heap.objs.size + 1) :: us ++ ds).length = ps.length := by
    have e1 := r2.length
    rw [G.len _ _ _ _ hq] at e1
    exact e1.symm
  have c := G.run _ X.stack _ _ ⟨Value.ref (s1.heap.objs.size + 1) :: us, []⟩ (Value.ref (s1.heap.objs.size + 1) :: (us ++ ds)) _ _ (E σ) (rm.make C us []) (I2.env0.make C us []) (hb _ (Value.ref (s1.heap.objs.size + 1) :: us) I2.kIn hl) r2 hq
  refine wpAny_call (make_map (f := f) I1.kIn M.makes M.init (beq_iff_eq.mp M.fn) (codeAny_mono c fun res s2 z => ?_))
  cases res with
  | error er => exact hx σ pins _ _ er s2 I2 z
  | ok fl =>
    cases fl with
    | ret u =>
      obtain ⟨v, H3, I3, rv, ev, q3⟩ := I2.after z
      rw [ev] at rv
      exact ⟨rv, ⟨V.ref (s1.heap.objs.size + 1), H3, I3, rfl, q3⟩⟩
    | next => exact False.elim z
    | brk => exact False.elim z
    | cont => exact False.elim z
theorem pe_methSD {pl : Sem Bool} (he : PE X o ta) (c : Cls X.K C) (hm : Meth X.K C m f) (G : FnOk X.prog X.w X.K X.mg X.base CX k f fd ps sp) (rm : Room k X.A) (hb : Binds X.K fd ps ds) (hd : Vals dvs ds) (hx : ∀ σ, PassesAt CX X σ (E σ)) (ha : PA X (e :: es) t)
    (hst : starEach (e :: es) X.env = (false, eval e X.env) :: starEach es X.env := by rfl) (hpl : (backTo pos (starEach es X.env)).any (·.1) = false := by rfl)
    (ht : eval (.Call (.Attribute o m apos) (e :: es) [] pos) X.env = (do
      let ov ← eval o X.env
      standAt apos.atName
      let (f, first) ← holding [ov] (getMethod ov m pl)
      callWith pos f first (backTo pos (starEach (e :: es) X.env)) (backToKw pos (keywordEach [] X.env))) := by rfl) :
    PE X (.Call (.Attribute o m apos) (e :: es) [] pos) (tMethSD C m sp dvs E ta t) := by
  constructor
  intro pins s σ H Q I h
  refine PySem.W.methodCall_KW (pl := pl) (thn (he.run pins s σ H _ I h) fun u s1 z => ?_) ht
  obtain ⟨y, H1, I1, rx, a, dx, fs, ex, ea, l, q⟩ := z
  subst ex
  obtain rfl : u = Value.ref a := rx
  refine getmeth_ok I1 ea c hm l ?_
  refine PySem.W.callWith_K (first := [.ref a]) (h₀ := X.base) I.ok.mod.kin hm.kp (thn (ha.run pos pins s1 σ H1 _ I1 q) fun us s2 z => ?_) hst hpl
  obtain ⟨vs, H2, I2, r, q2⟩ := z
  exact ⟨I2.kIn, run_fnSD (us := .ref a :: us) (vs := .ref a :: vs) G rm hb hd (hx σ) I2 (.cons rfl r) q2⟩
theorem pe_methSD0 {pl : Sem Bool} (he : PE X o ta) (c : Cls X.K C) (hm : Meth X.K C m f) (G : FnOk X.prog X.w X.K X.mg X.base CX k f fd ps sp) (rm : Room k X.A) (hb : Binds X.K fd ps ds) (hd : Vals dvs ds) (hx : ∀ σ, PassesAt CX X σ (E σ))
    (ht : eval (.Call (.Attribute o m apos) [] [] pos) X.env = (do
      let ov ← eval o X.env
      standAt apos.atName
      let (f, first) ← holding [ov] (getMethod ov m pl)
      callWith pos f first (backTo pos (starEach [] X.env)) (backToKw pos (keywordEach [] X.env))) := by rfl) :
    PE X (.Call (.Attribute o m apos) [] [] pos) (tMethSD C m sp dvs E ta tNil) := by
  constructor
  intro pins s σ H Q I h
  refine PySem.W.methodCall_KW (pl := pl) (thn (he.run pins s σ H _ I h) fun u s1 z => ?_) ht
  obtain ⟨y, H1, I1, rx, a, dx, fs, ex, ea, l, q⟩ := z
  subst ex
  obtain rfl : u = Value.ref a := rx
  refine getmeth_ok I1 ea c hm l ?_
  exact PySem.W.callWith_K0 (first := [.ref a]) I1.kIn hm.kp (run_fnSD (us := [.ref a]) (vs := [.ref a]) G rm hb hd (hx σ) I1 (.cons rfl .nil) q)
end
section
variable {K : PySem.W.Frag} {S : L2.St → Prop} {W : WX} {ta : TA} {da : DAn} {te tb : TE} {a b : DEn}
/-! ### instances -/
/-- the class and the fields of an instance -/
def insS (μ : List M) : D → Option (Addr × List (Str × D))
  | .ins C fs => some (C, fs)
  | .loc k => match μ[k]? with
    | some (.ins C fs) => some (C, fs)
    | _ => none
  | _ => none
theorem insS_ok {ρ : List Addr} {F H : Hp} {μ : List M} (r : RH K ρ F μ H) {d : D} {v : V} {C : Addr} {fs : List (Str × D)} (h : DR K ρ F d v) (e : insS μ d = some (C, fs)) : ∃ a dx gs, v = .ref a ∧ H a = some (.ins C dx gs) ∧ DRf K ρ F fs gs := by
  cases d with
  | ins D es => cases h with
    | ins x y => cases e; exact ⟨_, _, _, rfl, r.fr _ _ x, y⟩
  | loc k =>
    cases h with
    | loc z =>
      rw [insS] at e
      cases y : μ[k]? with
      | none => rw [y] at e; cases e
      | some m =>
        cases m with
        | lst ds => rw [y] at e; cases e
        | dct ds => rw [y] at e; cases e
        | ins D es =>
          rw [y] at e
          cases e
          obtain ⟨dx, gs, h1, h2⟩ := r.ob _ _ _ z y
          exact ⟨_, dx, gs, rfl, h1, h2⟩
  | _ => cases e
def dMeth (C : Addr) (m : Str) (den : Den) (n : Nat) (dds : List D) (o : DEn) (da : DAn) : DEn := fun δ μ => (o δ μ).bind fun x μ1 => match insS μ1 x with
  | some (C', fs) => if C' = C ∧ fs.lookup m = none then (da δ μ1).bind fun xs μ2 => if (xs ++ dds).length + 1 = n then den (x :: (xs ++ dds)) μ2 else .bad else .bad
  | none => .bad
theorem se_meth {C : Addr} {m : Str} {den : Den} {n : Nat} {dvs : List V} {dds : List D} (hd : ∀ ρ F, DRs K ρ F dds dvs) (ho : SE K (WE W) S te a) (ha : SA K (WE W) S ta da) : SE K (WE W) S (tMethSD C m (spD K den n) dvs (WE W) te ta) (dMeth C m den n dds a da) := by
  intro ρ F δ μ σ H Q rh v s p
  refine ho.thn rh v s p fun x μ1 ρ1 F1 y H1 e0 ex0 r1 v1 q1 p1 => ?_
  cases e : insS μ1 x with
  | none => rw [e] at p1; exact p1.elim
  | some c =>
    obtain ⟨C', fs⟩ := c
    rw [e] at p1
    dsimp only at p1
    split at p1
    · rename_i hc
      obtain ⟨rfl, hn⟩ := hc
      obtain ⟨t, dx, gs, rfl, h1, h2⟩ := insS_ok r1 q1 e
      refine ⟨t, dx, gs, rfl, h1, h2.look_none hn, ?_⟩
      refine ha.thn r1 v1 s p1 fun xs μ2 ρ2 F2 ys H2 e3 ex3 r2 v2 q2 p2 => ?_
      split at p2
      · rename_i hl
        have dr := q2.append (hd ρ2 F2)
        exact ⟨ρ2, F2, μ2, _, r2, .cons (q1.mono ex3) dr, by rw [List.length_cons, ← dr.length]; exact hl, p2⟩
      · exact p2.elim
    · exact p1.elim
def dProp (C : Addr) (den : Den) (o : DEn) : DEn := fun δ μ => (o δ μ).bind fun x μ1 => match insS μ1 x with
  | some (C', _) => if C' = C then (match den [x] μ1 with
    | .ok y μ2 => .ok y μ2
    | _ => .bad) else .bad
  | none => .bad
theorem se_prop {C : Addr} {den : Den} {E : L2.St → XK} (ho : SE K E S te a) : SE K E S (tProp C (spD K den 1) [] E0 te) (dProp C den a) := by
  intro ρ F δ μ σ H Q rh v s p
  refine ho.thn rh v s p fun x μ1 ρ1 F1 y H1 e0 ex0 r1 v1 q1 p1 => ?_
  cases e : insS μ1 x with
  | none => rw [e] at p1; exact p1.elim
  | some c =>
    obtain ⟨C', fs⟩ := c
    rw [e] at p1
    dsimp only at p1
    split at p1
    · rename_i hc
      subst hc
      obtain ⟨t, dx, gs, rfl, h1, h2⟩ := insS_ok r1 q1 e
      refine ⟨t, dx, gs, rfl, h1, ρ1, F1, μ1, [x], r1, .cons q1 .nil, rfl, ?_⟩
      cases e2 : den [x] μ1 with
      | ok y μ2 => rw [e2] at p1; exact p1
      | exc z μ2 => rw [e2] at p1; exact p1.elim
      | bad => rw [e2] at p1; exact p1.elim
    · exact p1.elim
/-- C(..): a new instance, then __init__; what is made does not change any more -/
noncomputable def dMake (C : Addr) (den : Den) (n : Nat) (dds : List D) (da : DAn) : DEn := fun δ μ => (da δ μ).bind fun xs μ1 => if (xs ++ dds).length + 1 = n then (match den (.loc μ1.length :: (xs ++ dds)) (μ1 ++ [.ins C []]) with
  | .ok .non μ2 => leaveT μ1 (.ret (.loc μ1.length) μ2)
  | .exc z μ2 => leaveT μ1 (.exc z [] μ2)
  | _ => .bad) else .bad
theorem se_make {C : Addr} {den : Den} {n : Nat} {dvs : List V} {dds : List D} (hd : ∀ ρ F, DRs K ρ F dds dvs) (ha : SA K (WE W) S ta da) : SE K (WE W) S (tMakeSD C (spD K den n) dvs (WE W) ta) (dMake C den n dds da) := by
  intro ρ F δ μ σ H Q rh v s p
  refine ha.thn rh v s p fun xs μ1 ρ1 F1 ys H1 e0 ex0 r1 v1 q1 p1 => ?_
  intro x dx hx hdx hne
  split at p1
  · rename_i hl
    obtain ⟨r2, e2⟩ := r1.grow (o := .own x) hdx
    have hx2 : upd H1 dx (.own x) x = none := by rw [upd_ne (Ne.symm hne)]; exact hx
    obtain ⟨r3, e3⟩ := r2.alloc (o := .ins C dx []) (m := .ins C []) hx2 ⟨dx, [], rfl, .nil⟩
    have e23 := e2.trans e3
    have dr := (q1.mono e23).append (hd (ρ1 ++ [x]) (upd F1 dx (.own x)))
    refine ⟨_, _, _, _, r3, .cons (.loc (k := μ1.length) (by rw [← r1.len]; exact loc_new _ _)) dr, by rw [List.length_cons, ← dr.length]; exact hl, ?_⟩
    cases e4 : den (.loc μ1.length :: (xs ++ dds)) (μ1 ++ [.ins C []]) with
    | bad => rw [e4] at p1; exact p1.elim
    | exc z μ2 =>
      rw [e4] at p1
      have sp := leaveT_ok (K := K) (Q := Q) (E := WE W σ) r1 p1
      intro ρ' F' H' d ex r q
      exact sp ρ' F' (L2.wipe [] []) H' d (e23.trans ex) r ⟨rfl, fun i dd h => by simp at h⟩ q
    | ok y μ2 =>
      rw [e4] at p1
      cases y <;> first | exact p1.elim | skip
      have sp := leaveT_ok (K := K) (Q := Q) (E := WE W σ) r1 p1
      intro ρ' F' u H' ex r q
      cases q
      refine ⟨rfl, sp ρ' F' _ H' (e23.trans ex) r (.loc (ex.pre _ _ ?_))⟩
      rw [← r1.len]
      exact loc_new _ _
  · exact p1.elim
/-- self.f = e -/
def putD (f : Str) (d : D) : List (Str × D) → List (Str × D)
  | [] => [(f, d)]
  | (g, x) :: r => if g = f then (g, d) :: r else (g, x) :: putD f d r
theorem putD_ok {ρ : List Addr} {F : Hp} {f : Str} {d : D} {v : V} (h : DR K ρ F d v) : ∀ {fs : List (Str × D)} {gs : List (Str × V)}, DRf K ρ F fs gs → DRf K ρ F (putD f d fs) (putF f v gs)
  | _, _, .nil => .cons h .nil
  | (g, x) :: fs, (_, y) :: gs, .cons r t => by
    rw [putD, putF]
    by_cases e : g = f
    · rw [if_pos e, if_pos e]
      exact .cons h t
    · rw [if_neg e, if_neg e]
      exact .cons r (putD_ok h t)
def dPutF (c : ClsF) (o b : DEn) (f : Str) : DSn := fun δ μ => (b δ μ).thenS δ fun y μ1 => (o δ μ1).thenS δ fun x μ2 => match x with
  | .loc k => (match μ2[k]? with
    | some (.ins C fs) => if c C f = true ∧ fs.length < 1000 then .nx δ (μ2.set k (.ins C (putD f y fs))) else .bad
    | _ => .bad)
  | _ => .bad
theorem ss_putf {c : ClsF} {f : Str} {E : L2.St → XK} (hc : ∀ C, c C f = true → Cls K C ∧ NoAttr K C f) (ho : SE K E S te a) (hb : SE K E S tb b) : SS K E S (sFld K te tb f) (dPutF c a b f) := by
  intro ρ F δ μ σ H T r v s p
  refine hb.thnS r v s p fun y μ1 ρ1 F1 w H1 e1 ex1 r1 v1 q1 p1 => ?_
  refine ho.thnS r1 v1 s p1 fun x μ2 ρ2 F2 u H2 e2 ex2 r2 v2 q2 p2 => ?_
  cases x with
  | loc k =>
    cases q2 with
    | @loc _ a2 z =>
      dsimp only at p2
      cases e : μ2[k]? with
      | none => rw [e] at p2; exact p2.elim
      | some m =>
        cases m with
        | lst ds => rw [e] at p2; exact p2.elim
        | dct ds => rw [e] at p2; exact p2.elim
        | ins C fs =>
          rw [e] at p2
          dsimp only at p2
          split at p2
          · rename_i hz
            obtain ⟨dx, gs, h1, h2⟩ := r2.ob _ _ _ z e
            have hl : gs.length = fs.length := by
              have := congrArg List.length h2.names
              simpa using this.symm
            exact ⟨a2, C, dx, gs, rfl, h1, (hc C hz.1).1, (hc C hz.1).2, by rw [hl]; exact hz.2, p2 ρ2 F2 σ _ (.refl _ _) (r2.put (m := .ins C _) z ⟨dx, _, rfl, putD_ok (q1.mono ex2) h2⟩) v2⟩
          · exact p2.elim
  | _ => exact p2.elim
/-! ### errors -/
/-- raise C(x) with one field; with two -/
def dRaise1 (C : Addr) (f : Str) (da : DAn) : DSn := fun δ μ => match da δ μ with
  | .ok [x] μ1 => .exc ⟨C, [(f, x)]⟩ δ μ1
  | .exc z μ1 => .exc z δ μ1
  | _ => .bad
def dRaise2 (C : Addr) (f g : Str) (da : DAn) : DSn := fun δ μ => match da δ μ with
  | .ok [x, y] μ1 => .exc ⟨C, [(g, y), (f, x)]⟩ δ μ1
  | .exc z μ1 => .exc z δ μ1
  | _ => .bad
theorem ss_raise1 {C : Addr} {f : Str} (ha : SA K (WE W) S ta da) : SS K (WE W) S (fun _ σ H => tMk1 C f ta σ H fun cls d H' => W cls d σ H') (dRaise1 C f da) := by
  intro ρ F δ μ σ H T r v s p
  refine ha ρ F δ μ σ H _ r v s ?_
  unfold dRaise1 at p
  cases e : da δ μ with
  | bad => rw [e] at p; exact p.elim
  | exc z μ1 =>
    rw [e] at p
    exact fun ρ' F' H' d ex r1 x => p ρ' F' σ H' d ex r1 (v.mono ex) x
  | ok xs μ1 =>
    rw [e] at p
    intro ρ1 F1 ys H1 ex r1 q
    cases q with
    | nil => exact p.elim
    | cons q1 q2 =>
      cases q2 with
      | cons _ _ => exact p.elim
      | nil =>
        refine ⟨_, rfl, fun d hd => ?_⟩
        obtain ⟨r2, e2⟩ := r1.grow (o := .xd [(f, _)]) hd
        exact p ρ1 _ σ _ d (ex.trans e2) r2 ((v.mono ex).mono e2) ⟨_, upd_same, .cons (q1.mono e2) .nil⟩
theorem ss_raise2 {C : Addr} {f g : Str} (ha : SA K (WE W) S ta da) : SS K (WE W) S (fun _ σ H => tMk2 C f g ta σ H fun cls d H' => W cls d σ H') (dRaise2 C f g da) := by
  intro ρ F δ μ σ H T r v s p
  refine ha ρ F δ μ σ H _ r v s ?_
  unfold dRaise2 at p
  cases e : da δ μ with
  | bad => rw [e] at p; exact p.elim
  | exc z μ1 =>
    rw [e] at p
    exact fun ρ' F' H' d ex r1 x => p ρ' F' σ H' d ex r1 (v.mono ex) x
  | ok xs μ1 =>
    rw [e] at p
    intro ρ1 F1 ys H1 ex r1 q
    cases q with
    | nil => exact p.elim
    | cons q1 q2 =>
      cases q2 with
      | nil => exact p.elim
      | cons q2 q3 =>
        cases q3 with
        | cons _ _ => exact p.elim
        | nil =>
          refine ⟨_, _, rfl, fun d hd => ?_⟩
          obtain ⟨r2, e2⟩ := r1.grow (o := .xd [(g, _), (f, _)]) hd
          exact p ρ1 _ σ _ d (ex.trans e2) r2 ((v.mono ex).mono e2) ⟨_, upd_same, .cons (q2.mono e2) (.cons (q1.mono e2) .nil)⟩
/-- try: .. except C as n: one statement (n in slot i) -/
def dTryAs (yes : Addr → Option Bool) (i : Nat) (body : DSn) (suite : Z → DSn) : DSn := fun δ μ => match body δ μ with
  | .exc z δ1 μ1 => (match yes z.C with
    | some true => (match suite z (δ1.set i none) μ1 with
      | .nx δ2 μ2 => .nx (δ2.set i none) μ2
      | .brk δ2 μ2 => .brk (δ2.set i none) μ2
      | .cnt δ2 μ2 => .cnt (δ2.set i none) μ2
      | .ret x μ2 => .ret x μ2
      | _ => .bad)
    | some false => .exc z δ1 μ1
    | none => .bad)
  | o => o
/-- in the suite: the error's class and dict -/
def SufOk (K : PySem.W.Frag) (i : Nat) (ts : Addr → Value → Option Addr → TS) (suite : Z → DSn) : Prop := ∀ (z : Z) (a d : Addr) ρ F δ μ σ H (T : Ends), RH K ρ F μ H → VR K ρ F δ σ → σ[i]? = some (some (.ref a)) → XR K ρ F z d →
  SPost K ρ F (suite z δ μ) T (fun _ _ _ _ => False) → ts a (.ref z.C) (some d) T σ H
theorem ss_try {c : Value} {i : Nat} {ts : Addr → Value → Option Addr → TS} {yes : Addr → Option Bool} {t : WX → TS} {g : DSn} {suite : Z → DSn} (hy : ∀ C b, yes C = some b → PySem.W.exmOne K (.ref C) c = some b)
    (hi : ∀ σ : L2.St, True) (hg : ∀ W', SSt K (WE W') (t W') g) (hs : SufOk K i ts suite) (hl : ∀ (δ : VS) μ z δ1 μ1, g δ μ = .exc z δ1 μ1 → i < δ1.length) :
    SSt K (WE W) (fun T σ H => t (wAs K c i ts W T) T σ H) (dTryAs yes i g suite) := by
  intro ρ F δ μ σ H T r v s p
  refine hg _ ρ F δ μ σ H T r v trivial ?_
  unfold dTryAs at p
  cases e : g δ μ with
  | exc z δ1 μ1 =>
    rw [e] at p
    dsimp only at p
    intro ρ1 F1 σ1 H1 d ex r1 v1 x
    have li := hl δ μ z δ1 μ1 e
    cases y : yes z.C with
    | none => rw [y] at p; exact p.elim
    | some b =>
      rw [y] at p
      refine ⟨b, hy _ _ y, fun hb a ha => ?_, fun hb => ?_⟩
      · subst hb
        dsimp only at p
        have vs : VR K ρ1 F1 (δ1.set i none) (σ1.set i (some (.ref a))) := v1.unset i _
        refine hs z a d ρ1 F1 (δ1.set i none) μ1 _ H1 _ r1 vs ?_ x ?_
        · rw [List.getElem?_set_self (by rw [← v1.len]; exact li)]
        · cases e2 : suite z (δ1.set i none) μ1 with
          | nx δ2 μ2 => rw [e2] at p; exact fun ρ2 F2 σ2 H2 ex2 r2 v2 => p ρ2 F2 _ H2 (ex.trans ex2) r2 (v2.unset i none)
          | brk δ2 μ2 => rw [e2] at p; exact fun ρ2 F2 σ2 H2 ex2 r2 v2 => p ρ2 F2 _ H2 (ex.trans ex2) r2 (v2.unset i none)
          | cnt δ2 μ2 => rw [e2] at p; exact fun ρ2 F2 σ2 H2 ex2 r2 v2 => p ρ2 F2 _ H2 (ex.trans ex2) r2 (v2.unset i none)
          | ret x2 μ2 => rw [e2] at p; exact fun ρ2 F2 v2 H2 ex2 r2 q2 => p ρ2 F2 v2 H2 (ex.trans ex2) r2 q2
          | exc z2 δ2 μ2 => rw [e2] at p; exact p.elim
          | bad => rw [e2] at p; exact p.elim
      · subst hb
        exact p ρ1 F1 σ1 H1 d ex r1 v1 x
  | nx δ2 μ2 => rw [e] at p; exact p
  | ret x2 μ2 => rw [e] at p; exact p
  | brk δ2 μ2 => rw [e] at p; exact p
  | cnt δ2 μ2 => rw [e] at p; exact p
  | bad => rw [e] at p; exact p
/-- n.f in the suite -/
def dXf (z : Z) (C : Addr) (f : Str) : DEn := fun _ μ => if z.C = C then (match z.fs.lookup f with
  | some d => .ok d μ
  | none => .bad) else .bad
/-- what is known in a suite -/
def InSuite (K : PySem.W.Frag) (i : Nat) (a d : Addr) (z : Z) (te : TE) (g : DEn) : Prop := ∀ ρ F δ μ σ H (Q : VK), RH K ρ F μ H → VR K ρ F δ σ → σ[i]? = some (some (.ref a)) → XR K ρ F z d → Post (RE K) K ρ F (g δ μ) Q (fun _ _ _ => False) → te σ H Q
theorem is_xf {C : Addr} {f : Str} {i : Nat} {a d : Addr} {z : Z} : InSuite K i a d z (tXf a (.ref z.C) (some d) C f (tVar i)) (dXf z C f) := by
  intro ρ F δ μ σ H Q r v hσ x p
  unfold dXf at p
  split at p
  · rename_i hc
    obtain ⟨gs, h1, h2⟩ := x
    cases e : z.fs.lookup f with
    | none => rw [e] at p; exact p.elim
    | some w =>
      rw [e] at p
      obtain ⟨u, hu, ru⟩ := h2.look e
      exact ⟨_, hσ, rfl, by rw [hc], d, gs, u, rfl, r.fr _ _ h1, hu, p ρ F u H (.refl _ _) r ru⟩
  · exact p.elim
end
end Dn
set_option Elab.async false
set_option linter.all false
set_option maxRecDepth 100000
set_option maxHeartbeats 1000000
set_option autoImplicit false
/-! Dn7: operators by what stands at their sides. -/
namespace Dn
open PySem PySem.Spec PyProof.Rows L2 Gk
/-! ### the rules of the machine, joined -/
def CDivX (_ j : Int) : Prop := j ≠ 0 ∧ j.natAbs.log2 < 9000
theorem op_fdivX {X : Cx} : OpR X (binaryOp .FloorDiv) (rI CDivX fun i j => .int (i.fdiv j)) := opI fun _ _ _ _ _ _ _ hc q => floordiv_int hc.1 q (.inl (PyProof.noPylong_of_log2 hc.2))
abbrev rStrCat : R2 := fun x y H Q => ∃ i j, x = .str i ∧ y = .str j ∧ i.length + j.length ≤ sizeLine ∧ Q (.str (i ++ j)) H
abbrev rPlus (K : PySem.W.Frag) : R2 := ROr (rI0 fun i j => .int (i + j)) (ROr rCat (ROr (rCatT K) rStrCat))
theorem op_plus {X : Cx} : OpR X (binaryOp .Add) (rPlus X.K) := OpR.or op_add (OpR.or op_cat (OpR.or op_catT op_add_str))
abbrev rTimes : R2 := ROr (rI CMulW fun i j => .int (i * j)) rRep
theorem op_times {X : Cx} : OpR X (binaryOp .Mult) rTimes := OpR.or op_mulW op_rep
abbrev rLess : R2 := ROr (rI0 fun i j => .bl (decide (i < j))) fun x y H Q => ∃ i j, x = .str i ∧ y = .str j ∧ Q (.bl (decide (i.cps.toList < j.cps.toList))) H
section
variable {K : PySem.W.Frag} {E : L2.St → XK} {S : L2.St → Prop} {ta : TA} {da : DAn} {te tb tc : TE} {a b c : DEn}
def isInt : D → Bool
  | .int _ => true
  | _ => false
/-- the place and the items of a list of the store -/
def lstS (μ : List M) : D → Option (Nat × List D)
  | .loc k => match μ[k]? with
    | some (.lst ds) => some (k, ds)
    | _ => none
  | _ => none
theorem lstS_ok {ρ : List Addr} {F H : Hp} {μ : List M} (r : RH K ρ F μ H) {d : D} {v : V} {k : Nat} {ds : List D} (h : DR K ρ F d v) (e : lstS μ d = some (k, ds)) : ∃ a xs, d = .loc k ∧ v = .ref a ∧ ρ[k]? = some a ∧ H a = some (.lst xs) ∧ DRs K ρ F ds xs ∧ μ[k]? = some (.lst ds) := by
  cases d <;> first | (cases e; done) | skip
  rename_i j
  cases h with
  | @loc _ a z =>
    rw [lstS] at e
    cases y : μ[j]? with
    | none => rw [y] at e; cases e
    | some m =>
      cases m with
      | ins C fs => rw [y] at e; cases e
      | dct ks => rw [y] at e; cases e
      | lst es =>
        rw [y] at e
        cases e
        obtain ⟨xs, h1, h2⟩ := r.ob _ _ _ z y
        exact ⟨a, xs, rfl, rfl, z, h1, h2, y⟩
def fPlus : FOp := fun x y μ => match x, y with
  | .int i, .int j => .ok (.int (i + j)) μ
  | .str i, .str j => if i.length + j.length ≤ sizeLine then .ok (.str (i ++ j)) μ else .bad
  | .tup ds, .tup es => if ds ≠ [] ∧ ds.length + es.length ≤ sizeLine then .ok (.tup (ds ++ es)) μ else .bad
  | x, y => (match lstS μ x, lstS μ y with
    | some (_, ds), some (_, es) => if ds.length + es.length ≤ sizeLine then .ok (.loc μ.length) (μ ++ [.lst (ds ++ es)]) else .bad
    | _, _ => .bad)
theorem od_plus : OpD K (rPlus K) fPlus := fun ρ F μ H x y v u Q E rh q1 q2 p => by
  have lists : Post (RE K) K ρ F (match lstS μ x, lstS μ y with
    | some (_, ds), some (_, es) => if ds.length + es.length ≤ sizeLine then Out.ok (D.loc μ.length) (μ ++ [.lst (ds ++ es)]) else .bad
    | _, _ => .bad) Q E → rPlus K v u H Q := fun p => by
    cases e1 : lstS μ x with
    | none => rw [e1] at p; exact p.elim
    | some c1 =>
      obtain ⟨k1, ds⟩ := c1
      cases e2 : lstS μ y with
      | none => rw [e1, e2] at p; exact p.elim
      | some c2 =>
        obtain ⟨k2, es⟩ := c2
        rw [e1, e2] at p
        dsimp only at p
        obtain ⟨a1, xs, _, rfl, _, h1, d1, _⟩ := lstS_ok rh q1 e1
        obtain ⟨a2, ys, _, rfl, _, h2, d2, _⟩ := lstS_ok rh q2 e2
        split at p
        · rename_i hz
          refine .inr (.inl ⟨a1, a2, xs, ys, rfl, rfl, h1, h2, by rw [← d1.length, ← d2.length]; exact hz, fun l hl => ?_⟩)
          obtain ⟨r2, e3⟩ := rh.alloc (o := .lst (xs ++ ys)) (m := .lst (ds ++ es)) hl ⟨_, rfl, d1.append d2⟩
          exact p _ F _ _ e3 r2 (.loc (by rw [← rh.len]; exact loc_new _ _))
        · exact p.elim
  cases x with
  | int i =>
    cases y with
    | int j => cases q1; cases q2; exact .inl ⟨i, j, rfl, rfl, p ρ F _ H (.refl _ _) rh (.int _)⟩
    | _ => exact lists p
  | str i =>
    cases y with
    | str j =>
      cases q1
      cases q2
      have p2 : Post (RE K) K ρ F (if i.length + j.length ≤ sizeLine then Out.ok (D.str (i ++ j)) μ else .bad) Q E := p
      split at p2
      · exact .inr (.inr (.inr ⟨i, j, rfl, rfl, by assumption, p2 ρ F _ H (.refl _ _) rh (.str _)⟩))
      · exact p2.elim
    | _ => exact lists p
  | tup ds =>
    cases y with
    | tup es =>
      cases q1 with
      | tup s1 d1 =>
        cases q2 with
        | tup s2 d2 =>
          have p2 : Post (RE K) K ρ F (if ds ≠ [] ∧ ds.length + es.length ≤ sizeLine then Out.ok (D.tup (ds ++ es)) μ else .bad) Q E := p
          split at p2
          · rename_i hz
            have l1 := d1.length
            have l2 := d2.length
            refine .inr (.inr (.inl ⟨_, _, _, _, rfl, rfl, sqT_same rh.fr s1, sqT_same rh.fr s2, fun e => ?_, by omega, fun e => ?_, fun _ t ht => ?_⟩))
            · rw [e] at l1
              exact hz.1 (List.eq_nil_of_length_eq_zero l1)
            · rw [e] at l2
              rw [List.eq_nil_of_length_eq_zero l2, List.append_nil] at p2
              exact p2 ρ F _ H (.refl _ _) rh (.tup s1 d1)
            · obtain ⟨r2, e2⟩ := rh.grow (o := .tup _) ht
              exact p2 ρ _ _ _ e2 r2 (.tup (SqT.of upd_same) ((d1.append d2).mono e2))
          · exact p2.elim
    | _ => exact lists p
  | _ => exact lists p
def fMinus : FOp := fI (fun _ _ => true) fun i j => .int (i - j)
theorem od_minus : OpD K (rI0 fun i j => .int (i - j)) fMinus := od_int0
/-- a product of numbers of together less than a million bits; a list again and again -/
def fTimes : FOp := fun x y μ => match x, y with
  | .int i, .int j => if i.natAbs.log2 + j.natAbs.log2 < 1000000 then .ok (.int (i * j)) μ else .bad
  | x, .int j => (match lstS μ x with
    | some (_, ds) => if -(2 ^ 63) ≤ j ∧ j < 2 ^ 63 ∧ ds.length * j.toNat ≤ sizeLine then .ok (.loc μ.length) (μ ++ [.lst (List.replicate j.toNat ds).flatten]) else .bad
    | none => .bad)
  | _, _ => .bad
theorem DRs.rep {ρ : List Addr} {F : Hp} {ds : List D} {xs : List V} (h : DRs K ρ F ds xs) : ∀ n : Nat, DRs K ρ F (List.replicate n ds).flatten (List.replicate n xs).flatten
  | 0 => .nil
  | n + 1 => by
    rw [List.replicate_succ, List.replicate_succ, List.flatten_cons, List.flatten_cons]
    exact h.append (DRs.rep h n)
theorem od_times : OpD K rTimes fTimes := fun ρ F μ H x y v u Q E rh q1 q2 p => by
  cases y <;> first | (cases x <;> exact p.elim) | skip
  rename_i j
  cases q2
  have lists : Post (RE K) K ρ F (match lstS μ x with
    | some (_, ds) => if -(2 ^ 63) ≤ j ∧ j < 2 ^ 63 ∧ ds.length * j.toNat ≤ sizeLine then Out.ok (D.loc μ.length) (μ ++ [.lst (List.replicate j.toNat ds).flatten]) else .bad
    | none => .bad) Q E → rTimes v (.int j) H Q := fun p => by
    cases e1 : lstS μ x with
    | none => rw [e1] at p; exact p.elim
    | some c1 =>
      obtain ⟨k1, ds⟩ := c1
      rw [e1] at p
      dsimp only at p
      obtain ⟨a1, xs, _, rfl, _, h1, d1, _⟩ := lstS_ok rh q1 e1
      split at p
      · rename_i hz
        refine .inr ⟨a1, j, xs, rfl, rfl, h1, hz.1, hz.2.1, by rw [← d1.length]; exact hz.2.2, fun l hl => ?_⟩
        obtain ⟨r2, e3⟩ := rh.alloc (o := .lst (List.replicate j.toNat xs).flatten) (m := .lst (List.replicate j.toNat ds).flatten) hl ⟨_, rfl, d1.rep _⟩
        exact p _ F _ _ e3 r2 (.loc (by rw [← rh.len]; exact loc_new _ _))
      · exact p.elim
  cases x with
  | int i =>
    cases q1
    have p2 : Post (RE K) K ρ F (if i.natAbs.log2 + j.natAbs.log2 < 1000000 then Out.ok (D.int (i * j)) μ else .bad) Q E := p
    split at p2
    · rename_i hz
      exact .inl ⟨i, j, rfl, rfl, hz, p2 ρ F _ H (.refl _ _) rh (.int _)⟩
    · exact p2.elim
  | _ => exact lists p
def fDiv : FOp := fI (fun _ j => decide (j ≠ 0) && decide (j.natAbs.log2 < 9000)) fun i j => .int (i.fdiv j)
theorem od_div : OpD K (rI CDivX fun i j => .int (i.fdiv j)) fDiv := od_int fun i j h => by
  rw [Bool.and_eq_true, decide_eq_true_eq, decide_eq_true_eq] at h
  exact h
def fMod : FOp := fI (fun _ j => decide (j ≠ 0)) fun i j => .int (i.fmod j)
theorem od_mod : OpD K (rI (fun _ j => j ≠ 0) fun i j => .int (i.fmod j)) fMod := od_int fun i j h => by
  rw [decide_eq_true_eq] at h
  exact h
def fPow : FOp := fI (fun i j => decide (0 ≤ j) && (decide (j ≤ 1000000) && decide (i.natAbs < 2 ^ 64))) fun i j => .int (i ^ j.toNat)
theorem od_pow : OpD K (rI CPow fun i j => .int (i ^ j.toNat)) fPow := od_int fun i j h => by
  rw [Bool.and_eq_true, Bool.and_eq_true, decide_eq_true_eq, decide_eq_true_eq, decide_eq_true_eq] at h
  exact h
def dNeg (a : DEn) : DEn := fun δ μ => (a δ μ).bind fun x μ1 => match x with
  | .int i => .ok (.int (-i)) μ1
  | _ => .bad
theorem se_neg (ha : SE K E S te a) : SE K E S (tUn (rU fun i => .int (-i)) te) (dNeg a) := by
  intro ρ F δ μ σ H Q rh v s p
  refine ha.thn rh v s p fun x μ1 ρ1 F1 y H1 e0 ex0 r1 v1 q1 p1 => ?_
  cases x <;> first | exact p1.elim | skip
  cases q1
  exact ⟨_, rfl, p1 ρ1 F1 _ H1 (.refl _ _) r1 (.int _)⟩
/-! ### a op b op c -/
def dChain (f g : FOp) (a b c : DEn) : DTn := fun δ μ => (a δ μ).bind fun x μ1 => (b δ μ1).bind fun y μ2 => (f x y μ2).bind fun z μ3 => match z with
  | .bl true => (c δ μ3).bind fun w μ4 => (g y w μ4).bind fun z2 μ5 => (match z2 with
    | .bl k => .ok k μ5
    | _ => .bad)
  | .bl false => .ok false μ3
  | _ => .bad
/-! ### x op= y -/
def dAug (f : FOp) (i : Nat) (a : DEn) : DSn := fun δ μ => match δ[i]? with
  | some (some x) => (a δ μ).thenS δ fun y μ1 => (match f x y μ1 with
    | .ok z μ2 => .nx (δ.set i (some z)) μ2
    | .exc z μ2 => .exc z δ μ2
    | .bad => .bad)
  | _ => .bad
end
end Dn
set_option Elab.async false
set_option linter.all false
set_option maxRecDepth 100000
set_option maxHeartbeats 1000000
set_option autoImplicit false
/-! Dn8: defs by their names; one-line rules for the generated texts. -/
namespace Dn
open PySem PySem.Spec PyProof.Rows L2 Gk
section
variable (P : Program) (w : World) (K : PySem.W.Frag) (mg : Str → Option Value) (base : Heap)
/-- the def of this name keeps the function `den`; dd: its defaults -/
structure FnAt (k : Nat) (nm : Str) (n : Nat) (dd : List (V × D)) (den : Den) : Prop where
  ex : ∃ (a : Addr) (fd : FuncData) (ps : List Str) (ds : List Value), mg nm = some (.ref a) ∧ PySem.W.keepIn K (.ref a) = true ∧ ps.length = n ∧ (∀ m, m ≤ dd.length → Binds K fd ps (ds.drop m)) ∧ Vals (dd.map (·.1)) ds ∧
    FnOk P w K mg base (L2.CX P w) k a fd ps (spD K den n)
structure GnAt (k : Nat) (nm : Str) (n : Nat) (den : Den) : Prop where
  ex : ∃ (a : Addr) (fd : FuncData) (ps : List Str), mg nm = some (.ref a) ∧ PySem.W.keepIn K (.ref a) = true ∧ ps.length = n ∧ Binds K fd ps [] ∧ GOk P w K mg base (L2.CX P w) k a fd ps (spD K den n)
end
/-- the def's text and its name -/
def DefAt (K : PySem.W.Frag) (mg : Str → Option Value) (nm : Str) (st : Stmt) : Prop := ∃ (a : Addr) (fd : FuncData), Fun K nm nm st a fd ∧ mg nm = some (.ref a)
theorem Vals.dropN : ∀ {xs : List V} {us : List Value} (n : Nat), Vals xs us → Vals (xs.drop n) (us.drop n) := fun n r => Vals.drop n r
section
variable {X : Cx} {W : WX} {k n : Nat} {nm : Str} {dd : List (V × D)} {den : Den} {p pos : Pos} {e : Expr} {es : List Expr} {t : TA}
theorem pe_at (h : FnAt X.prog X.w X.K X.mg X.base k nm n dd den) (m : Nat) (hm : m ≤ dd.length) (rm : Room k X.A) (hg : Gl X nm) (tk : Takes X W) (ha : PA X (e :: es) t)
    (hdb : (nm == ("__debug__" : Str)) = false := by decide) (he : starEach (e :: es) X.env = (false, eval e X.env) :: starEach es X.env := by rfl) (hpl : (backTo pos (starEach es X.env)).any (·.1) = false := by rfl) :
    PE X (.Call (.Name nm p) (e :: es) [] pos) (tCallSD (spD X.K den n) ((dd.map (·.1)).drop m) (WE W) t) := by
  obtain ⟨a, fd, ps, ds, g, kp, hl, hb, hv, F⟩ := h.ex
  exact pe_callSD F rm hg g kp (hb m hm) (Vals.drop m hv) (fun σ => passAt tk σ) ha hdb he hpl
theorem pe_gat (h : GnAt X.prog X.w X.K X.mg X.base k nm n den) (qa : Quiet X.A) (rm : Room k X.A) (hg : Gl X nm) (tk : Takes X W) (ha : PA X (e :: es) t)
    (hdb : (nm == ("__debug__" : Str)) = false := by decide) (he : starEach (e :: es) X.env = (false, eval e X.env) :: starEach es X.env := by rfl) (hpl : (backTo pos (starEach es X.env)).any (·.1) = false := by rfl) :
    PE X (.Call (.Name nm p) (e :: es) [] pos) (tCallSD (spD X.K den n) [] (WE W) t) := by
  obtain ⟨a, fd, ps, g, kp, hl, hb, F⟩ := h.ex
  exact pe_gSD F qa rm hg g kp hb .nil (fun σ => passAt tk σ) ha hdb he hpl
end
section
variable {P : Program} {w : World} {K : PySem.W.Frag} {mg : Str → Option Value} {base : Heap} {k : Nat} {nm : Str} {st : Stmt} {N ps : List Str} {g : DSn} {own : Bool}
theorem mkFn (F : DefAt K mg nm st) (Sc : FnScope N ps (defScope st))
    (hbi : ∀ (kV doc pm : Value) (an : Option Addr) (cdv ct : Value) (us : List Value), us.length = ps.length → bindArgs (PySem.W.fnOf nm nm (defArgs st) (defBody st) (defScope st) .none kV doc pm an cdv ct) ⟨us, []⟩ = pure (ps.zip us))
    (hb : ∀ (f : Addr) (cdv : Value) (A : Around) (outer : List Env) (s : Shared) (H : Hp) (E : XK), Room k (A.deeper (envOfC nm (defScope st) s.heap.objs.size f cdv)) →
      ∃ t, PSs (cxOf (L2.CX P w) P w K mg base N nm (defScope st) f cdv A outer s H E) (defBody st) t ∧ SSt K (WE fun cls d _ H => E cls d H) t g) :
    FnAt P w K mg base (k + 1) nm ps.length [] (dDef N.length own g) := by
  obtain ⟨a, fd, F, gm⟩ := F
  refine ⟨a, fd, ps, [], gm, F.kp, rfl, fun m hm => ?_, .nil, fn_den F Sc (hb a)⟩
  have e : m = 0 := Nat.le_zero.mp hm
  subst e
  exact F.binds hbi
theorem mkGn (F : DefAt K mg nm st) (Sc : FnScope N ps (defScope st))
    (hbi : ∀ (kV doc pm : Value) (an : Option Addr) (cdv ct : Value) (us : List Value), us.length = ps.length → bindArgs (PySem.W.fnOf nm nm (defArgs st) (defBody st) (defScope st) .none kV doc pm an cdv ct) ⟨us, []⟩ = pure (ps.zip us))
    (hb : ∀ (f : Addr) (cdv : Value) (A : Around) (outer : List Env) (s : Shared) (H : Hp) (E : XK), Quiet A → Room k (A.deeper (envOfC nm (defScope st) s.heap.objs.size f cdv)) →
      ∃ t, PSs (cxOf (L2.CX P w) P w K mg base N nm (defScope st) f cdv A outer s H E) (defBody st) t ∧ SSt K (WE fun cls d _ H => E cls d H) t g) :
    GnAt P w K mg base (k + 1) nm ps.length (dDef N.length own g) := by
  obtain ⟨a, fd, F, gm⟩ := F
  exact ⟨a, fd, ps, gm, F.kp, rfl, F.binds hbi, gn_den F Sc (hb a)⟩
end
/-! ### methods of lists in the generated texts -/
section
variable {K : PySem.W.Frag} {E : L2.St → XK} {S : L2.St → Prop} {te : TE} {ta : TA} {a : DEn} {da : DAn}
def dAppend (o : DEn) (da : DAn) : DEn := fun δ μ => (o δ μ).bind fun x μ1 => match lstS μ1 x with
  | some _ => (da δ μ1).bind fun xs μ2 => fAppend x xs μ2
  | none => .bad
theorem se_append (ho : SE K E S te a) (ha : SA K E S ta da) : SE K E S (tBM K "list" rAppend te ta) (dAppend a da) := by
  intro ρ F δ μ σ H Q rh v s p
  refine ho.thn rh v s p fun x μ1 ρ1 F1 y H1 e0 ex0 r1 v1 q1 p1 => ?_
  cases e : lstS μ1 x with
  | none => rw [e] at p1; exact p1.elim
  | some c =>
    obtain ⟨k, ds⟩ := c
    rw [e] at p1
    obtain ⟨t, xs, hx, rfl, hk, h1, d1, _⟩ := lstS_ok r1 q1 e
    refine ⟨.inl ⟨rfl, _, SqL.of h1⟩, ?_⟩
    refine ha.thn r1 v1 s p1 fun xs μ2 ρ2 F2 ys H2 e3 ex3 r2 v2 q2 p2 => ?_
    exact fm_append ρ2 F2 μ2 H2 x xs _ ys Q (E σ) r2 (q1.mono ex3) q2 p2
end
end Dn
set_option Elab.async false
set_option linter.all false
set_option maxRecDepth 100000
set_option maxHeartbeats 1000000
set_option autoImplicit false
/-! Dn9: functions over trees reckoned: rewriting from the inside, one branch at a time. -/
namespace Dn
open PySem PySem.Spec PyProof.Rows L2 Gk
section
variable {α β : Type} {x : α} {μ : List M} {z : Z} {δ : VS}
theorem bind_congr {o o' : Out α} {k : α → List M → Out β} (h : o = o') : o.bind k = o'.bind k := by rw [h]
theorem thenS_congr {o o' : Out D} {δ : VS} {k : D → List M → SO} (h : o = o') : o.thenS δ k = o'.thenS δ k := by rw [h]
theorem thenT_congr {o o' : Out Bool} {δ : VS} {k : Bool → List M → SO} (h : o = o') : o.thenT δ k = o'.thenT δ k := by rw [h]
theorem thn_congr {o o' : SO} {k : DSn} (h : o = o') : o.thn k = o'.thn k := by rw [h]
theorem thenS_ok {x : D} {k : D → List M → SO} : (Out.ok x μ).thenS δ k = k x μ := rfl
theorem thenS_exc {k : D → List M → SO} : (Out.exc z μ : Out D).thenS δ k = .exc z δ μ := rfl
theorem thenT_ok {x : Bool} {k : Bool → List M → SO} : (Out.ok x μ).thenT δ k = k x μ := rfl
theorem thenT_exc {k : Bool → List M → SO} : (Out.exc z μ : Out Bool).thenT δ k = .exc z δ μ := rfl
theorem thn_nx {k : DSn} : (SO.nx δ μ).thn k = k δ μ := rfl
theorem thn_ret {x : D} {k : DSn} : (SO.ret x μ).thn k = .ret x μ := rfl
theorem thn_brk {k : DSn} : (SO.brk δ μ).thn k = .brk δ μ := rfl
theorem thn_cnt {k : DSn} : (SO.cnt δ μ).thn k = .cnt δ μ := rfl
theorem thn_exc {k : DSn} : (SO.exc z δ μ).thn k = .exc z δ μ := rfl
theorem only_nx : (SO.nx δ μ).only = .nx δ μ := rfl
def getV (o : Option (Option D)) (μ : List M) : Out D := match o with
  | some (some d) => .ok d μ
  | _ => .bad
theorem getV_some {d : D} : getV (some (some d)) μ = .ok d μ := rfl
theorem dVar_eq {i : Nat} : dVar i δ μ = getV δ[i]? μ := rfl
theorem dC_eq {d : D} : dC d δ μ = .ok d μ := rfl
theorem dOp_eq {f : FOp} {a b : DEn} : dOp f a b δ μ = (a δ μ).bind fun x μ1 => (b δ μ1).bind fun y μ2 => f x y μ2 := rfl
theorem dNil_eq : dNil δ μ = .ok [] μ := rfl
theorem dCons_eq {a : DEn} {r : DAn} : dCons a r δ μ = (a δ μ).bind fun x μ1 => (r δ μ1).bind fun xs μ2 => .ok (x :: xs) μ2 := rfl
theorem dCB_eq {f : FB} {a : DAn} : dCB f a δ μ = (a δ μ).bind fun xs μ1 => f xs μ1 := rfl
theorem dSeq_eq {g h : DSn} : dSeq g h δ μ = (g δ μ).thn h := rfl
theorem dAsg_eq {a : DEn} {g : DGn} : dAsg a g δ μ = (a δ μ).thenS δ fun x μ1 => (g x δ μ1).only := rfl
theorem dRet_eq {a : DEn} : dRet a δ μ = (a δ μ).thenS δ fun x μ1 => .ret x μ1 := rfl
theorem dDrop_eq {a : DEn} : dDrop a δ μ = (a δ μ).thenS δ fun _ μ1 => .nx δ μ1 := rfl
theorem dNext_eq : dNext δ μ = .nx δ μ := rfl
theorem dIfS_eq {c : DTn} {g h : DSn} : dIfS c g h δ μ = (c δ μ).thenT δ fun b μ1 => if b = true then g δ μ1 else h δ μ1 := rfl
theorem dgName_eq {i : Nat} {d : D} : dgName i d δ μ = .nx (δ.set i (some d)) μ := rfl
def asBl (x : D) (μ : List M) : Out Bool := match x with
  | .bl b => .ok b μ
  | _ => .bad
theorem asBl_eq {b : Bool} : asBl (.bl b) μ = .ok b μ := rfl
theorem dTest_eq {a : DEn} : dTest a δ μ = (a δ μ).bind asBl := rfl
theorem dAnd_eq {c d : DTn} : dAnd c d δ μ = (c δ μ).bind fun x μ1 => if x = true then d δ μ1 else .ok false μ1 := rfl
theorem dOr_eq {c d : DTn} : dOr c d δ μ = (c δ μ).bind fun x μ1 => if x = true then .ok true μ1 else d δ μ1 := rfl
theorem dNot_eq {c : DTn} : dNot c δ μ = (c δ μ).bind fun x μ1 => .ok (!x) μ1 := rfl
theorem dIf_eq {c : DTn} {a b : DEn} : dIf c a b δ μ = (c δ μ).bind fun x μ1 => if x = true then a δ μ1 else b δ μ1 := rfl
theorem dCall_eq {den : Den} {n : Nat} {dds : List D} {a : DAn} : dCall den n dds a δ μ = (a δ μ).bind fun xs μ1 => if (xs ++ dds).length = n then den (xs ++ dds) μ1 else .bad := rfl
theorem f1_eq {f : D → List M → Out D} {x : D} : f1 f [x] μ = f x μ := rfl
theorem f2_eq {f : D → D → List M → Out D} {x y : D} : f2 f [x, y] μ = f x y μ := rfl
theorem fInt_int {i : Int} : fInt (.int i) μ = .ok (.int i) μ := rfl
theorem fPlus_int {i j : Int} : fPlus (.int i) (.int j) μ = .ok (.int (i + j)) μ := rfl
theorem fMinus_int {i j : Int} : fMinus (.int i) (.int j) μ = .ok (.int (i - j)) μ := rfl
theorem fTimes_int {i j : Int} (h : i.natAbs.log2 + j.natAbs.log2 < 1000000) : fTimes (.int i) (.int j) μ = .ok (.int (i * j)) μ := if_pos h
theorem fDiv_int {i j : Int} (h : j ≠ 0) (h2 : j.natAbs.log2 < 9000) : fDiv (.int i) (.int j) μ = .ok (.int (i.fdiv j)) μ := fI_ok (by rw [decide_eq_true h, decide_eq_true h2]; rfl)
theorem fMod_int {i j : Int} (h : j ≠ 0) : fMod (.int i) (.int j) μ = .ok (.int (i.fmod j)) μ := fI_ok (decide_eq_true h)
theorem fI_true {g : Int → Int → D} {i j : Int} : fI (fun _ _ => true) g (.int i) (.int j) μ = .ok (g i j) μ := rfl
theorem fEq_int {i j : Int} {neg : Bool} : fEq neg (.int i) (.int j) μ = .ok (.bl (if neg then !(i == j) else i == j)) μ := by
  cases neg <;> rfl
theorem dDef_tree {n : Nat} {g : DSn} {ds : List D} : dDef n false g ds μ = leaveT μ (g (slots n ds) μ) := rfl
theorem dDef_own {n : Nat} {g : DSn} {ds : List D} : dDef n true g ds μ = leaveO μ (g (slots n ds) μ) := rfl
theorem back_refl (μ : List M) : Back μ.length μ μ := ⟨Nat.le_refl _, fun _ _ => .inl rfl⟩
/-- what is handed back holds nothing of the store, the store as it was -/
theorem leave_same {x : D} (h : clo μ.length x = true) : leaveT μ (.ret x μ) = .ok x μ := by
  unfold leaveT
  dsimp only
  rw [if_pos (back_refl μ), fzB_clo _ _ x h, List.take_length]
end
end Dn
namespace Dn
open PySem PySem.Spec PyProof.Rows L2 Gk
section
variable {μ : List M}
theorem leave_int {i : Int} : leaveT μ (.ret (.int i) μ) = .ok (.int i) μ := leave_same rfl
theorem leave_bl {i : Bool} : leaveT μ (.ret (.bl i) μ) = .ok (.bl i) μ := leave_same rfl
theorem leave_non : leaveT μ (.ret .non μ) = .ok .non μ := leave_same rfl
theorem leave_nx {δ : VS} : leaveT μ (.nx δ μ) = .ok .non μ := by
  unfold leaveT
  dsimp only
  rw [if_pos (back_refl μ), List.take_length]
theorem log2_lt {i : Int} {n : Nat} (h : i.natAbs < 2 ^ n) (h0 : 0 < n) : i.natAbs.log2 < n := PySem.Flt.log2_lt_of h0 h
end
end Dn
set_option Elab.async false
set_option linter.all false
set_option maxRecDepth 100000
set_option maxHeartbeats 1000000
set_option autoImplicit false
/-! DnA: loops over trees by what holds before each turn. -/
namespace Dn
open PySem PySem.Spec PyProof.Rows L2 Gk
/-- one turn: what the body does, J what holds before the next turn, W what is wanted of the whole -/
def Turn (J : VS → List M → Prop) (W : SO → Prop) : SO → Prop
  | .nx δ μ => J δ μ
  | .cnt δ μ => J δ μ
  | .brk δ μ => W (.nx δ μ)
  | .ret x μ => W (.ret x μ)
  | .exc z δ μ => W (.exc z δ μ)
  | .bad => False
theorem forGo_loop {gd : List M → Bool} {b : DGn} {body : DSn} {W : SO → Prop} {J : List D → VS → List M → Prop} (g : ∀ xs δ μ, J xs δ μ → gd μ = true)
    (st : ∀ x xs δ μ, J (x :: xs) δ μ → ∃ δ1 μ1, b x δ μ = .nx δ1 μ1 ∧ Turn (J xs) W (body δ1 μ1)) (fin : ∀ δ μ, J [] δ μ → W (.nx δ μ)) :
    ∀ xs δ μ, J xs δ μ → W (forGo gd b body xs δ μ)
  | [], δ, μ, h => by
    rw [forGo, g _ _ _ h]
    exact fin δ μ h
  | x :: xs, δ, μ, h => by
    obtain ⟨δ1, μ1, e, t⟩ := st x xs δ μ h
    rw [forGo, g _ _ _ h, if_pos rfl, e]
    dsimp only
    cases q : body δ1 μ1 with
    | nx δ2 μ2 => rw [q] at t; exact forGo_loop g st fin xs δ2 μ2 t
    | cnt δ2 μ2 => rw [q] at t; exact forGo_loop g st fin xs δ2 μ2 t
    | brk δ2 μ2 => rw [q] at t; exact t
    | ret z μ2 => rw [q] at t; exact t
    | exc z δ2 μ2 => rw [q] at t; exact t
    | bad => rw [q] at t; exact t.elim
theorem dFor_loop {it : DIn} {b : DGn} {body : DSn} {W : SO → Prop} {J : List D → VS → List M → Prop} {δ : VS} {μ μ1 : List M} {I : Its} (e : it δ μ = .ok I μ1) (g : ∀ xs δ μ, J xs δ μ → I.gd μ = true)
    (st : ∀ x xs δ μ, J (x :: xs) δ μ → ∃ δ1 μ1, b x δ μ = .nx δ1 μ1 ∧ Turn (J xs) W (body δ1 μ1)) (fin : ∀ δ μ, J [] δ μ → W (.nx δ μ)) (h : J I.ds δ μ1) : W (dFor it b body δ μ) := by
  unfold dFor
  rw [e]
  exact forGo_loop g st fin I.ds δ μ1 h
/-- a comprehension's turns: J over what is to come, what is kept so far, the store without the list that grows -/
theorem compGo_loop {gd : List M → Bool} {b : DGn} {c : DTn} {e : DEn} {k : Nat} {δ : VS} {J : List D → List D → List M → Prop} {R : List M → Prop} (at' : ∀ xs acc μ, J xs acc μ → μ[k]? = some (.lst acc))
    (g : ∀ xs acc μ, J xs acc μ → gd μ = true)
    (st : ∀ x xs acc μ, J (x :: xs) acc μ → ∃ δ1 μ1, b x δ μ = .nx δ1 μ1 ∧ ((∃ μ2, c δ1 μ1 = .ok false μ2 ∧ J xs acc μ2) ∨
      (∃ μ2 y μ3, c δ1 μ1 = .ok true μ2 ∧ e δ1 μ2 = .ok y μ3 ∧ μ3[k]? = some (.lst acc) ∧ acc.length < sizeLine ∧ J xs (acc ++ [y]) (μ3.set k (.lst (acc ++ [y]))))))
    (fin : ∀ acc μ, J [] acc μ → R μ) : ∀ xs acc μ, J xs acc μ → ∃ μ', compGo gd b c e k δ xs μ = some μ' ∧ R μ'
  | [], acc, μ, h => ⟨μ, by rw [compGo, g _ _ _ h]; rfl, fin acc μ h⟩
  | x :: xs, acc, μ, h => by
    obtain ⟨δ1, μ1, e1, t⟩ := st x xs acc μ h
    rw [compGo, g _ _ _ h, if_pos rfl, e1]
    dsimp only
    rcases t with ⟨μ2, e2, n⟩ | ⟨μ2, y, μ3, e2, e3, e4, sz, n⟩
    · rw [e2]
      exact compGo_loop at' g st fin xs acc μ2 n
    · rw [e2]
      dsimp only
      rw [e3]
      dsimp only
      rw [e4]
      dsimp only
      rw [if_pos sz]
      exact compGo_loop at' g st fin xs (acc ++ [y]) _ n
theorem dComp_loop {it : DIn} {b : DGn} {c : DTn} {e : DEn} {vs : List Nat} {δ : VS} {μ μ1 : List M} {I : Its} {J : List D → List D → List M → Prop} {R : List M → Prop} (e0 : it δ μ = .ok I μ1)
    (h0 : J I.ds [] (μ1 ++ [.lst []])) (at' : ∀ xs acc μ, J xs acc μ → μ[μ1.length]? = some (.lst acc)) (g : ∀ xs acc μ, J xs acc μ → I.gd μ = true)
    (st : ∀ x xs acc μ, J (x :: xs) acc μ → ∃ δ1 μ1', b x (wipeD δ vs) μ = .nx δ1 μ1' ∧ ((∃ μ2, c δ1 μ1' = .ok false μ2 ∧ J xs acc μ2) ∨
      (∃ μ2 y μ3, c δ1 μ1' = .ok true μ2 ∧ e δ1 μ2 = .ok y μ3 ∧ μ3[μ1.length]? = some (.lst acc) ∧ acc.length < sizeLine ∧ J xs (acc ++ [y]) (μ3.set μ1.length (.lst (acc ++ [y]))))))
    (fin : ∀ acc μ, J [] acc μ → R μ) : ∃ μ', dComp it b c e vs δ μ = .ok (.loc μ1.length) μ' ∧ R μ' := by
  obtain ⟨μ', e1, r⟩ := compGo_loop at' g st fin I.ds [] _ h0
  refine ⟨μ', ?_, r⟩
  unfold dComp
  rw [e0]
  show (match compGo I.gd b c e μ1.length (wipeD δ vs) I.ds (μ1 ++ [.lst []]) with | some μ2 => _ | none => _) = _
  rw [e1]
/-- a while: J before each test, with what is still left of the turns -/
theorem whileGo_loop {c : DTn} {body : DSn} {W : SO → Prop} {J : Nat → VS → List M → Prop} (st : ∀ n δ μ, J n δ μ → (∃ μ1, c δ μ = .ok false μ1 ∧ W (.nx δ μ1)) ∨
      (∃ m μ1, n = m + 1 ∧ c δ μ = .ok true μ1 ∧ Turn (J m) W (body δ μ1))) : ∀ n δ μ k, J n δ μ → n < k → W (whileGo c body k δ μ)
  | n, δ, μ, 0, _, l => absurd l (Nat.not_lt_zero _)
  | n, δ, μ, k + 1, h, l => by
    rcases st n δ μ h with ⟨μ1, e, w⟩ | ⟨m, μ1, rfl, e, t⟩
    · rw [whileGo, e]
      exact w
    · rw [whileGo, e]
      show W (match body δ μ1 with | .nx δ2 μ2 => _ | .cnt δ2 μ2 => _ | .brk δ2 μ2 => _ | o => o)
      cases q : body δ μ1 with
      | nx δ2 μ2 => rw [q] at t; exact whileGo_loop st m δ2 μ2 k t (by omega)
      | cnt δ2 μ2 => rw [q] at t; exact whileGo_loop st m δ2 μ2 k t (by omega)
      | brk δ2 μ2 => rw [q] at t; exact t
      | ret z μ2 => rw [q] at t; exact t
      | exc z δ2 μ2 => rw [q] at t; exact t
      | bad => rw [q] at t; exact t.elim
end Dn
set_option Elab.async false
set_option linter.all false
set_option maxRecDepth 100000
set_option maxHeartbeats 1000000
set_option autoImplicit false
/-! DnB: slices, unpacking of any row, classes by their names, calls with keywords. -/
namespace Dn
open PySem PySem.Spec PyProof.Rows L2 Gk
section
variable {K : PySem.W.Frag} {E : L2.St → XK} {S : L2.St → Prop} {te ta tb : TE} {tt : TA} {a b : DEn} {da : DAn}
/-! ### slices -/
abbrev DPn := VS → List M → Out (Option Int)
abbrev RPt : List Addr → Hp → Option Int → Option Int → Prop := fun _ _ a b => a = b
abbrev SP (K : PySem.W.Frag) (E : L2.St → XK) (S : L2.St → Prop) (t : TO) (d : DPn) : Prop := SG RPt K E S t d
def dNoPart : DPn := fun _ μ => .ok none μ
def dPart (a : DEn) : DPn := fun δ μ => (a δ μ).bind fun x μ1 => match x with
  | .int i => .ok (some i) μ1
  | _ => .bad
theorem sp_none : SP K E S tNoPart dNoPart := fun ρ F δ μ σ H Q r v s p => p ρ F none H (.refl _ _) r rfl
theorem sp_some (ha : SE K E S te a) : SP K E S (tPart te) (dPart a) := by
  intro ρ F δ μ σ H Q r v s p
  refine ha.thn r v s p fun x μ1 ρ1 F1 y H1 e0 ex0 r1 v1 q1 p1 => ?_
  cases x <;> first | exact p1.elim | skip
  cases q1
  exact ⟨_, rfl, p1 ρ1 F1 _ H1 (.refl _ _) r1 rfl⟩
def cutD (xs : List D) (lo hi : Option Int) : List D := (xs.drop (HT.sIx xs.length 0 lo)).take (HT.sIx xs.length xs.length hi - HT.sIx xs.length 0 lo)
theorem cut_rel {ρ : List Addr} {F : Hp} {ds : List D} {xs : List V} (h : DRs K ρ F ds xs) (lo hi : Option Int) : DRs K ρ F (cutD ds lo hi) (cutV xs lo hi) := by
  unfold cutD cutV
  rw [h.length]
  exact (h.drop _).take _
/-- a list's items -/
def lsS (μ : List M) : D → Option (List D)
  | .lst ds => some ds
  | .loc k => match μ[k]? with
    | some (.lst ds) => some ds
    | _ => none
  | _ => none
theorem lsS_ok {ρ : List Addr} {F H : Hp} {μ : List M} (r : RH K ρ F μ H) {d : D} {v : V} {ds : List D} (h : DR K ρ F d v) (q : lsS μ d = some ds) : ∃ a xs, v = .ref a ∧ SqL K H a xs ∧ DRs K ρ F ds xs := by
  cases d with
  | lst es => cases h with
    | lst a b => cases q; exact ⟨_, _, rfl, Same.seq r.fr a, b⟩
  | loc k =>
    cases h with
    | loc z =>
      rw [lsS] at q
      cases y : μ[k]? with
      | none => rw [y] at q; cases q
      | some m =>
        cases m with
        | ins C fs => rw [y] at q; cases q
        | dct ks => rw [y] at q; cases q
        | lst es =>
          rw [y] at q
          cases q
          obtain ⟨xs, e, rx⟩ := r.ob _ _ _ z y
          exact ⟨_, _, rfl, SqL.of e, rx⟩
  | _ => cases q
def fSl (x : D) (lo hi : Option Int) (μ : List M) : Out D := match x with
  | .tup ds => if HT.sIx ds.length 0 lo = 0 ∧ HT.sIx ds.length ds.length hi = ds.length then .ok x μ else .ok (.tup (cutD ds lo hi)) μ
  | _ => match lsS μ x with
    | some ds => .ok (.loc μ.length) (μ ++ [.lst (cutD ds lo hi)])
    | none => .bad
def rSl2 (K : PySem.W.Frag) : V → Option Int → Option Int → Hp → VK → Prop := fun x lo hi H Q => rSlL K x lo hi H Q ∨ rSlA K x lo hi H Q
theorem sl_two {X : Cx} : SlR X (rSl2 X.K) := SlR.or sl_list sl_tupA
def dSl (a : DEn) (l h : DPn) : DEn := fun δ μ => (a δ μ).bind fun x μ1 => (l δ μ1).bind fun lo μ2 => (h δ μ2).bind fun hi μ3 => fSl x lo hi μ3
theorem fSl_ok {ρ : List Addr} {F H : Hp} {μ : List M} (r : RH K ρ F μ H) {x : D} {v : V} {lo hi : Option Int} {Q : VK} {E : XK} (h : DR K ρ F x v) (p : Post (RE K) K ρ F (fSl x lo hi μ) Q E) : rSl2 K v lo hi H Q := by
  by_cases ht : ∃ ds, x = .tup ds
  · obtain ⟨ds, rfl⟩ := ht
    cases h with
    | @tup a xs _ sq dr =>
      right
      have l := dr.length
      refine ⟨a, xs, rfl, sqT_same r.fr sq, fun hw => ?_, fun hw q hq => ?_⟩
      · rw [← l] at hw
        unfold fSl at p
        dsimp only at p
        rw [if_pos hw] at p
        exact p ρ F _ H (.refl _ _) r (.tup sq dr)
      · rw [← l] at hw
        unfold fSl at p
        dsimp only at p
        rw [if_neg hw] at p
        obtain ⟨r2, e2⟩ := r.grow (o := .tup (cutV xs lo hi)) hq
        have dr2 := cut_rel dr lo hi
        exact p ρ _ _ _ e2 r2 (.tup (SqT.of upd_same) (dr2.mono e2))
  · have e : fSl x lo hi μ = match lsS μ x with
      | some ds => .ok (.loc μ.length) (μ ++ [.lst (cutD ds lo hi)])
      | none => .bad := by
      unfold fSl
      cases x <;> first | rfl | exact absurd ⟨_, rfl⟩ ht
    rw [e] at p
    cases q : lsS μ x with
    | none => rw [q] at p; exact p.elim
    | some ds =>
      rw [q] at p
      obtain ⟨a, xs, rfl, sq, dr⟩ := lsS_ok r h q
      left
      refine ⟨a, xs, rfl, sq, fun b hb => ?_⟩
      have dr2 := cut_rel dr lo hi
      obtain ⟨r2, e2⟩ := r.alloc (o := .lst (cutV xs lo hi)) (m := .lst (cutD ds lo hi)) hb ⟨_, rfl, dr2⟩
      exact p _ _ _ _ e2 r2 (.loc (by rw [← r.len]; exact loc_new _ _))
theorem se_sl {tl th : TO} {l h : DPn} (ha : SE K E S te a) (hl : SP K E S tl l) (hh : SP K E S th h) : SE K E S (tSl (rSl2 K) te tl th) (dSl a l h) := by
  intro ρ F δ μ σ H Q r v s p
  refine ha.thn r v s p fun x μ1 ρ1 F1 y H1 e0 ex0 r1 v1 q1 p1 => ?_
  refine SG.thn hl r1 v1 s p1 fun lo μ2 ρ2 F2 lo' H2 e2 ex2 r2 v2 q2 p2 => ?_
  cases q2
  refine SG.thn hh r2 v2 s p2 fun hi μ3 ρ3 F3 hi' H3 e3 ex3 r3 v3 q3 p3 => ?_
  cases q3
  exact fSl_ok r3 ((q1.mono ex2).mono ex3) p3
/-! ### (a, b, ..) = a row -/
def gAny (K : PySem.W.Frag) (n : Nat) (t : TGs) : TG := fun v σ H Q => gTup K n t v σ H Q ∨ gUnl K n t v σ H Q
theorem pg_any {X : Cx} {pos : Pos} {es : List Expr} {k : Nat} {t : TGs} {n : Nat} (hc : X.calm = true) (h : PGs X es t)
    (hn : (assignEach es X.env).length = n := by rfl) (hst : (assignEach es X.env).findIdx? (·.1) = none := by rfl) : PG X (.Tuple es k pos) (gAny X.K n t) :=
  ⟨fun pins s σ H v u Q I r hw => by
    rcases hw with hw | hw
    · exact (pg_tup (pos := pos) hc h hn hst).run pins s σ H v u Q I r hw
    · exact (pg_unl (pos := pos) hc h hn hst).run pins s σ H v u Q I r hw⟩
def dgAny (n : Nat) (h : List D → DSn) : DGn := fun x δ μ => match seqS μ x with
  | some ds => if ds.length = n then h ds δ μ else .bad
  | none => .bad
theorem seq_two {ρ : List Addr} {F H : Hp} {μ : List M} (r : RH K ρ F μ H) {d : D} {v : V} {ds : List D} (h : DR K ρ F d v) (q : seqS μ d = some ds) : ∃ a xs, v = .ref a ∧ (SqT K H a xs ∨ SqL K H a xs) ∧ DRs K ρ F ds xs := by
  cases d with
  | tup es => cases h with
    | tup a b => cases q; exact ⟨_, _, rfl, .inl (sqT_same r.fr a), b⟩
  | lst es =>
    obtain ⟨a, xs, h1, h2, h3⟩ := lsS_ok r h (show lsS μ (.lst es) = some ds from q)
    exact ⟨a, xs, h1, .inr h2, h3⟩
  | loc k =>
    obtain ⟨a, xs, h1, h2, h3⟩ := lsS_ok r h (show lsS μ (.loc k) = some ds from q)
    exact ⟨a, xs, h1, .inr h2, h3⟩
  | _ => cases q
theorem tg_any {n : Nat} {gs : TGs} {ds : List D → DSn} (h : TGts K gs ds) : TGt K (gAny K n gs) (dgAny n ds) := fun ρ F δ μ σ H x w Q r v q p => by
  unfold dgAny at p
  cases e : seqS μ x with
  | none => rw [e] at p; exact p.elim
  | some xs =>
    rw [e] at p
    dsimp only at p
    split at p
    · rename_i hl
      obtain ⟨a, vs, rfl, sq, dr⟩ := seq_two r q e
      rcases sq with sq | sq
      · exact .inl ⟨_, _, rfl, sq, by rw [← dr.length]; exact hl, h ρ F δ μ σ H xs _ Q r v dr p⟩
      · exact .inr ⟨_, _, rfl, sq, by rw [← dr.length]; exact hl, h ρ F δ μ σ H xs _ Q r v dr p⟩
    · exact p.elim
theorem tw_any {ws : List Nat} {n : Nat} {gs : TGs} {ds : List D → DSn} (h : TGsw K ws gs ds) : TGw K ws (gAny K n gs) (dgAny n ds) := fun ρ F δ μ σ H x w Q r v q p => by
  unfold dgAny at p
  cases e : seqS μ x with
  | none => rw [e] at p; exact p.elim
  | some xs =>
    rw [e] at p
    dsimp only at p
    split at p
    · rename_i hl
      obtain ⟨a, vs, rfl, sq, dr⟩ := seq_two r q e
      rcases sq with sq | sq
      · exact .inl ⟨_, _, rfl, sq, by rw [← dr.length]; exact hl, h ρ F δ μ σ H xs _ Q r v dr p⟩
      · exact .inr ⟨_, _, rfl, sq, by rw [← dr.length]; exact hl, h ρ F δ μ σ H xs _ Q r v dr p⟩
    · exact p.elim
/-! ### values in another order -/
def pick {α : Type} (is : List Nat) (xs : List α) : List α := is.filterMap fun i => xs[i]?
theorem pick_rel {ρ : List Addr} {F : Hp} {ds : List D} {xs : List V} (h : DRs K ρ F ds xs) : ∀ is : List Nat, DRs K ρ F (pick is ds) (pick is xs)
  | [] => .nil
  | i :: is => by
    have t := pick_rel h is
    unfold pick at t ⊢
    rw [List.filterMap_cons, List.filterMap_cons]
    cases e : ds[i]? with
    | some d =>
      obtain ⟨v, hv, r⟩ := h.get e
      rw [hv]
      exact .cons r t
    | none =>
      have : xs[i]? = none := by
        rw [List.getElem?_eq_none_iff] at e ⊢
        rw [← h.length]
        exact e
      rw [this]
      exact t
theorem pick_vals : ∀ {xs : List V} {us : List Value} (is : List Nat), Vals xs us → Vals (pick is xs) (pick is us)
  | _, _, [], _ => .nil
  | xs, us, i :: is, h => by
    have t := pick_vals is h
    unfold pick at t ⊢
    rw [List.filterMap_cons, List.filterMap_cons]
    cases e : xs[i]? with
    | some d =>
      obtain ⟨v, hv, r⟩ := Vals.get h e
      rw [hv]
      exact .cons r t
    | none =>
      have : us[i]? = none := by
        rw [List.getElem?_eq_none_iff] at e ⊢
        rw [← h.length]
        exact e
      rw [this]
      exact t
end
/-! ### a def without defaults, called with keywords -/
theorem kb_fun {K : PySem.W.Frag} {x qual : Str} {st : Stmt} {f : Addr} {fd : FuncData} {ps : List Str} (F : Fun K x qual st f fd) (n : Nat) (ks : List Str) (is : List Nat)
    (h : ∀ (kV doc pm : Value) (an : Option Addr) (cdv ct : Value) (us ws : List Value), us.length = n → ws.length = ks.length → bindArgs (PySem.W.fnOf x qual (defArgs st) (defBody st) (defScope st) .none kV doc pm an cdv ct) ⟨us, ks.zip ws⟩ = pure (ps.zip (us ++ pick is ws))) :
    KBn K fd ps n ks (fun us ws => us ++ pick is ws) (fun vs zs => vs ++ pick is zs) := by
  obtain ⟨oc, od, kV, doc, pm, an, cdv, ct, osl, rfl, lk, hcd⟩ := F.ex
  refine ⟨fun s us ws X l1 l2 => BindsTo.of_looks fun M => ?_, fun r1 r2 => Vals.append r1 (pick_vals is r2)⟩
  rw [h kV doc pm an cdv ct us ws l1 l2]
  exact PySem.W.Looks.of_pure rfl
end Dn
set_option Elab.async false
set_option linter.all false
set_option maxRecDepth 100000
set_option maxHeartbeats 1000000
set_option autoImplicit false
/-! DnC: classes by their names; instances made by values and by keywords; classes that only keep what they are given. -/
namespace Dn
open PySem PySem.Spec PyProof.Rows L2 Gk
/-! ### C(k = v, ..), its errors wished for at the slots -/
def tMakeKS (C : Addr) (m : Nat) (sp : Sp) (gV : List V → List V → List V) (E : L2.St → XK) (tk : TA) : TE := fun σ H Q => tk σ H fun zs H2 => zs.length = m ∧ ∀ x dx, H2 x = none → H2 dx = none → dx ≠ x →
  sp (gV [.ref x] zs) (upd (upd H2 dx (.own x)) x (.ins C dx [])) (fun v H3 => v = .non ∧ Q (.ref x) H3) (E σ)
section
variable {X : Cx} {CX : CXT} {k : Nat} {f C : Addr} {fd : FuncData} {ps ks : List Str} {sp : Sp} {E : L2.St → XK} {x : Str} {p pos : Pos} {kws : List Keyword} {tk : TA} {g : List Value → List Value → List Value} {gV : List V → List V → List V}
theorem pe_makeKS (M : Mk X.K C f) (G : FnOk X.prog X.w X.K X.mg X.base CX k f fd ps sp) (hr : Room (k + 1) X.A) (hg : Gl X x) (hm : X.mg x = some (.ref C)) (hb : KBn X.K fd ps 1 ks g gV) (hx : ∀ σ, PassesAt CX X σ (E σ)) (hkw : PK X kws tk)
    (hall : (backToKw pos (keywordEach kws X.env)).all (·.1.isSome) = true := by rfl) (hks : (backToKw pos (keywordEach kws X.env)).filterMap (·.1) = ks := by rfl) (hdb : (x == ("__debug__" : Str)) = false := by decide)
    (hpl : ((backTo pos (starEach [] X.env)).any (·.1) || (backToKw pos (keywordEach kws X.env)).any (·.1.isNone)) = false := by rfl) :
    PE X (.Call (.Name x p) [] kws pos) (tMakeKS C ks.length sp gV E tk) := by
  constructor
  intro pins s σ H Q I h
  refine wpAny_Call_Name_kw (ld_glob I hg hm ?_ hdb)
  refine PySem.W.callWith_KW0 (h₀ := X.base) I.ok.mod.kin M.kp hall ?_ hpl
  refine thn (hkw.run pos pins s σ H _ I h) fun ws s1 z => ?_
  obtain ⟨zs, H1, I1, rz, l2, q⟩ := z
  refine ⟨I1.kIn, ?_⟩
  rw [hks]
  have hq := q (s1.heap.objs.size + 1) s1.heap.objs.size (I1.hok.fresh (Nat.le_succ _)) (I1.hok.fresh (Nat.le_refl _)) (Nat.ne_of_lt (Nat.lt_succ_self _))
  have I2 := Inv.made (C := C) I1
  have r1 : Vals [V.ref (s1.heap.objs.size + 1)] [Value.ref (s1.heap.objs.size + 1)] := .cons rfl .nil
  have r2 := hb.rel r1 rz
  have c := G.run _ X.stack _ _ ⟨[Value.ref (s1.heap.objs.size + 1)], ks.zip ws⟩ (g [Value.ref (s1.heap.objs.size + 1)] ws) _ _ (E σ) (hr.make C [] (ks.zip ws)) (I2.env0.make C [] (ks.zip ws))
    (hb.to _ [Value.ref (s1.heap.objs.size + 1)] ws I2.kIn rfl (rz.length.symm.trans l2)) r2 hq
  refine wpAny_call (make_map (f := f) I1.kIn M.makes M.init (beq_iff_eq.mp M.fn) (codeAny_mono c fun res s2 z => ?_))
  cases res with
  | error er => exact hx σ pins _ _ er s2 I2 z
  | ok fl =>
    cases fl with
    | ret u =>
      obtain ⟨v, H3, I3, rv, ev, q3⟩ := I2.after z
      rw [ev] at rv
      exact ⟨rv, ⟨V.ref (s1.heap.objs.size + 1), H3, I3, rfl, q3⟩⟩
    | next => exact False.elim z
    | brk => exact False.elim z
    | cont => exact False.elim z
end
/-! ### classes by their names -/
section
variable (P : Program) (w : World) (K : PySem.W.Frag) (mg : Str → Option Value) (base : Heap)
/-- the class of this name stands at C; its __init__, whose text is st, keeps the function `den` -/
structure ClAt (k : Nat) (nm ql : Str) (st : Stmt) (C : Addr) (ps : List Str) (dd : List (V × D)) (den : Den) : Prop where
  ex : ∃ (f : Addr) (fd : FuncData) (ds : List Value), Mk K C f ∧ mg nm = some (.ref C) ∧ Fun K "__init__" ql st f fd ∧ (∀ m, m ≤ dd.length → Binds K fd ps (ds.drop m)) ∧ Vals (dd.map (·.1)) ds ∧
    FnOk P w K mg base (L2.CX P w) k f fd ps (spD K den ps.length)
end
/-- what the head says of such a class -/
def ClsAt (K : PySem.W.Frag) (mg : Str → Option Value) (nm ql : Str) (st : Stmt) (C : Addr) : Prop := ∃ (f : Addr) (fd : FuncData), Mk K C f ∧ Fun K "__init__" ql st f fd ∧ mg nm = some (.ref C)
section
variable {P : Program} {w : World} {K : PySem.W.Frag} {mg : Str → Option Value} {base : Heap} {k : Nat} {nm ql : Str} {st : Stmt} {C : Addr} {N ps : List Str} {g : DSn} {own : Bool}
theorem mkCl (F : ClsAt K mg nm ql st C) (Sc : FnScope N ps (defScope st))
    (hbi : ∀ (kV doc pm : Value) (an : Option Addr) (cdv ct : Value) (us : List Value), us.length = ps.length → bindArgs (PySem.W.fnOf "__init__" ql (defArgs st) (defBody st) (defScope st) .none kV doc pm an cdv ct) ⟨us, []⟩ = pure (ps.zip us))
    (hb : ∀ (f : Addr) (cdv : Value) (A : Around) (outer : List Env) (s : Shared) (H : Hp) (E : XK), Room k (A.deeper (envOfC ql (defScope st) s.heap.objs.size f cdv)) →
      ∃ t, PSs (cxOf (L2.CX P w) P w K mg base N ql (defScope st) f cdv A outer s H E) (defBody st) t ∧ SSt K (WE fun cls d _ H => E cls d H) t g) :
    ClAt P w K mg base (k + 1) nm ql st C ps [] (dDef N.length own g) := by
  obtain ⟨f, fd, M, F, gm⟩ := F
  refine ⟨f, fd, [], M, gm, F, fun m hm => ?_, .nil, fn_den F Sc (hb f)⟩
  have e : m = 0 := Nat.le_zero.mp hm
  subst e
  exact F.binds hbi
end
section
variable {X : Cx} {W : WX} {k : Nat} {nm ql : Str} {st : Stmt} {C : Addr} {ps : List Str} {dd : List (V × D)} {den : Den} {p pos : Pos} {e : Expr} {es : List Expr} {t : TA}
theorem pe_mkat (h : ClAt X.prog X.w X.K X.mg X.base k nm ql st C ps dd den) (m : Nat) (hm : m ≤ dd.length) (rm : Room (k + 1) X.A) (hg : Gl X nm) (tk : Takes X W) (ha : PA X (e :: es) t)
    (hdb : (nm == ("__debug__" : Str)) = false := by decide) (he : starEach (e :: es) X.env = (false, eval e X.env) :: starEach es X.env := by rfl) (hpl : (backTo pos (starEach es X.env)).any (·.1) = false := by rfl) :
    PE X (.Call (.Name nm p) (e :: es) [] pos) (tMakeSD C (spD X.K den ps.length) ((dd.map (·.1)).drop m) (WE W) t) := by
  obtain ⟨f, fd, ds, M, gm, F, hb, hv, G⟩ := h.ex
  exact pe_makeSD M G rm hg gm (hb m hm) (Vals.drop m hv) (fun σ => passAt tk σ) ha hdb he hpl
theorem pe_mkkw {kws : List Keyword} {tk : TA} (h : ClAt X.prog X.w X.K X.mg X.base k nm ql st C ps [] den) (ks : List Str) (is : List Nat) (rm : Room (k + 1) X.A) (hg : Gl X nm) (tk' : Takes X W) (ha : PK X kws tk)
    (hbk : ∀ (kV doc pm : Value) (an : Option Addr) (cdv ct : Value) (us ws : List Value), us.length = 1 → ws.length = ks.length → bindArgs (PySem.W.fnOf "__init__" ql (defArgs st) (defBody st) (defScope st) .none kV doc pm an cdv ct) ⟨us, ks.zip ws⟩ = pure (ps.zip (us ++ pick is ws)))
    (hall : (backToKw pos (keywordEach kws X.env)).all (·.1.isSome) = true := by rfl) (hks : (backToKw pos (keywordEach kws X.env)).filterMap (·.1) = ks := by rfl) (hdb : (nm == ("__debug__" : Str)) = false := by decide)
    (hpl : ((backTo pos (starEach [] X.env)).any (·.1) || (backToKw pos (keywordEach kws X.env)).any (·.1.isNone)) = false := by rfl) :
    PE X (.Call (.Name nm p) [] kws pos) (tMakeKS C ks.length (spD X.K den ps.length) (fun vs zs => vs ++ pick is zs) (WE W) tk) := by
  obtain ⟨f, fd, ds, M, gm, F, hb, hv, G⟩ := h.ex
  exact pe_makeKS M G rm hg gm (kb_fun F 1 ks is hbk) (fun σ => passAt tk' σ) ha hall hks hdb hpl
end
/-! ### the functions -/
section
variable {K : PySem.W.Frag} {S : L2.St → Prop} {W : WX} {tk : TA} {da : DAn}
noncomputable def makeT (C : Addr) (den : Den) (xs : List D) (μ1 : List M) : Out D := match den (.loc μ1.length :: xs) (μ1 ++ [.ins C []]) with
  | .ok .non μ2 => leaveT μ1 (.ret (.loc μ1.length) μ2)
  | .exc z μ2 => leaveT μ1 (.exc z [] μ2)
  | _ => .bad
noncomputable def dMakeK (C : Addr) (den : Den) (n m : Nat) (is : List Nat) (da : DAn) : DEn := fun δ μ => (da δ μ).bind fun xs μ1 => if xs.length = m ∧ (pick is xs).length + 1 = n then makeT C den (pick is xs) μ1 else .bad
theorem make_tail {C : Addr} {den : Den} {n : Nat} {ρ1 : List Addr} {F1 : Hp} {μ1 : List M} {H1 : Hp} {xs : List D} {ys : List V} {Q : VK} {σ : L2.St} (r1 : RH K ρ1 F1 μ1 H1) (q1 : DRs K ρ1 F1 xs ys) (hl : xs.length + 1 = n)
    (p1 : Post (RE K) K ρ1 F1 (makeT C den xs μ1) Q (WE W σ)) (x dx : Addr) (hx : H1 x = none) (hdx : H1 dx = none) (hne : dx ≠ x) :
    spD K den n (.ref x :: ys) (upd (upd H1 dx (.own x)) x (.ins C dx [])) (fun v H3 => v = .non ∧ Q (.ref x) H3) (WE W σ) := by
  obtain ⟨r2, e2⟩ := r1.grow (o := .own x) hdx
  have hx2 : upd H1 dx (.own x) x = none := by rw [upd_ne (Ne.symm hne)]; exact hx
  obtain ⟨r3, e3⟩ := r2.alloc (o := .ins C dx []) (m := .ins C []) hx2 ⟨dx, [], rfl, .nil⟩
  have e23 := e2.trans e3
  have dr := q1.mono e23
  refine ⟨_, _, _, _, r3, .cons (.loc (k := μ1.length) (by rw [← r1.len]; exact loc_new _ _)) dr, by rw [List.length_cons, ← dr.length]; exact hl, ?_⟩
  unfold makeT at p1
  cases e4 : den (.loc μ1.length :: xs) (μ1 ++ [.ins C []]) with
  | bad => rw [e4] at p1; exact p1.elim
  | exc z μ2 =>
    rw [e4] at p1
    have sp := leaveT_ok (K := K) (Q := Q) (E := WE W σ) r1 p1
    intro ρ' F' H' d ex r q
    exact sp ρ' F' (L2.wipe [] []) H' d (e23.trans ex) r ⟨rfl, fun i dd h => by simp at h⟩ q
  | ok y μ2 =>
    rw [e4] at p1
    cases y <;> first | exact p1.elim | skip
    have sp := leaveT_ok (K := K) (Q := Q) (E := WE W σ) r1 p1
    intro ρ' F' u H' ex r q
    cases q
    refine ⟨rfl, sp ρ' F' _ H' (e23.trans ex) r (.loc (ex.pre _ _ ?_))⟩
    rw [← r1.len]
    exact loc_new _ _
theorem se_makeK {C : Addr} {den : Den} {n m : Nat} {is : List Nat} (ha : SA K (WE W) S tk da) : SE K (WE W) S (tMakeKS C m (spD K den n) (fun vs zs => vs ++ pick is zs) (WE W) tk) (dMakeK C den n m is da) := by
  intro ρ F δ μ σ H Q rh v s p
  refine ha.thn rh v s p fun xs μ1 ρ1 F1 ys H1 e0 ex0 r1 v1 q1 p1 => ?_
  split at p1
  · rename_i hl
    refine ⟨by rw [← q1.length]; exact hl.1, fun x dx hx hdx hne => ?_⟩
    exact make_tail r1 (pick_rel q1 is) hl.2 p1 x dx hx hdx hne
  · exact p1.elim
end
/-! ### reckoning -/
section
variable {μ : List M}
theorem dMake_T {C : Addr} {den : Den} {n : Nat} {da : DAn} {δ : VS} {μ1 : List M} {xs : List D} (h : da δ μ = .ok xs μ1) (hl : xs.length + 1 = n) : dMake C den n [] da δ μ = makeT C den xs μ1 := by
  unfold dMake
  rw [h, bind_ok, List.append_nil, if_pos hl]
  rfl
theorem dMakeK_T {C : Addr} {den : Den} {n m : Nat} {is : List Nat} {da : DAn} {δ : VS} {μ1 : List M} {xs : List D} (h : da δ μ = .ok xs μ1) (hl : xs.length = m ∧ (pick is xs).length + 1 = n) : dMakeK C den n m is da δ μ = makeT C den (pick is xs) μ1 := by
  unfold dMakeK
  rw [h, bind_ok, if_pos hl]
theorem back_app {μ l : List M} : Back μ.length μ (μ ++ l) := ⟨by rw [List.length_append]; omega, fun k hk => .inl (List.getElem?_append_left hk)⟩
theorem leave_ret {x y : D} {μ' : List M} (b : Back μ.length μ μ') (h : fzB μ.length (fzK μ.length none μ' deepK) x = some y) : leaveT μ (.ret x μ') = .ok y (μ'.take μ.length) := by
  unfold leaveT
  dsimp only
  rw [if_pos b, h]
theorem leave_clo {x : D} {μ' : List M} (b : Back μ.length μ μ') (h : clo μ.length x = true) : leaveT μ (.ret x μ') = .ok x (μ'.take μ.length) := leave_ret b (fzB_clo _ _ x h)
theorem leave_nxb {δ : VS} {μ' : List M} (b : Back μ.length μ μ') : leaveT μ (.nx δ μ') = .ok .non (μ'.take μ.length) := by
  unfold leaveT
  dsimp only
  rw [if_pos b]
mutual
theorem clo_mono {n m : Nat} (h : n ≤ m) : ∀ {d : D}, clo n d = true → clo m d = true
  | .loc k, c => by rw [clo] at c ⊢; exact decide_eq_true (Nat.lt_of_lt_of_le (of_decide_eq_true c) h)
  | .tup ds, c => by rw [clo] at c ⊢; exact clos_mono h c
  | .lst ds, c => by rw [clo] at c ⊢; exact clos_mono h c
  | .ins _ fs, c => by rw [clo] at c ⊢; exact clof_mono h c
  | .dct ks, c => by rw [clo] at c ⊢; exact clok_mono h c
  | .non, _ => rfl
  | .bl _, _ => rfl
  | .int _, _ => rfl
  | .str _, _ => rfl
  | .glb _, _ => rfl
theorem clos_mono {n m : Nat} (h : n ≤ m) : ∀ {ds : List D}, clos n ds = true → clos m ds = true
  | [], _ => rfl
  | d :: ds, c => by
    rw [clos, Bool.and_eq_true] at c ⊢
    exact ⟨clo_mono h c.1, clos_mono h c.2⟩
theorem clof_mono {n m : Nat} (h : n ≤ m) : ∀ {ds : List (Str × D)}, clof n ds = true → clof m ds = true
  | [], _ => rfl
  | (_, d) :: ds, c => by
    rw [clof, Bool.and_eq_true] at c ⊢
    exact ⟨clo_mono h c.1, clof_mono h c.2⟩
theorem clok_mono {n m : Nat} (h : n ≤ m) : ∀ {ds : List (Key × D)}, clok n ds = true → clok m ds = true
  | [], _ => rfl
  | (_, d) :: ds, c => by
    rw [clok, Bool.and_eq_true] at c ⊢
    exact ⟨clo_mono h c.1, clok_mono h c.2⟩
end
theorem clos_zip {n : Nat} : ∀ {fs : List Str} {xs : List D}, clos n xs = true → clof n (fs.zip xs) = true
  | [], _, _ => rfl
  | _ :: _, [], _ => rfl
  | f :: fs, x :: xs, h => by
    rw [clos, Bool.and_eq_true] at h
    rw [List.zip_cons_cons, clof, h.1, Bool.true_and]
    exact clos_zip h.2
/-- self.a = a; self.b = b; .. -/
def initB (c : ClsF) : Nat → List Str → DSn
  | _, [] => dNext
  | i, [f] => dPutF c (dVar 0) (dVar i) f
  | i, f :: g :: r => dSeq (dPutF c (dVar 0) (dVar i) f) (initB c (i + 1) (g :: r))
theorem putD_new {f : Str} {d : D} : ∀ {l : List (Str × D)}, f ∉ l.map (·.1) → putD f d l = l ++ [(f, d)]
  | [], _ => rfl
  | (g, x) :: r, h => by
    rw [List.map_cons, List.mem_cons, not_or] at h
    rw [putD, if_neg (fun e => h.1 e.symm), putD_new h.2]
    rfl
theorem putF_at {c : ClsF} {C : Addr} {δ : VS} {f : Str} {i : Nat} {y : D} {l : List (Str × D)} (h0 : δ[0]? = some (some (.loc μ.length))) (hi : δ[i]? = some (some y)) (hc : c C f = true) (hn : f ∉ l.map (·.1)) (hl : l.length < 1000) :
    dPutF c (dVar 0) (dVar i) f δ (μ ++ [.ins C l]) = .nx δ (μ ++ [.ins C (l ++ [(f, y)])]) := by
  unfold dPutF
  rw [dVar_eq, hi, getV_some, thenS_ok, dVar_eq, h0, getV_some, thenS_ok]
  dsimp only
  rw [List.getElem?_append_right (Nat.le_refl _), Nat.sub_self]
  show (if c C f = true ∧ l.length < 1000 then _ else _) = _
  rw [if_pos ⟨hc, hl⟩, List.set_append_right _ _ (Nat.le_refl _), Nat.sub_self, putD_new hn]
  rfl
theorem initB_run {c : ClsF} {C : Addr} {δ : VS} (h0 : δ[0]? = some (some (.loc μ.length))) : ∀ (fs : List Str) (xs : List D) (i : Nat) (l : List (Str × D)), fs.length = xs.length → (∀ j, j < xs.length → δ[i + j]? = some xs[j]?) → (∀ f ∈ fs, c C f = true) →
    (l.map (·.1) ++ fs).Nodup → l.length + fs.length < 1000 → initB c i fs δ (μ ++ [.ins C l]) = .nx δ (μ ++ [.ins C (l ++ fs.zip xs)])
  | [], xs, i, l, hl, hd, hc, hn, hz => by
    rw [initB, List.zip_nil_left, List.append_nil]
    rfl
  | [f], xs, i, l, hl, hd, hc, hn, hz => by
    match xs, hl with
    | [x], _ =>
      have e : δ[i]? = some (some x) := hd 0 (Nat.succ_pos _)
      rw [initB]
      rw [putF_at h0 (y := x) e (hc f (List.mem_singleton.mpr rfl)) (fun m => ?_) (by simp at hz; omega)]
      · rfl
      · rw [List.nodup_append] at hn
        exact hn.2.2 f m f (List.mem_singleton.mpr rfl) rfl
  | f :: g :: r, xs, i, l, hl, hd, hc, hn, hz => by
    match xs, hl with
    | x :: ys, hl =>
      have e : δ[i]? = some (some x) := hd 0 (Nat.succ_pos _)
      rw [initB, dSeq_eq]
      rw [putF_at h0 (y := x) e (hc f (List.mem_cons_self ..)) (fun m => ?_) (by simp at hz; omega), thn_nx]
      · have hd2 : ∀ j, j < ys.length → δ[i + 1 + j]? = some ys[j]? := fun j hj => by
          have := hd (j + 1) (by simpa using hj)
          rw [List.getElem?_cons_succ] at this
          rw [show i + 1 + j = i + (j + 1) by omega]
          exact this
        have hn2 : ((l ++ [(f, x)]).map (·.1) ++ g :: r).Nodup := by
          rw [List.map_append, List.append_assoc]
          exact hn
        rw [initB_run h0 (g :: r) ys (i + 1) (l ++ [(f, x)]) (by simpa using hl) hd2 (fun q hq => hc q (List.mem_cons_of_mem _ hq)) hn2 (by simp at hz ⊢; omega), List.append_assoc]
        rfl
      · rw [List.nodup_append] at hn
        exact hn.2.2 f m f (List.mem_cons_self ..) rfl
theorem slots_full {xs : List D} : slots xs.length xs = xs.map some := by
  unfold slots
  rw [Nat.sub_self, List.replicate_zero, List.append_nil]
/-- a class that only keeps what it is given -/
theorem make_plain {c : ClsF} {C : Addr} {fs : List Str} {xs : List D} {n : Nat} (hl : fs.length = xs.length) (hn : n = xs.length + 1) (hc : ∀ f ∈ fs, c C f = true) (nd : fs.Nodup) (hz : fs.length < 1000) (hx : clos μ.length xs = true) :
    makeT C (dDef n false (initB c 1 fs)) xs μ = .ok (.ins C (fs.zip xs)) μ := by
  unfold makeT
  rw [dDef_tree]
  have e0 : slots n (.loc μ.length :: xs) = some (D.loc μ.length) :: xs.map some := by
    subst hn
    exact slots_full (xs := .loc μ.length :: xs)
  rw [e0, initB_run rfl fs xs 1 [] hl (fun j hj => ?_) hc (by simpa using nd) (by simpa using hz)]
  · rw [List.nil_append]
    have lb : (μ ++ [M.ins C []]).length = μ.length + 1 := by rw [List.length_append]; rfl
    have b : Back (μ ++ [M.ins C []]).length (μ ++ [M.ins C []]) (μ ++ [M.ins C (fs.zip xs)]) := by
      refine ⟨by simp, fun k hk => ?_⟩
      rw [lb] at hk
      by_cases e : k < μ.length
      · left
        rw [List.getElem?_append_left e, List.getElem?_append_left e]
      · have ek : k = μ.length := by omega
        subst ek
        right
        refine ⟨_, by rw [List.getElem?_append_right (Nat.le_refl _), Nat.sub_self]; rfl, ?_⟩
        exact clos_zip (clos_mono (n := μ.length) (by rw [lb]; omega) hx)
    rw [leave_nxb b]
    have et : (μ ++ [M.ins C (fs.zip xs)]).take (μ ++ [M.ins C []]).length = μ ++ [M.ins C (fs.zip xs)] := by
      rw [lb, List.take_of_length_le (by rw [List.length_append]; exact Nat.le_refl _)]
    rw [et]
    dsimp only
    rw [leave_ret (y := .ins C (fs.zip xs)) back_app ?_]
    · rw [List.take_left']
      rfl
    · rw [fzB, if_neg (Nat.lt_irrefl _)]
      show fzK μ.length none _ (5 + 1) μ.length = _
      rw [fzK, if_neg (fun e => nomatch e), List.getElem?_append_right (Nat.le_refl _), Nat.sub_self]
      show (fzBf μ.length _ (fs.zip xs)).map _ = _
      rw [fzBf_clo _ _ _ (clos_zip hx)]
      rfl
  · rw [Nat.add_comm 1 j, List.getElem?_cons_succ, List.getElem?_map, List.getElem?_eq_getElem hj]
    rfl
end
end Dn
set_option Elab.async false
set_option linter.all false
set_option maxRecDepth 100000
set_option maxHeartbeats 1000000
set_option autoImplicit false
/-! DnD: and, or, not as values; chains; in; is of bools; x op= y; a, b = c, d; methods of lists; raise. -/
namespace Dn
open PySem PySem.Spec PyProof.Rows L2 Gk
section
variable {K : PySem.W.Frag} {E : L2.St → XK} {S : L2.St → Prop} {te ta tb tc : TE} {a b c : DEn} {tr : TA} {da : DAn}
/-! ### and, or, not as values -/
def dAndV (a b : DEn) : DEn := fun δ μ => (a δ μ).bind fun x μ1 => match truS μ1 x with
  | some true => b δ μ1
  | some false => .ok x μ1
  | none => .bad
def dOrV (a b : DEn) : DEn := fun δ μ => (a δ μ).bind fun x μ1 => match truS μ1 x with
  | some true => .ok x μ1
  | some false => b δ μ1
  | none => .bad
def dNotV (a : DEn) : DEn := fun δ μ => (a δ μ).bind fun x μ1 => match truS μ1 x with
  | some k => .ok (.bl (!k)) μ1
  | none => .bad
theorem se_andV (ha : SE K E S ta a) (hb : SE K E S tb b) : SE K E S (tAndT K ta tb) (dAndV a b) := by
  intro ρ F δ μ σ H Q rh v s p
  refine ha.thn rh v s p fun x μ1 ρ1 F1 y H1 _ _ r1 v1 q1 p1 => ?_
  cases e : truS μ1 x with
  | none => rw [e] at p1; exact p1.elim
  | some k =>
    rw [e] at p1
    refine ⟨k, truS_V r1 q1 e, ?_⟩
    cases k with
    | true => rw [if_pos rfl]; exact hb ρ1 F1 δ μ1 σ H1 Q r1 v1 s p1
    | false => rw [if_neg Bool.false_ne_true]; exact p1 ρ1 F1 y H1 (.refl _ _) r1 q1
theorem se_orV (ha : SE K E S ta a) (hb : SE K E S tb b) : SE K E S (tOrT K ta tb) (dOrV a b) := by
  intro ρ F δ μ σ H Q rh v s p
  refine ha.thn rh v s p fun x μ1 ρ1 F1 y H1 _ _ r1 v1 q1 p1 => ?_
  cases e : truS μ1 x with
  | none => rw [e] at p1; exact p1.elim
  | some k =>
    rw [e] at p1
    refine ⟨k, truS_V r1 q1 e, ?_⟩
    cases k with
    | true => rw [if_pos rfl]; exact p1 ρ1 F1 y H1 (.refl _ _) r1 q1
    | false => rw [if_neg Bool.false_ne_true]; exact hb ρ1 F1 δ μ1 σ H1 Q r1 v1 s p1
theorem se_notV (ha : SE K E S ta a) : SE K E S (tNotT K ta) (dNotV a) := by
  intro ρ F δ μ σ H Q rh v s p
  refine ha.thn rh v s p fun x μ1 ρ1 F1 y H1 _ _ r1 v1 q1 p1 => ?_
  cases e : truS μ1 x with
  | none => rw [e] at p1; exact p1.elim
  | some k =>
    rw [e] at p1
    exact ⟨k, truS_V r1 q1 e, p1 ρ1 F1 _ H1 (.refl _ _) r1 (.bl _)⟩
/-! ### a op b op c -/
def dChainV (f g : FOp) (a b c : DEn) : DEn := fun δ μ => (a δ μ).bind fun x μ1 => (b δ μ1).bind fun y μ2 => (f x y μ2).bind fun z μ3 => match z with
  | .bl true => (c δ μ3).bind fun w μ4 => g y w μ4
  | .bl false => .ok (.bl false) μ3
  | _ => .bad
theorem se_chain {r r' : R2} {f g : FOp} (o : OpD K r f) (o' : OpD K r' g) (ha : SE K E S ta a) (hb : SE K E S tb b) (hc : SE K E S tc c) : SE K E S (tChain r r' ta tb tc) (dChainV f g a b c) := by
  intro ρ F δ μ σ H Q rh v s p
  refine ha.thn rh v s p fun x μ1 ρ1 F1 y H1 _ _ r1 v1 q1 p1 => ?_
  refine hb.thn r1 v1 s p1 fun x2 μ2 ρ2 F2 y2 H2 _ e2 r2 v2 q2 p2 => ?_
  refine o ρ2 F2 μ2 H2 x x2 y y2 _ (E σ) r2 (q1.mono e2) q2 ?_
  cases e3 : f x x2 μ2 with
  | bad => rw [e3] at p2; exact p2.elim
  | exc z μ3 => rw [e3] at p2; exact p2
  | ok z μ3 =>
    rw [e3] at p2
    intro ρ3 F3 z' H3 ex3 r3 q3
    have p3 := Post.ext ex3 p2
    cases z with
    | bl k =>
      cases q3
      cases k with
      | false =>
        refine ⟨false, rfl, ?_⟩
        rw [if_neg Bool.false_ne_true]
        exact p3 ρ3 F3 _ H3 (.refl _ _) r3 (.bl _)
      | true =>
        refine ⟨true, rfl, ?_⟩
        rw [if_pos rfl]
        refine hc.thn r3 (v2.mono ex3) s p3 fun x4 μ4 ρ4 F4 y4 H4 _ ex4 r4 v4 q4 p4 => ?_
        exact o' ρ4 F4 μ4 H4 x2 x4 y2 y4 Q (E σ) r4 ((q2.mono ex3).mono ex4) q4 p4
    | _ => exact p3.elim
/-! ### x in y -/
theorem okPy_lay {d : PyData} (h : okPy d = true) : d.canLay0 = true ∧ d.depth ≤ 50 := by
  unfold okPy at h
  rw [Bool.and_eq_true] at h
  exact ⟨h.1, of_decide_eq_true h.2⟩
def rInP (K : PySem.W.Frag) (neg : Bool) : R2 := fun x y H Q => ∃ d ds, Dp K H x d ∧ (Dp K H y (.list ds) ∨ Dp K H y (.tuple ds)) ∧ okPy d = true ∧ PyData.canLayAll0 ds = true ∧
  Q (.bl (if neg then !ds.any (fun z => PyData.eqv z d) else ds.any fun z => PyData.eqv z d)) H
theorem op_inP {X : Cx} (hu : X.A.units + 64 < cLine) : OpR X (compareOp .In) (rInP X.K false) := by
  intro pins s σ H x y v u Q I rx ry h
  obtain ⟨d, ds, hd, he, o1, l2, q⟩ := h
  obtain ⟨l1, d1⟩ := okPy_lay o1
  obtain ⟨as, r1⟩ := Dp.reads I d x v hd rx
  have room : X.A.units + 1 + min (PyData.depthAll ds) d.depth < cLine := by omega
  rcases he with he | he
  · obtain ⟨bs, r2⟩ := Dp.reads I (.list ds) y u he ry
    exact SeqAt.in_list_reads r2 r1 l2 l1 room ⟨.bl _, H, I, rfl, q⟩
  · obtain ⟨bs, r2⟩ := Dp.reads I (.tuple ds) y u he ry
    exact SeqAt.in_tuple_reads r2 r1 l2 l1 room ⟨.bl _, H, I, rfl, q⟩
theorem op_notInP {X : Cx} (hu : X.A.units + 64 < cLine) : OpR X (compareOp .NotIn) (rInP X.K true) := by
  intro pins s σ H x y v u Q I rx ry h
  obtain ⟨d, ds, hd, he, o1, l2, q⟩ := h
  obtain ⟨l1, d1⟩ := okPy_lay o1
  obtain ⟨as, r1⟩ := Dp.reads I d x v hd rx
  have room : X.A.units + 1 + min (PyData.depthAll ds) d.depth < cLine := by omega
  rcases he with he | he
  · obtain ⟨bs, r2⟩ := Dp.reads I (.list ds) y u he ry
    exact SeqAt.notIn_list_reads r2 r1 l2 l1 room ⟨.bl _, H, I, rfl, q⟩
  · obtain ⟨bs, r2⟩ := Dp.reads I (.tuple ds) y u he ry
    exact SeqAt.notIn_tuple_reads r2 r1 l2 l1 room ⟨.bl _, H, I, rfl, q⟩
def fInSeq (neg : Bool) : FOp := fun x y μ => match pyS μ x, pyS μ y with
  | some d, some (.list ds) => if okPy d && PyData.canLayAll0 ds then .ok (.bl (if neg then !ds.any (fun z => PyData.eqv z d) else ds.any fun z => PyData.eqv z d)) μ else .bad
  | some d, some (.tuple ds) => if okPy d && PyData.canLayAll0 ds then .ok (.bl (if neg then !ds.any (fun z => PyData.eqv z d) else ds.any fun z => PyData.eqv z d)) μ else .bad
  | _, _ => .bad
theorem od_in {neg : Bool} : OpD K (rInP K neg) (fInSeq neg) := fun ρ F μ H x y v u Q E rh p1 p2 p => by
  unfold fInSeq at p
  cases h1 : pyS μ x with
  | none => rw [h1] at p; exact p.elim
  | some d =>
    cases h2 : pyS μ y with
    | none => rw [h1, h2] at p; exact p.elim
    | some e =>
      rw [h1, h2] at p
      cases e with
      | list ds =>
        dsimp only at p
        split at p
        · rename_i h3
          rw [Bool.and_eq_true] at h3
          have cl : (PyData.list ds).canLay0 = true := by rw [PyData.canLay0]; exact h3.2
          exact ⟨d, ds, dp_of_dq d _ (okPy_lay h3.1).1 (pyS_dp rh p1 h1), .inl (dp_of_dq _ _ cl (pyS_dp rh p2 h2)), h3.1, h3.2, p ρ F _ H (.refl ρ F) rh (.bl _)⟩
        · exact p.elim
      | tuple ds =>
        dsimp only at p
        split at p
        · rename_i h3
          rw [Bool.and_eq_true] at h3
          have cl : (PyData.tuple ds).canLay0 = true := by rw [PyData.canLay0]; exact h3.2
          exact ⟨d, ds, dp_of_dq d _ (okPy_lay h3.1).1 (pyS_dp rh p1 h1), .inr (dp_of_dq _ _ cl (pyS_dp rh p2 h2)), h3.1, h3.2, p ρ F _ H (.refl ρ F) rh (.bl _)⟩
        · exact p.elim
      | _ => exact p.elim
/-! ### is None, is of bools -/
def fIsB (neg : Bool) : FOp := fun x y μ => match x, y with
  | .bl i, .bl j => .ok (.bl (if neg then !decide (i = j) else decide (i = j))) μ
  | _, _ => .bad
theorem od_isB : OpD K rIsB (fIsB false) := fun ρ F μ H x y v u Q E rh a b p => by
  cases x <;> first | exact p.elim | skip
  cases y <;> first | exact p.elim | skip
  cases a
  cases b
  exact ⟨_, _, rfl, rfl, p ρ F _ H (.refl ρ F) rh (.bl _)⟩
theorem od_notB : OpD K rNotB (fIsB true) := fun ρ F μ H x y v u Q E rh a b p => by
  cases x <;> first | exact p.elim | skip
  cases y <;> first | exact p.elim | skip
  cases a
  cases b
  exact ⟨_, _, rfl, rfl, p ρ F _ H (.refl ρ F) rh (.bl _)⟩
/-! ### x op= e; a, b = c, d -/
theorem ss_aug {r : R2} {f : FOp} {i : Nat} (o : OpD K r f) (ha : SE K E S ta a) : SS K E S (tAug i ta r) (dAug f i a) := by
  intro ρ F δ μ σ H T rh v s p
  unfold dAug at p
  cases e : δ[i]? with
  | none => rw [e] at p; exact p.elim
  | some w =>
    cases w with
    | none => rw [e] at p; exact p.elim
    | some x =>
      rw [e] at p
      obtain ⟨w, h1, h2⟩ := v.at_ i x e
      refine ⟨w, h1, ?_⟩
      refine ha.thnS rh v s p fun y μ1 ρ1 F1 u H1 _ ex r1 v1 q1 p1 => ?_
      refine o ρ1 F1 μ1 H1 x y w u _ (E σ) r1 (h2.mono ex) q1 ?_
      cases e3 : f x y μ1 with
      | bad => rw [e3] at p1; exact p1.elim
      | exc z μ3 =>
        rw [e3] at p1
        exact fun ρ' F' H' d ex r x => p1 ρ' F' σ H' d ex r (v1.mono ex) x
      | ok z μ3 =>
        rw [e3] at p1
        exact fun ρ3 F3 z' H3 ex3 r3 q3 => p1 ρ3 F3 _ H3 ex3 r3 ((v1.mono ex3).set i q3)
def dPar (i j : Nat) (da : DAn) : DSn := fun δ μ => match da δ μ with
  | .ok [x, y] μ1 => .nx ((δ.set i (some x)).set j (some y)) μ1
  | .exc z μ1 => .exc z δ μ1
  | _ => .bad
theorem ss_par {i j : Nat} (ha : SA K E S tr da) : SS K E S (tPar i j tr) (dPar i j da) := by
  intro ρ F δ μ σ H T rh v s p
  unfold dPar at p
  refine ha ρ F δ μ σ H _ rh v s ?_
  cases e : da δ μ with
  | bad => rw [e] at p; exact p.elim
  | exc z μ1 =>
    rw [e] at p
    exact fun ρ' F' H' d ex r x => p ρ' F' σ H' d ex r (v.mono ex) x
  | ok xs μ1 =>
    rw [e] at p
    intro ρ1 F1 ys H1 ex r1 q
    cases q with
    | nil => exact p.elim
    | cons q1 q2 =>
      cases q2 with
      | nil => exact p.elim
      | cons q2 q3 =>
        cases q3 with
        | cons _ _ => exact p.elim
        | nil => exact ⟨_, _, rfl, p ρ1 F1 _ H1 ex r1 (((v.mono ex).set i q1).set j q2)⟩
end
end Dn
set_option Elab.async false
set_option linter.all false
set_option maxRecDepth 100000
set_option maxHeartbeats 1000000
set_option autoImplicit false
/-! DnE: lists that are not changed any more, known from the start; new things made known in the middle of a def. -/
namespace Dn
open PySem PySem.Spec PyProof.Rows L2 Gk
section
variable {X : Cx}
/-- list + list, wherever they stand -/
def rCatL (K : PySem.W.Frag) : R2 := fun x y H Q => ∃ a b xs ys, x = .ref a ∧ y = .ref b ∧ SqL K H a xs ∧ SqL K H b ys ∧ xs.length + ys.length ≤ sizeLine ∧ ∀ p, H p = none → Q (.ref p) (upd H p (.lst (xs ++ ys)))
theorem op_catL : OpR X (binaryOp .Add) (rCatL X.K) := by
  intro pins s σ H x y v u Q I rx ry h
  obtain ⟨a, b, xs, ys, rfl, rfl, ha, hb, hz, q⟩ := h
  cases rx
  cases ry
  obtain ⟨its, r, ⟨⟨cls, dd, data, sl⟩, n, ho, hc, _, hd⟩, _⟩ := I.list ha
  obtain ⟨its2, r2, ⟨⟨cls2, dd2, data2, sl2⟩, n2, ho2, hc2, _, hd2⟩, _⟩ := I.list hb
  simp only at hc hd hc2 hd2
  subst hc hd hc2 hd2
  have hz' : its.toArray.size + its2.toArray.size ≤ sizeLine := by
    rw [List.size_toArray, List.size_toArray, ← r.length, ← r2.length]; exact hz
  refine concat_meets ⟨_, ho, rfl⟩ ⟨_, ho2, rfl⟩ noFill_list_add seq_list_add PySem.F.slot_list_add PySem.F.entry_list_add (PySem.F.args_list_add_2 _ _) (list_addW a b its.toArray its2.toArray n n2 dd dd2 sl sl2 hz') ⟨ho, ho2, ?_⟩
  have ea : its.toArray ++ its2.toArray = (its ++ its2).toArray := by simp
  rw [ea]
  exact ⟨.ref _, _, I.lnew (t' := s.toks) (r.append r2) (by rw [List.length_append]; omega), rfl, q _ I.fresh⟩
/-- list * int, wherever it stands -/
theorem q_mul_int (l : Addr) (items : Array Value) (n : Nat) (d : Option Addr) (sl : Array (Option Value)) (x : Int) (u : Tok) (hc0 : ¬(!Builtin.List.listFitsIndex x) = true) (hc1 : ¬items.size * x.toNat > (2 ^ 63 - 1) / 8) (hc2 : ¬Builtin.List.listTooLong (items.size * x.toNat) = true) :
    Meets (Builtin.«list.__mul__» ⟨[.ref l, .int x u], []⟩) (fun _ R s => s.heap.get? l = some { cls := .type "list", dict := d, data := .seq items n, slots := sl } ∧ R (.ok (.ret (Value.ref s.heap.objs.size))) { s with heap := s.heap.push { cls := Value.type "list", data := Data.seq (List.foldl (fun x1 x2 => x1 ++ x2) #[] (List.replicate (if items.isEmpty = true then 0 else x.toNat) items)) }, toks := s.toks }) :=
  .of_wp fun prog w A R s h => by
    obtain ⟨hp, g, d, tk, os⟩ := s; obtain ⟨hl, h⟩ := h
    have hsz := AutoListH.joined_fits hc2
    wp_walk; refine wpAny_ite_false (decide_eq_false (Nat.not_lt.mpr hsz)) ?_; wp_walk; exact ⟨_, rfl, h⟩
theorem q_rmul_int (k : Int) (t : Tok) (l : Addr) (items : Array Value) (n : Nat) (d : Option Addr) (sl : Array (Option Value)) :
    Meets (Builtin.«int.__rmul__» ⟨[.int k t, .ref l], []⟩) (fun _ R s => s.heap.get? l = some { cls := .type "list", dict := d, data := .seq items n, slots := sl } ∧ R (.ok (.ret Value.notImplemented)) s) :=
  .of_wp fun prog w A R s h => by obtain ⟨hp, g, d, tk, os⟩ := s; obtain ⟨hl, h⟩ := h; wp_walk; exact ⟨_, rfl, h⟩
def rRepL (K : PySem.W.Frag) : R2 := fun x y H Q => ∃ l k xs, x = .ref l ∧ y = .int k ∧ SqL K H l xs ∧ -(2 ^ 63) ≤ k ∧ k < 2 ^ 63 ∧ xs.length * k.toNat ≤ sizeLine ∧
  ∀ p, H p = none → Q (.ref p) (upd H p (.lst (List.replicate k.toNat xs).flatten))
theorem op_repL : OpR X (binaryOp .Mult) (rRepL X.K) := by
  intro pins s σ H x y v u Q I rx ry h
  obtain ⟨l, k, xs, rfl, rfl, hs, h1, h2, hz, q⟩ := h
  cases rx
  obtain ⟨t, rfl⟩ := ry
  obtain ⟨its, r, ⟨⟨cls, dd, data, sl⟩, n, ho, hc, _, hd⟩, _⟩ := I.list hs
  simp only at hc hd
  subst hc hd
  have hl := r.length
  have hlen : its.toArray.size * k.toNat ≤ sizeLine := by rw [List.size_toArray, ← hl]; exact hz
  have hcap : ¬ its.toArray.size * k.toNat > (2 ^ 63 - 1) / 8 := by
    have : (sizeLine : Nat) ≤ (2 ^ 63 - 1) / 8 := by decide
    omega
  have hfit : ¬ (!Builtin.List.listFitsIndex k) = true := by
    rw [fitsIndex_both h1 h2]
    exact Bool.false_ne_true
  have hlong : ¬ Builtin.List.listTooLong (its.toArray.size * k.toNat) = true := by
    simp only [Builtin.List.listTooLong, decide_eq_true_eq]
    have := sizeLine_eq
    omega
  have hnew : List.foldl (fun x1 x2 => x1 ++ x2) #[] (List.replicate (if its.toArray.isEmpty = true then 0 else k.toNat) its.toArray) = (List.replicate k.toNat its).flatten.toArray := by
    have f0 : ∀ m : Nat, List.foldl (fun x1 x2 => x1 ++ x2) #[] (List.replicate m its.toArray) = (List.replicate m its).flatten.toArray := fun m => by
      have := foldl_rep its m []
      rw [List.nil_append] at this
      exact this
    rw [f0]
    cases its with
    | nil => simp
    | cons a r' => rw [if_neg (by simp)]
  refine wpAny_binaryOp_repeat_ref (T := "list") (U := "int") (by decide) ⟨_, ho, rfl⟩ (fun s' => typeIs_int s' k t) noFill_list_mul F.fills_int_mul F.slot_int_rmul repeat_list F.slot_int_index.lookup
    (call_meets F.slot_int_rmul (typeIs_int s k t) F.entry_int_rmul (F.args_int_rmul_2 _ _) (q_rmul_int k t l its.toArray n dd sl)
      ⟨ho, rfl, ⟨_, ho, rfl⟩, call_meets F.slot_list_mul ⟨_, ho, rfl⟩ F.entry_list_mul (F.args_list_mul_2 _ _) (q_mul_int l its.toArray n dd sl k t hfit hcap hlong) ⟨ho, ?_⟩⟩)
  rw [hnew]
  exact ⟨.ref _, _, I.lnew (t' := s.toks) (r.rep k.toNat) (by rw [PyProof.Rows.lm_len_rep_flat, Nat.mul_comm]; exact hz), rfl, q _ I.fresh⟩
end
section
variable {K : PySem.W.Frag} {E : L2.St → XK} {S : L2.St → Prop} {te ta tb : TE} {a b : DEn} {tr : TA} {da : DAn}
/-! ### lists known from the start -/
def dLstK (r : DAn) : DEn := fun δ μ => (r δ μ).bind fun xs μ1 => if xs.length ≤ sizeLine then .ok (.lst xs) μ1 else .bad
theorem se_lstK (hr : SA K E S tr da) : SE K E S (tLst tr) (dLstK da) := by
  intro ρ F δ μ σ H Q rh v s p
  refine hr.thn rh v s p fun xs μ1 ρ1 F1 ys H1 _ _ r1 v1 q1 p1 => ?_
  have l := q1.length
  split at p1
  · refine ⟨by omega, fun t ht => ?_⟩
    obtain ⟨r2, e2⟩ := r1.grow (o := .lst ys) ht
    exact p1 ρ1 _ _ _ e2 r2 (.lst (SqL.of upd_same) (q1.mono e2))
  · exact p1.elim
def fListK : D → List M → Out D := fun x μ => match seqS μ x with
  | some ds => .ok (.lst ds) μ
  | none => .bad
theorem cd_listK : CD K (rListOf K) (f1 fListK) := cd1 fun ρ F μ H x v Q E rh q p => by
  unfold fListK at p
  cases e : seqS μ x with
  | none => rw [e] at p; exact p.elim
  | some ds =>
    rw [e] at p
    obtain ⟨t, xs, rfl, sq, dr⟩ := seqS_sq rh q e
    refine ⟨t, xs, rfl, sq, fun l hl => ?_⟩
    obtain ⟨r2, e2⟩ := rh.grow (o := .lst xs) hl
    exact p _ _ _ _ e2 r2 (.lst (SqL.of upd_same) (dr.mono e2))
def fSlK (x : D) (lo hi : Option Int) (μ : List M) : Out D := match x with
  | .tup ds => if HT.sIx ds.length 0 lo = 0 ∧ HT.sIx ds.length ds.length hi = ds.length then .ok x μ else .ok (.tup (cutD ds lo hi)) μ
  | _ => match lsS μ x with
    | some ds => .ok (.lst (cutD ds lo hi)) μ
    | none => .bad
def dSlK (a : DEn) (l h : DPn) : DEn := fun δ μ => (a δ μ).bind fun x μ1 => (l δ μ1).bind fun lo μ2 => (h δ μ2).bind fun hi μ3 => fSlK x lo hi μ3
theorem fSlK_ok {ρ : List Addr} {F H : Hp} {μ : List M} (r : RH K ρ F μ H) {x : D} {v : V} {lo hi : Option Int} {Q : VK} {E : XK} (h : DR K ρ F x v) (p : Post (RE K) K ρ F (fSlK x lo hi μ) Q E) : rSl2 K v lo hi H Q := by
  by_cases ht : ∃ ds, x = .tup ds
  · obtain ⟨ds, rfl⟩ := ht
    exact fSl_ok r h (by
      unfold fSl
      exact p)
  · have e : fSlK x lo hi μ = match lsS μ x with
      | some ds => .ok (.lst (cutD ds lo hi)) μ
      | none => .bad := by
      unfold fSlK
      cases x <;> first | rfl | exact absurd ⟨_, rfl⟩ ht
    rw [e] at p
    cases q : lsS μ x with
    | none => rw [q] at p; exact p.elim
    | some ds =>
      rw [q] at p
      obtain ⟨a, xs, rfl, sq, dr⟩ := lsS_ok r h q
      left
      refine ⟨a, xs, rfl, sq, fun b hb => ?_⟩
      have dr2 := cut_rel dr lo hi
      obtain ⟨r2, e2⟩ := r.grow (o := .lst (cutV xs lo hi)) hb
      exact p _ _ _ _ e2 r2 (.lst (SqL.of upd_same) (dr2.mono e2))
theorem se_slK {tl th : TO} {l h : DPn} (ha : SE K E S te a) (hl : SP K E S tl l) (hh : SP K E S th h) : SE K E S (tSl (rSl2 K) te tl th) (dSlK a l h) := by
  intro ρ F δ μ σ H Q r v s p
  refine ha.thn r v s p fun x μ1 ρ1 F1 y H1 e0 ex0 r1 v1 q1 p1 => ?_
  refine SG.thn hl r1 v1 s p1 fun lo μ2 ρ2 F2 lo' H2 e2 ex2 r2 v2 q2 p2 => ?_
  cases q2
  refine SG.thn hh r2 v2 s p2 fun hi μ3 ρ3 F3 hi' H3 e3 ex3 r3 v3 q3 p3 => ?_
  cases q3
  exact fSlK_ok r3 ((q1.mono ex2).mono ex3) p3
/-! ### +, * -/
abbrev rPlusK (K : PySem.W.Frag) : R2 := ROr (rI0 fun i j => .int (i + j)) (ROr (rCatL K) (ROr (rCatA K) rStrCat))
theorem op_plusK {X : Cx} : OpR X (binaryOp .Add) (rPlusK X.K) := OpR.or op_add (OpR.or op_catL (OpR.or op_catA op_add_str))
def fPlusK : FOp := fun x y μ => match x, y with
  | .int i, .int j => .ok (.int (i + j)) μ
  | .str i, .str j => if i.length + j.length ≤ sizeLine then .ok (.str (i ++ j)) μ else .bad
  | .tup ds, .tup es => if ds.length + es.length ≤ sizeLine then .ok (.tup (ds ++ es)) μ else .bad
  | x, y => (match lsS μ x, lsS μ y with
    | some ds, some es => if ds.length + es.length ≤ sizeLine then .ok (.lst (ds ++ es)) μ else .bad
    | _, _ => .bad)
theorem od_plusK : OpD K (rPlusK K) fPlusK := fun ρ F μ H x y v u Q E rh q1 q2 p => by
  have lists : Post (RE K) K ρ F (match lsS μ x, lsS μ y with
    | some ds, some es => if ds.length + es.length ≤ sizeLine then Out.ok (D.lst (ds ++ es)) μ else .bad
    | _, _ => .bad) Q E → rPlusK K v u H Q := fun p => by
    cases e1 : lsS μ x with
    | none => rw [e1] at p; exact p.elim
    | some ds =>
      cases e2 : lsS μ y with
      | none => rw [e1, e2] at p; exact p.elim
      | some es =>
        rw [e1, e2] at p
        dsimp only at p
        obtain ⟨a1, xs, rfl, h1, d1⟩ := lsS_ok rh q1 e1
        obtain ⟨a2, ys, rfl, h2, d2⟩ := lsS_ok rh q2 e2
        split at p
        · rename_i hz
          refine .inr (.inl ⟨a1, a2, xs, ys, rfl, rfl, h1, h2, by rw [← d1.length, ← d2.length]; exact hz, fun l hl => ?_⟩)
          obtain ⟨r2, e3⟩ := rh.grow (o := .lst (xs ++ ys)) hl
          exact p _ _ _ _ e3 r2 (.lst (SqL.of upd_same) ((d1.append d2).mono e3))
        · exact p.elim
  cases x with
  | int i =>
    cases y with
    | int j => cases q1; cases q2; exact .inl ⟨i, j, rfl, rfl, p ρ F _ H (.refl _ _) rh (.int _)⟩
    | _ => exact lists p
  | str i =>
    cases y with
    | str j =>
      cases q1
      cases q2
      have p2 : Post (RE K) K ρ F (if i.length + j.length ≤ sizeLine then Out.ok (D.str (i ++ j)) μ else .bad) Q E := p
      split at p2
      · exact .inr (.inr (.inr ⟨i, j, rfl, rfl, by assumption, p2 ρ F _ H (.refl _ _) rh (.str _)⟩))
      · exact p2.elim
    | _ => exact lists p
  | tup ds =>
    cases y with
    | tup es =>
      cases q1 with
      | tup s1 d1 =>
        cases q2 with
        | tup s2 d2 =>
          have p2 : Post (RE K) K ρ F (if ds.length + es.length ≤ sizeLine then Out.ok (D.tup (ds ++ es)) μ else .bad) Q E := p
          split at p2
          · rename_i hz
            have l1 := d1.length
            have l2 := d2.length
            refine .inr (.inr (.inl ⟨_, _, _, _, rfl, rfl, sqT_same rh.fr s1, sqT_same rh.fr s2, by omega, fun e => ?_, fun _ e => ?_, fun _ _ t ht => ?_⟩))
            · rw [e] at l1
              rw [List.eq_nil_of_length_eq_zero l1, List.nil_append] at p2
              exact p2 ρ F _ H (.refl _ _) rh (.tup s2 d2)
            · rw [e] at l2
              rw [List.eq_nil_of_length_eq_zero l2, List.append_nil] at p2
              exact p2 ρ F _ H (.refl _ _) rh (.tup s1 d1)
            · obtain ⟨r2, e2⟩ := rh.grow (o := .tup _) ht
              exact p2 ρ _ _ _ e2 r2 (.tup (SqT.of upd_same) ((d1.append d2).mono e2))
          · exact p2.elim
    | _ => exact lists p
  | _ => exact lists p
abbrev rTimesK (K : PySem.W.Frag) : R2 := ROr (rI CMulW fun i j => .int (i * j)) (rRepL K)
theorem op_timesK {X : Cx} : OpR X (binaryOp .Mult) (rTimesK X.K) := OpR.or op_mulW op_repL
def fTimesK : FOp := fun x y μ => match x, y with
  | .int i, .int j => if i.natAbs.log2 + j.natAbs.log2 < 1000000 then .ok (.int (i * j)) μ else .bad
  | x, .int j => (match lsS μ x with
    | some ds => if -(2 ^ 63) ≤ j ∧ j < 2 ^ 63 ∧ ds.length * j.toNat ≤ sizeLine then .ok (.lst (List.replicate j.toNat ds).flatten) μ else .bad
    | none => .bad)
  | _, _ => .bad
theorem od_timesK : OpD K (rTimesK K) fTimesK := fun ρ F μ H x y v u Q E rh q1 q2 p => by
  cases y <;> first | (cases x <;> exact p.elim) | skip
  rename_i j
  cases q2
  have lists : Post (RE K) K ρ F (match lsS μ x with
    | some ds => if -(2 ^ 63) ≤ j ∧ j < 2 ^ 63 ∧ ds.length * j.toNat ≤ sizeLine then Out.ok (D.lst (List.replicate j.toNat ds).flatten) μ else .bad
    | none => .bad) Q E → rTimesK K v (.int j) H Q := fun p => by
    cases e1 : lsS μ x with
    | none => rw [e1] at p; exact p.elim
    | some ds =>
      rw [e1] at p
      dsimp only at p
      obtain ⟨a1, xs, rfl, h1, d1⟩ := lsS_ok rh q1 e1
      split at p
      · rename_i hz
        refine .inr ⟨a1, j, xs, rfl, rfl, h1, hz.1, hz.2.1, by rw [← d1.length]; exact hz.2.2, fun l hl => ?_⟩
        obtain ⟨r2, e3⟩ := rh.grow (o := .lst (List.replicate j.toNat xs).flatten) hl
        exact p _ _ _ _ e3 r2 (.lst (SqL.of upd_same) ((d1.rep _).mono e3))
      · exact p.elim
  cases x with
  | int i =>
    cases q1
    have p2 : Post (RE K) K ρ F (if i.natAbs.log2 + j.natAbs.log2 < 1000000 then Out.ok (D.int (i * j)) μ else .bad) Q E := p
    split at p2
    · rename_i hz
      exact .inl ⟨i, j, rfl, rfl, hz, p2 ρ F _ H (.refl _ _) rh (.int _)⟩
    · exact p2.elim
  | _ => exact lists p
/-! ### new things made known -/
noncomputable def eFz (a : DEn) : DEn := fun δ μ => match a δ μ with
  | .ok x μ' => leaveT μ (.ret x μ')
  | .exc z μ' => leaveT μ (.exc z δ μ')
  | .bad => .bad
theorem se_fz (ha : SE K E S te a) : SE K E S te (eFz a) := by
  intro ρ F δ μ σ H Q rh v s p
  refine ha ρ F δ μ σ H Q rh v s ?_
  unfold eFz at p
  cases e : a δ μ with
  | ok x μ' =>
    rw [e] at p
    have sp := leaveT_ok rh p
    exact fun ρ' F' u H' ex r q => sp ρ' F' u H' ex r q
  | exc z μ' =>
    rw [e] at p
    have sp := leaveT_ok rh p
    exact fun ρ' F' H' d ex r q => sp ρ' F' σ H' d ex r (v.mono ex) q
  | bad => rw [e] at p; exact p.elim
end
end Dn
set_option Elab.async false
set_option linter.all false
set_option maxRecDepth 100000
set_option maxHeartbeats 1000000
set_option autoImplicit false
/-! DnW: what a function over trees comes to: rules, one for each construct. -/
namespace Dn
open PySem PySem.Spec PyProof.Rows L2 Gk
/-- the outcome is a value with Q, or an error with X -/
def Wo {α : Type} (o : Out α) (Q : α → List M → Prop) (X : Z → List M → Prop) : Prop := match o with
  | .ok x μ => Q x μ
  | .exc z μ => X z μ
  | .bad => False
def Ws (o : SO) (W : SO → Prop) : Prop := W o
def Then (h : DSn) (W : SO → Prop) : SO → Prop
  | .nx δ μ => Ws (h δ μ) W
  | o => W o
section
variable {α : Type} {o : Out α} {Q Q' : α → List M → Prop} {X X' : Z → List M → Prop} {x : α} {μ : List M} {z : Z} {δ : VS} {W W' : SO → Prop} {g h : DSn}
theorem wo_eq (e : o = .ok x μ) (q : Q x μ) : Wo o Q X := by rw [e]; exact q
theorem wo_exc (e : o = .exc z μ) (q : X z μ) : Wo o Q X := by rw [e]; exact q
theorem wo_ok (q : Q x μ) : Wo (.ok x μ) Q X := q
theorem wo_mono (h : Wo o Q X) (q : ∀ x μ, Q x μ → Q' x μ) (x : ∀ z μ, X z μ → X' z μ) : Wo o Q' X' := by
  cases o with
  | ok y μ => exact q y μ h
  | exc z μ => exact x z μ h
  | bad => exact h
theorem wo_get (h : Wo o Q fun _ _ => False) : ∃ x μ, o = .ok x μ ∧ Q x μ := by
  cases o with
  | ok y μ => exact ⟨y, μ, rfl, h⟩
  | exc z μ => exact h.elim
  | bad => exact h.elim
theorem wo_to {x : α} {μ : List M} (h : Wo o (fun y μ' => y = x ∧ μ' = μ) fun _ _ => False) : o = .ok x μ := by
  obtain ⟨y, μ', e, rfl, rfl⟩ := wo_get h
  exact e
theorem wo_bind {β : Type} {k : α → List M → Out β} {Q : β → List M → Prop} (h : Wo o (fun x μ1 => Wo (k x μ1) Q X) X) : Wo (o.bind k) Q X := by
  cases o with
  | ok y μ => exact h
  | exc z μ => exact h
  | bad => exact h
/-! ### statements -/
theorem ws_eq {o o' : SO} (e : o = o') (h : Ws o' W) : Ws o W := by rw [e]; exact h
theorem ws_to {o o' : SO} (h : Ws o (fun p => p = o')) : o = o' := h
theorem ws_mono {o : SO} (h : Ws o W) (q : ∀ p, W p → W' p) : Ws o W' := q _ h
theorem ws_seq (e : Ws (g δ μ) (Then h W)) : Ws (dSeq g h δ μ) W := by
  unfold dSeq SO.thn
  cases q : g δ μ with
  | nx δ' μ' => rw [q] at e; exact e
  | _ => rw [q] at e; exact e
theorem then_nx (e : Ws (h δ μ) W) : Then h W (.nx δ μ) := e
theorem then_ret {x : D} (e : W (.ret x μ)) : Then h W (.ret x μ) := e
theorem then_exc (e : W (.exc z δ μ)) : Then h W (.exc z δ μ) := e
theorem then_brk (e : W (.brk δ μ)) : Then h W (.brk δ μ) := e
theorem then_cnt (e : W (.cnt δ μ)) : Then h W (.cnt δ μ) := e
theorem ws_next (e : W (.nx δ μ)) : Ws (dNext δ μ) W := e
theorem ws_cont (e : W (.cnt δ μ)) : Ws (dCont δ μ) W := e
theorem ws_break (e : W (.brk δ μ)) : Ws (dBreak δ μ) W := e
theorem ws_retN (e : W (.ret .non μ)) : Ws (dRetN δ μ) W := e
theorem ws_ret {a : DEn} (e : Wo (a δ μ) (fun x μ1 => W (.ret x μ1)) (fun z μ1 => W (.exc z δ μ1))) : Ws (dRet a δ μ) W := by
  unfold dRet Out.thenS
  cases q : a δ μ with
  | _ => rw [q] at e; first | exact e | exact e.elim
theorem ws_asgN {a : DEn} {i : Nat} (e : Wo (a δ μ) (fun x μ1 => W (.nx (δ.set i (some x)) μ1)) (fun z μ1 => W (.exc z δ μ1))) : Ws (dAsg a (dgName i) δ μ) W := by
  unfold dAsg Out.thenS
  cases q : a δ μ with
  | _ => rw [q] at e; first | exact e | exact e.elim
theorem ws_asg {a : DEn} {g : DGn} (e : Wo (a δ μ) (fun x μ1 => ∃ δ2 μ2, g x δ μ1 = .nx δ2 μ2 ∧ W (.nx δ2 μ2)) (fun z μ1 => W (.exc z δ μ1))) : Ws (dAsg a g δ μ) W := by
  unfold dAsg Out.thenS
  cases q : a δ μ with
  | ok x μ1 =>
    rw [q] at e
    obtain ⟨δ2, μ2, e1, e2⟩ := e
    dsimp only
    rw [e1]
    exact e2
  | exc z μ1 => rw [q] at e; exact e
  | bad => rw [q] at e; exact e.elim
theorem ws_drop {a : DEn} (e : Wo (a δ μ) (fun x μ1 => W (.nx δ μ1)) (fun z μ1 => W (.exc z δ μ1))) : Ws (dDrop a δ μ) W := by
  unfold dDrop Out.thenS
  cases q : a δ μ with
  | _ => rw [q] at e; first | exact e | exact e.elim
theorem ws_if {c : DTn} (e : Wo (c δ μ) (fun b μ1 => (b = true → Ws (g δ μ1) W) ∧ (b = false → Ws (h δ μ1) W)) (fun z μ1 => W (.exc z δ μ1))) : Ws (dIfS c g h δ μ) W := by
  unfold dIfS Out.thenT
  cases q : c δ μ with
  | ok b μ1 =>
    rw [q] at e
    cases b with
    | true => exact e.1 rfl
    | false => exact e.2 rfl
  | exc z μ1 => rw [q] at e; exact e
  | bad => rw [q] at e; exact e.elim
theorem ws_aug {a : DEn} {f : FOp} {i : Nat} {d : D} (hi : δ[i]? = some (some d)) (e : Wo (a δ μ) (fun y μ1 => Wo (f d y μ1) (fun x μ2 => W (.nx (δ.set i (some x)) μ2)) (fun z μ1 => W (.exc z δ μ1))) (fun z μ1 => W (.exc z δ μ1))) : Ws (dAug f i a δ μ) W := by
  unfold dAug Out.thenS
  rw [hi]
  dsimp only
  cases q : a δ μ with
  | ok y μ1 =>
    rw [q] at e
    have e' : Wo (f d y μ1) (fun x μ2 => W (.nx (δ.set i (some x)) μ2)) (fun z μ1 => W (.exc z δ μ1)) := e
    dsimp only
    cases q2 : f d y μ1 with
    | _ => rw [q2] at e'; first | exact e' | exact e'.elim
  | exc z μ1 => rw [q] at e; exact e
  | bad => rw [q] at e; exact e.elim
theorem ws_par {i j : Nat} {da : DAn} (e : Wo (da δ μ) (fun xs μ1 => ∃ x y, xs = [x, y] ∧ W (.nx ((δ.set i (some x)).set j (some y)) μ1)) (fun z μ1 => W (.exc z δ μ1))) : Ws (dPar i j da δ μ) W := by
  unfold dPar
  cases q : da δ μ with
  | ok xs μ1 =>
    rw [q] at e
    obtain ⟨x, y, rfl, e⟩ := e
    exact e
  | exc z μ1 => rw [q] at e; exact e
  | bad => rw [q] at e; exact e.elim
/-! ### expressions -/
variable {X : Z → List M → Prop}
theorem wo_var {Q : D → List M → Prop} {i : Nat} {d : D} (h : δ[i]? = some (some d)) (q : Q d μ) : Wo (dVar i δ μ) Q X := by
  unfold dVar
  rw [h]
  exact q
theorem wo_c {Q : D → List M → Prop} {d : D} (q : Q d μ) : Wo (dC d δ μ) Q X := q
theorem wo_op {Q : D → List M → Prop} {f : FOp} {a b : DEn} (h : Wo (a δ μ) (fun x μ1 => Wo (b δ μ1) (fun y μ2 => Wo (f x y μ2) Q X) X) X) : Wo (dOp f a b δ μ) Q X :=
  wo_bind (wo_mono h (fun _ _ q => wo_bind q) fun _ _ q => q)
theorem wo_nil {Q : List D → List M → Prop} (q : Q [] μ) : Wo (dNil δ μ) Q X := q
theorem wo_cons {Q : List D → List M → Prop} {a : DEn} {r : DAn} (h : Wo (a δ μ) (fun x μ1 => Wo (r δ μ1) (fun xs μ2 => Q (x :: xs) μ2) X) X) : Wo (dCons a r δ μ) Q X :=
  wo_bind (wo_mono h (fun _ _ q => wo_bind q) fun _ _ q => q)
theorem wo_tup {Q : D → List M → Prop} {r : DAn} (h : Wo (r δ μ) (fun xs μ1 => xs.length ≤ sizeLine ∧ Q (.tup xs) μ1) X) : Wo (dTup r δ μ) Q X :=
  wo_bind (wo_mono h (fun _ _ q => by
    show Wo (if _ then _ else _) _ _
    rw [if_pos q.1]
    exact q.2) fun _ _ q => q)
theorem wo_lstK {Q : D → List M → Prop} {r : DAn} (h : Wo (r δ μ) (fun xs μ1 => xs.length ≤ sizeLine ∧ Q (.lst xs) μ1) X) : Wo (dLstK r δ μ) Q X :=
  wo_bind (wo_mono h (fun _ _ q => by
    show Wo (if _ then _ else _) _ _
    rw [if_pos q.1]
    exact q.2) fun _ _ q => q)
theorem wo_lst {Q : D → List M → Prop} {r : DAn} (h : Wo (r δ μ) (fun xs μ1 => xs.length ≤ sizeLine ∧ Q (.loc μ1.length) (μ1 ++ [.lst xs])) X) : Wo (dLst r δ μ) Q X :=
  wo_bind (wo_mono h (fun _ _ q => by
    show Wo (if _ then _ else _) _ _
    rw [if_pos q.1]
    exact q.2) fun _ _ q => q)
theorem wo_cb {Q : D → List M → Prop} {f : FB} {da : DAn} (h : Wo (da δ μ) (fun xs μ1 => Wo (f xs μ1) Q X) X) : Wo (dCB f da δ μ) Q X := wo_bind h
theorem wo_f1 {Q : D → List M → Prop} {f : D → List M → Out D} {x : D} (h : Wo (f x μ) Q X) : Wo (f1 f [x] μ) Q X := h
theorem wo_f2 {Q : D → List M → Prop} {f : D → D → List M → Out D} {x y : D} (h : Wo (f x y μ) Q X) : Wo (f2 f [x, y] μ) Q X := h
theorem wo_test {Q : Bool → List M → Prop} {a : DEn} (h : Wo (a δ μ) (fun x μ1 => ∃ b, x = .bl b ∧ Q b μ1) X) : Wo (dTest a δ μ) Q X :=
  wo_bind (wo_mono h (fun _ _ ⟨b, e, q⟩ => by rw [e]; exact q) fun _ _ q => q)
theorem wo_and {Q : Bool → List M → Prop} {c d : DTn} (h : Wo (c δ μ) (fun b μ1 => (b = true → Wo (d δ μ1) Q X) ∧ (b = false → Q false μ1)) X) : Wo (dAnd c d δ μ) Q X :=
  wo_bind (wo_mono h (fun b _ q => by
    cases b with
    | true => exact q.1 rfl
    | false => exact q.2 rfl) fun _ _ q => q)
theorem wo_or {Q : Bool → List M → Prop} {c d : DTn} (h : Wo (c δ μ) (fun b μ1 => (b = true → Q true μ1) ∧ (b = false → Wo (d δ μ1) Q X)) X) : Wo (dOr c d δ μ) Q X :=
  wo_bind (wo_mono h (fun b _ q => by
    cases b with
    | true => exact q.1 rfl
    | false => exact q.2 rfl) fun _ _ q => q)
theorem wo_not {Q : Bool → List M → Prop} {c : DTn} (h : Wo (c δ μ) (fun b μ1 => Q (!b) μ1) X) : Wo (dNot c δ μ) Q X := wo_bind h
theorem wo_tru {Q : Bool → List M → Prop} {a : DEn} (h : Wo (a δ μ) (fun x μ1 => ∃ b, truS μ1 x = some b ∧ Q b μ1) X) : Wo (dTru a δ μ) Q X :=
  wo_bind (wo_mono h (fun _ _ ⟨b, e, q⟩ => by
    show Wo (match truS _ _ with | some b => _ | none => _) _ _
    rw [e]; exact q) fun _ _ q => q)
theorem wo_if {Q : D → List M → Prop} {c : DTn} {a b : DEn} (h : Wo (c δ μ) (fun t μ1 => (t = true → Wo (a δ μ1) Q X) ∧ (t = false → Wo (b δ μ1) Q X)) X) : Wo (dIf c a b δ μ) Q X :=
  wo_bind (wo_mono h (fun b _ q => by
    cases b with
    | true => exact q.1 rfl
    | false => exact q.2 rfl) fun _ _ q => q)
theorem wo_andV {Q : D → List M → Prop} {a b : DEn} (h : Wo (a δ μ) (fun x μ1 => ∃ t, truS μ1 x = some t ∧ (t = true → Wo (b δ μ1) Q X) ∧ (t = false → Q x μ1)) X) : Wo (dAndV a b δ μ) Q X :=
  wo_bind (wo_mono h (fun x _ ⟨t, e, q⟩ => by
    show Wo (match truS _ _ with | some true => _ | some false => _ | none => _) _ _
    rw [e]
    cases t with
    | true => exact q.1 rfl
    | false => exact q.2 rfl) fun _ _ q => q)
theorem wo_orV {Q : D → List M → Prop} {a b : DEn} (h : Wo (a δ μ) (fun x μ1 => ∃ t, truS μ1 x = some t ∧ (t = true → Q x μ1) ∧ (t = false → Wo (b δ μ1) Q X)) X) : Wo (dOrV a b δ μ) Q X :=
  wo_bind (wo_mono h (fun x _ ⟨t, e, q⟩ => by
    show Wo (match truS _ _ with | some true => _ | some false => _ | none => _) _ _
    rw [e]
    cases t with
    | true => exact q.1 rfl
    | false => exact q.2 rfl) fun _ _ q => q)
theorem wo_notV {Q : D → List M → Prop} {a : DEn} (h : Wo (a δ μ) (fun x μ1 => ∃ t, truS μ1 x = some t ∧ Q (.bl (!t)) μ1) X) : Wo (dNotV a δ μ) Q X :=
  wo_bind (wo_mono h (fun x _ ⟨t, e, q⟩ => by
    show Wo (match truS _ _ with | some k => _ | none => _) _ _
    rw [e]
    exact q) fun _ _ q => q)
theorem wo_call {Q : D → List M → Prop} {den : Den} {n : Nat} {da : DAn} (h : Wo (da δ μ) (fun xs μ1 => xs.length = n ∧ Wo (den xs μ1) Q X) X) : Wo (dCall den n [] da δ μ) Q X :=
  wo_bind (wo_mono h (fun xs _ q => by
    show Wo (if (xs ++ []).length = n then den (xs ++ []) _ else _) _ _
    rw [List.append_nil, if_pos q.1]
    exact q.2) fun _ _ q => q)
theorem wo_callD {Q : D → List M → Prop} {den : Den} {n : Nat} {dds : List D} {da : DAn} (h : Wo (da δ μ) (fun xs μ1 => (xs ++ dds).length = n ∧ Wo (den (xs ++ dds) μ1) Q X) X) : Wo (dCall den n dds da δ μ) Q X :=
  wo_bind (wo_mono h (fun xs _ q => by
    show Wo (if (xs ++ dds).length = n then den (xs ++ dds) _ else _) _ _
    rw [if_pos q.1]
    exact q.2) fun _ _ q => q)
theorem wo_neg {Q : D → List M → Prop} {a : DEn} (h : Wo (a δ μ) (fun x μ1 => ∃ i, x = .int i ∧ Q (.int (-i)) μ1) X) : Wo (dNeg a δ μ) Q X :=
  wo_bind (wo_mono h (fun _ _ ⟨i, e, q⟩ => by rw [e]; exact q) fun _ _ q => q)
theorem wo_isT {Q : D → List M → Prop} {Ts : List String} {a : DEn} (h : Wo (a δ μ) (fun x μ1 => Wo (fIsT Ts x μ1) Q X) X) : Wo (dIsT Ts a δ μ) Q X := wo_bind h
theorem wo_append {Q : D → List M → Prop} {a : DEn} {da : DAn} (h : Wo (a δ μ) (fun o μ1 => ∃ k ds, lstS μ1 o = some (k, ds) ∧ Wo (da δ μ1) (fun xs μ2 => ∃ x ds2, xs = [x] ∧ o = .loc k ∧ μ2[k]? = some (.lst ds2) ∧ ds2.length < sizeLine ∧ Q .non (μ2.set k (.lst (ds2 ++ [x])))) X) X) : Wo (dAppend a da δ μ) Q X :=
  wo_bind (wo_mono h (fun o μ1 ⟨k, ds, e, q⟩ => by
    show Wo (match lstS μ1 o with | some _ => _ | none => _) _ _
    rw [e]
    refine wo_bind (wo_mono q (fun xs μ2 ⟨x, ds2, e1, e2, e3, hz, q9⟩ => ?_) fun _ _ q => q)
    subst e1 e2
    show Wo (match μ2[k]? with | some (.lst ds) => _ | _ => _) _ _
    rw [e3]
    show Wo (if _ then _ else _) _ _
    rw [if_pos hz]
    exact q9) fun _ _ q => q)
/-! ### operators at numbers -/
theorem wo_plus {Q : D → List M → Prop} {i j : Int} (q : Q (.int (i + j)) μ) : Wo (fPlus (.int i) (.int j) μ) Q X := q
theorem wo_plusK {Q : D → List M → Prop} {i j : Int} (q : Q (.int (i + j)) μ) : Wo (fPlusK (.int i) (.int j) μ) Q X := q
theorem wo_minus {Q : D → List M → Prop} {i j : Int} (q : Q (.int (i - j)) μ) : Wo (fMinus (.int i) (.int j) μ) Q X := q
theorem wo_times {Q : D → List M → Prop} {i j : Int} (h : i.natAbs.log2 + j.natAbs.log2 < 1000000) (q : Q (.int (i * j)) μ) : Wo (fTimes (.int i) (.int j) μ) Q X := wo_eq (fTimes_int h) q
theorem wo_timesK {Q : D → List M → Prop} {i j : Int} (h : i.natAbs.log2 + j.natAbs.log2 < 1000000) (q : Q (.int (i * j)) μ) : Wo (fTimesK (.int i) (.int j) μ) Q X := wo_eq (if_pos h) q
theorem wo_div {Q : D → List M → Prop} {i j : Int} (h : j ≠ 0) (h2 : j.natAbs.log2 < 9000) (q : Q (.int (i.fdiv j)) μ) : Wo (fDiv (.int i) (.int j) μ) Q X := wo_eq (fDiv_int h h2) q
theorem wo_mod {Q : D → List M → Prop} {i j : Int} (h : j ≠ 0) (q : Q (.int (i.fmod j)) μ) : Wo (fMod (.int i) (.int j) μ) Q X := wo_eq (fMod_int h) q
theorem wo_cmp {Q : D → List M → Prop} {g : Int → Int → D} {i j : Int} (q : Q (g i j) μ) : Wo (fI (fun _ _ => true) g (.int i) (.int j) μ) Q X := q
theorem wo_eqI {Q : D → List M → Prop} {neg : Bool} {i j : Int} (q : Q (.bl (if neg then !(i == j) else i == j)) μ) : Wo (fEq neg (.int i) (.int j) μ) Q X := wo_eq fEq_int q
theorem wo_eqS {Q : D → List M → Prop} {neg : Bool} {i j : Str} (q : Q (.bl (if neg then !(i == j) else i == j)) μ) : Wo (fEq neg (.str i) (.str j) μ) Q X := q
theorem wo_int {Q : D → List M → Prop} {i : Int} (q : Q (.int i) μ) : Wo (fInt (.int i) μ) Q X := q
theorem wo_abs {Q : D → List M → Prop} {i : Int} (q : Q (.int (if i < 0 then -i else i)) μ) : Wo (fAbs (.int i) μ) Q X := q
theorem wo_gcd {Q : D → List M → Prop} {i j : Int} (q : Q (.int ((Nat.gcd i.natAbs j.natAbs : Nat) : Int)) μ) : Wo (fGcd (.int i) (.int j) μ) Q X := q
theorem wo_max2 {Q : D → List M → Prop} {i j : Int} (q : Q (.int (if j > i then j else i)) μ) : Wo (fMax2 (.int i) (.int j) μ) Q X := q
theorem wo_min2 {Q : D → List M → Prop} {i j : Int} (q : Q (.int (if j < i then j else i)) μ) : Wo (fMin2 (.int i) (.int j) μ) Q X := q
theorem wo_ixT {Q : D → List M → Prop} {ds : List D} {i : Int} {d : D} (h : atI ds i = some d) (q : Q d μ) : Wo (fIx (.tup ds) (.int i) μ) Q X := by
  unfold fIx seqS
  dsimp only
  rw [h]
  exact q
theorem wo_ixL {Q : D → List M → Prop} {ds : List D} {i : Int} {d : D} (h : atI ds i = some d) (q : Q d μ) : Wo (fIx (.lst ds) (.int i) μ) Q X := by
  unfold fIx seqS
  dsimp only
  rw [h]
  exact q
theorem wo_ixM {Q : D → List M → Prop} {k : Nat} {ds : List D} {i : Int} {d : D} (hk : μ[k]? = some (.lst ds)) (h : atI ds i = some d) (q : Q d μ) : Wo (fIx (.loc k) (.int i) μ) Q X := by
  unfold fIx seqS
  dsimp only
  rw [hk]
  dsimp only
  rw [h]
  exact q
theorem wo_lenT {Q : D → List M → Prop} {ds : List D} (q : Q (.int ds.length) μ) : Wo (fLen (.tup ds) μ) Q X := q
theorem wo_lenL {Q : D → List M → Prop} {ds : List D} (q : Q (.int ds.length) μ) : Wo (fLen (.lst ds) μ) Q X := q
theorem wo_lenM {Q : D → List M → Prop} {k : Nat} {ds : List D} (hk : μ[k]? = some (.lst ds)) (q : Q (.int ds.length) μ) : Wo (fLen (.loc k) μ) Q X := by
  unfold fLen lenS seqS
  dsimp only
  rw [hk]
  exact q
theorem wo_isN {Q : D → List M → Prop} {neg : Bool} (q : Q (.bl (!neg)) μ) : Wo (fIsN neg .non .non μ) Q X := q
/-- what is done once a truth value is known -/
theorem sp_true {P R : Prop} (h : P) : (true = true → P) ∧ (true = false → R) := ⟨fun _ => h, fun e => Bool.noConfusion e⟩
theorem sp_false {P R : Prop} (h : R) : (false = true → P) ∧ (false = false → R) := ⟨fun e => Bool.noConfusion e, fun _ => h⟩
/-! ### a def -/
theorem leave_pure {ret : D} {l : List M} (h : clo μ.length ret = true) : leaveT μ (.ret ret (μ ++ l)) = .ok ret μ := by
  rw [leave_clo (back_app) h, List.take_left']
  rfl
end
end Dn
set_option Elab.async false
set_option linter.all false
set_option maxRecDepth 100000
set_option maxHeartbeats 2000000
set_option autoImplicit false
/-! DnV: the draws of a law's script, whatever its constants. -/
namespace Dn
open PySem PySem.Spec PyProof.Rows L2 Gk
theorem ex_bl {Q : Bool → Prop} {b : Bool} (q : Q b) : ∃ b', D.bl b = D.bl b' ∧ Q b' := ⟨b, rfl, q⟩
theorem ex_int {Q : Int → Prop} {b : Int} (q : Q b) : ∃ b', D.int b = D.int b' ∧ Q b' := ⟨b, rfl, q⟩
theorem log_lt {i : Int} {n : Nat} (h : i.natAbs < 2 ^ n) (h0 : 0 < n) : i.natAbs.log2 < n := log2_lt h h0
theorem tm {i j : Int} (h1 : i.natAbs < 2 ^ 4000) (h2 : j.natAbs < 2 ^ 4000) : i.natAbs.log2 + j.natAbs.log2 < 1000000 := by
  have a := log2_lt h1 (by decide)
  have b := log2_lt h2 (by decide)
  omega
theorem up64 {i : Int} (h : i.natAbs < 2 ^ 64) : i.natAbs < 2 ^ 4000 := Nat.lt_of_lt_of_le h (Nat.pow_le_pow_right (by decide) (by decide))
theorem tm64 {i j : Int} (h1 : i.natAbs < 2 ^ 64) (h2 : j.natAbs < 2 ^ 64) : i.natAbs.log2 + j.natAbs.log2 < 1000000 := tm (up64 h1) (up64 h2)
theorem dv64 {j : Int} (h : j.natAbs < 2 ^ 64) : j.natAbs.log2 < 9000 := Nat.lt_trans (log2_lt h (by decide)) (by decide)
theorem fmod_in (a : Int) {m : Int} (h : 0 < m) : 0 ≤ a.fmod m ∧ a.fmod m < m := by
  rw [Int.fmod_eq_emod_of_nonneg a (by omega)]
  exact ⟨Int.emod_nonneg a (by omega), Int.emod_lt_of_pos a h⟩
theorem fdiv_in {z m : Int} (h : 0 ≤ z) (m0 : 0 < m) : 0 ≤ z.fdiv m := by
  rw [Int.fdiv_eq_ediv_of_nonneg _ (by omega)]
  exact Int.ediv_nonneg h (by omega)
/-- one step, then as many as go by themselves -/
local macro_rules | `(tactic| walk_at "v") => `(tactic| repeat (first
  | with_reducible refine wo_op ?_
  | with_reducible refine wo_c ?_
  | ((with_reducible refine wo_var (d := ?_) ?_ ?_); rotate_left 1; exact rfl)
  | with_reducible refine wo_cons ?_
  | with_reducible refine wo_nil ?_
  | with_reducible refine wo_cb ?_
  | with_reducible refine wo_f1 ?_
  | with_reducible refine wo_f2 ?_
  | with_reducible refine wo_plus ?_
  | with_reducible refine wo_plusK ?_
  | with_reducible refine wo_minus ?_
  | with_reducible refine wo_int ?_
  | with_reducible refine wo_abs ?_
  | with_reducible refine wo_cmp ?_
  | with_reducible refine wo_eqI ?_
  | with_reducible refine ws_seq ?_
  | with_reducible refine ws_asgN ?_
  | with_reducible refine then_nx ?_
  | with_reducible refine then_ret ?_
  | with_reducible refine ws_ret ?_
  | with_reducible refine ws_if ?_
  | with_reducible refine wo_test ?_
  | with_reducible refine wo_and ?_
  | with_reducible refine wo_or ?_
  | with_reducible refine wo_not ?_
  | with_reducible refine ex_bl ?_
  | with_reducible refine sp_true ?_
  | with_reducible refine sp_false ?_
  | with_reducible refine wo_if ?_
  | with_reducible refine ws_next ?_
  | with_reducible refine wo_tup ?_
  | with_reducible refine wo_lstK ?_))
structure Cst where
  (A B C m1 m2 m3 p1 m4 d1 p2 m5 d2 p3 d3 : Int)
def Cst.okB (c : Cst) : Bool := [c.A, c.B, c.C, c.m1, c.m2, c.m3, c.p1, c.m4, c.d1, c.p2, c.m5, c.d2, c.p3, c.d3].all fun i => decide (0 < i) && decide (i < 2147483648)
structure Cst.Ok (c : Cst) : Prop where
  A : 0 < c.A ∧ c.A < 2147483648
  B : 0 < c.B ∧ c.B < 2147483648
  C : 0 < c.C ∧ c.C < 2147483648
  m1 : 0 < c.m1 ∧ c.m1 < 2147483648
  m2 : 0 < c.m2 ∧ c.m2 < 2147483648
  m3 : 0 < c.m3 ∧ c.m3 < 2147483648
  p1 : 0 < c.p1 ∧ c.p1 < 2147483648
  m4 : 0 < c.m4 ∧ c.m4 < 2147483648
  d1 : 0 < c.d1 ∧ c.d1 < 2147483648
  p2 : 0 < c.p2 ∧ c.p2 < 2147483648
  m5 : 0 < c.m5 ∧ c.m5 < 2147483648
  d2 : 0 < c.d2 ∧ c.d2 < 2147483648
  p3 : 0 < c.p3 ∧ c.p3 < 2147483648
  d3 : 0 < c.d3 ∧ c.d3 < 2147483648
def bMixed (c : Cst) : DSn := (dSeq (dAsg (dOp fMod (dCB (f1 fInt) (dCons (dOp fPlus (dOp fPlus (dOp fTimes (dVar 0) (dC (.int c.m1))) (dOp fTimes (dVar 1) (dC (.int c.m2)))) (dC (.int c.m3))) dNil)) (dC (.int c.p1))) (dgName 2))
  (dSeq (dAsg (dOp fMod (dCB (f1 fInt) (dCons (dOp fPlus (dOp fPlus (dOp fTimes (dVar 2) (dVar 2)) (dOp fTimes (dVar 1) (dC (.int c.m4)))) (dOp fDiv (dVar 2) (dC (.int c.d1)))) dNil)) (dC (.int c.p2))) (dgName 3))
  (dRet (dOp fDiv (dCB (f1 fInt) (dCons (dOp fMod (dCB (f1 fInt) (dCons (dOp fPlus (dOp fTimes (dVar 3) (dC (.int c.m5))) (dOp fDiv (dVar 2) (dC (.int c.d2)))) dNil)) (dC (.int c.p3))) dNil)) (dC (.int c.d3))))))
noncomputable def dMixed (c : Cst) : Den := dDef 4 false (bMixed c)
theorem mixed_sp {c : Cst} (k : c.Ok) (n t : Int) (hn : n.natAbs < 2 ^ 64) (ht : t.natAbs < 2 ^ 64) (μ : List M) : ∃ r, 0 ≤ r ∧ dMixed c [.int n, .int t] μ = .ok (.int r) μ := by
  have km1 := k.m1; have km2 := k.m2; have km4 := k.m4; have km5 := k.m5; have kp1 := k.p1; have kp2 := k.p2; have kp3 := k.p3; have kd1 := k.d1; have kd2 := k.d2; have kd3 := k.d3
  have key : Ws (bMixed c (slots 4 [.int n, .int t]) μ) fun o => ∃ r : Int, 0 ≤ r ∧ o = .ret (.int r) μ := by
    unfold bMixed
    walk_at "v"
    refine wo_times (tm64 hn (by omega)) ?_
    walk_at "v"
    refine wo_times (tm64 ht (by omega)) ?_
    walk_at "v"
    refine wo_mod (by omega) ?_
    have b1 := fmod_in (n * c.m1 + t * c.m2 + c.m3) kp1.1
    revert b1
    generalize (n * c.m1 + t * c.m2 + c.m3).fmod c.p1 = r1
    intro b1
    walk_at "v"
    refine wo_times (tm64 (by omega) (by omega)) ?_
    walk_at "v"
    refine wo_times (tm64 ht (by omega)) ?_
    walk_at "v"
    refine wo_div (by omega) (dv64 (by omega)) ?_
    walk_at "v"
    refine wo_mod (by omega) ?_
    have b2 := fmod_in (r1 * r1 + t * c.m4 + r1.fdiv c.d1) kp2.1
    revert b2
    generalize (r1 * r1 + t * c.m4 + r1.fdiv c.d1).fmod c.p2 = r2
    intro b2
    walk_at "v"
    refine wo_times (tm64 (by omega) (by omega)) ?_
    walk_at "v"
    refine wo_div (by omega) (dv64 (by omega)) ?_
    walk_at "v"
    refine wo_mod (by omega) ?_
    have b3 := fmod_in (r2 * c.m5 + r1.fdiv c.d2) kp3.1
    walk_at "v"
    refine wo_div (by omega) (dv64 (by omega)) ?_
    exact ⟨_, fdiv_in b3.1 kd3.1, rfl⟩
  obtain ⟨r, r0, e⟩ := key
  exact ⟨r, r0, by unfold dMixed; rw [dDef_tree, e, leave_int]⟩
end Dn
set_option Elab.async false
set_option linter.all false
set_option maxRecDepth 100000
set_option maxHeartbeats 2000000
set_option autoImplicit false
/-! DnU: a draw, the hand. -/
namespace Dn
open PySem PySem.Spec PyProof.Rows L2 Gk
section
variable {X : Z → List M → Prop} {μ : List M} {δ : VS} {W : SO → Prop}
/-- xs[i] = e -/
theorem ws_asgSub {a o i : DEn} (e : Wo (a δ μ) (fun x μ1 => Wo (o δ μ1) (fun l μ2 => Wo (i δ μ2) (fun j μ3 => ∃ k n ds m, l = .loc k ∧ j = .int n ∧ μ3[k]? = some (.lst ds) ∧ ixN ds.length n = some m ∧ W (.nx δ (μ3.set k (.lst (ds.set m x))))) (fun _ _ => False)) (fun _ _ => False)) (fun z μ1 => W (.exc z δ μ1))) :
    Ws (dAsg a (dgSub o i) δ μ) W := by
  refine ws_asg (wo_mono e (fun x μ1 h => ?_) fun _ _ h => h)
  obtain ⟨l, μ2, e1, h⟩ := wo_get h
  obtain ⟨j, μ3, e2, k, n, ds, m, rfl, rfl, e3, e4, w⟩ := wo_get h
  refine ⟨_, _, ?_, w⟩
  unfold dgSub
  rw [e1]
  dsimp only
  rw [e2]
  dsimp only
  rw [e3]
  dsimp only
  rw [e4]
theorem wo_ixC {Q : D → List M → Prop} {cs : List Int} {i : Int} (h0 : 0 ≤ i) (h1 : i < cs.length) (q : ∀ z ∈ cs, Q (.int z) μ) : Wo (fIx (.lst (cs.map D.int)) (.int i) μ) Q X := by
  obtain ⟨n, rfl⟩ := Int.eq_ofNat_of_zero_le h0
  have hn : n < cs.length := by exact_mod_cast h1
  refine wo_ixL (d := .int cs[n]) ?_ (q _ (List.getElem_mem hn))
  refine atI_nat ?_
  rw [List.getElem?_map, List.getElem?_eq_getElem hn]; rfl
end
/-- the hand of a script's draws -/
def HandO (m : M) : Prop := ∃ (cs : List Int) (i r t : Int), m = .lst [.lst (cs.map D.int), .int i, .int r, .int t] ∧ (∀ c ∈ cs, 0 ≤ c) ∧ (0 ≤ i ∧ i ≤ cs.length) ∧ cs.length ≤ 63 ∧ 0 ≤ r ∧ (0 ≤ t ∧ t < 2 ^ 31)
theorem set_self {μ : List M} {a : Nat} {m : M} (h : μ[a]? = some m) : μ.set a m = μ := by
  obtain ⟨l, e⟩ := List.getElem?_eq_some_iff.mp h
  rw [← e]
  exact List.set_getElem_self l
theorem clos_ints {n : Nat} (cs : List Int) : clos n (cs.map D.int) = true := by
  induction cs with
  | nil => rfl
  | cons c r ih => show (clo n (.int c) && clos n (r.map D.int)) = true; rw [ih]; rfl
theorem HandO.clo {n : Nat} {m : M} (h : HandO m) : cloM n m = true := by
  obtain ⟨cs, i, r, t, rfl, _⟩ := h
  show (Dn.clo n (.lst (cs.map D.int)) && _) = true
  rw [Dn.clo, clos_ints]
  rfl
/-- a def hands back a value that holds nothing new; the store: one thing is another, behind it new things -/
theorem leave_set {μ l : List M} {a : Nat} {m : M} {x : D} (ha : a < μ.length) (hm : cloM μ.length m = true) (hx : clo μ.length x = true) : leaveT μ (.ret x (μ.set a m ++ l)) = .ok x (μ.set a m) := by
  have b : Back μ.length μ (μ.set a m ++ l) := by
    refine ⟨by rw [List.length_append, List.length_set]; omega, fun k hk => ?_⟩
    rw [List.getElem?_append_left (by rw [List.length_set]; exact hk)]
    by_cases e : a = k
    · subst e
      exact .inr ⟨m, by rw [List.getElem?_set_self hk], hm⟩
    · exact .inl (by rw [List.getElem?_set_ne e])
  rw [leave_clo b hx, List.take_left' (List.length_set)]
theorem leave_set0 {μ : List M} {a : Nat} {m : M} {x : D} (ha : a < μ.length) (hm : cloM μ.length m = true) (hx : clo μ.length x = true) : leaveT μ (.ret x (μ.set a m)) = .ok x (μ.set a m) := by
  have := leave_set (l := []) ha hm hx
  rwa [List.append_nil] at this
local macro_rules | `(tactic| walk_at "v") => `(tactic| repeat (first
  | with_reducible refine wo_op ?_
  | with_reducible refine wo_c ?_
  | ((with_reducible refine wo_var (d := ?_) ?_ ?_); rotate_left 1; exact rfl)
  | with_reducible refine wo_cons ?_
  | with_reducible refine wo_nil ?_
  | with_reducible refine wo_cb ?_
  | with_reducible refine wo_f1 ?_
  | with_reducible refine wo_f2 ?_
  | with_reducible refine wo_plus ?_
  | with_reducible refine wo_plusK ?_
  | with_reducible refine wo_minus ?_
  | with_reducible refine wo_int ?_
  | with_reducible refine wo_abs ?_
  | with_reducible refine wo_cmp ?_
  | with_reducible refine wo_eqI ?_
  | with_reducible refine ws_seq ?_
  | with_reducible refine ws_asgN ?_
  | with_reducible refine ws_asgSub ?_
  | with_reducible refine then_nx ?_
  | with_reducible refine then_ret ?_
  | with_reducible refine ws_ret ?_
  | with_reducible refine ws_if ?_
  | with_reducible refine wo_test ?_
  | with_reducible refine wo_and ?_
  | with_reducible refine wo_or ?_
  | with_reducible refine wo_not ?_
  | with_reducible refine ex_bl ?_
  | with_reducible refine sp_true ?_
  | with_reducible refine sp_false ?_
  | with_reducible refine wo_if ?_
  | with_reducible refine ws_next ?_
  | with_reducible refine wo_tup ?_
  | with_reducible refine wo_call ?_
  | with_reducible refine wo_lenL ?_
  | with_reducible refine wo_lenT ?_
  | with_reducible refine wo_lstK ?_))
noncomputable def bTake (c : Cst) : DSn := (dSeq (dIfS (dAnd (dTest (dOp (fEq false) (dOp fIx (dVar 0) (dC (.int 2))) (dC (.int 0)))) (dTest (dOp (fI (fun _ _ => true) fun i j => .bl (decide (i < j))) (dOp fIx (dVar 0) (dC (.int 1))) (dCB (f1 fLen) (dCons (dOp fIx (dVar 0) (dC (.int 0))) dNil))))) (dSeq (dAsg (dOp fIx (dOp fIx (dVar 0) (dC (.int 0))) (dOp fIx (dVar 0) (dC (.int 1)))) (dgName 2))
  (dSeq (dAsg (dOp fPlus (dOp fIx (dVar 0) (dC (.int 1))) (dC (.int 1))) (dgSub (dVar 0) (dC (.int 1))))
  (dSeq (dIfS (dTest (dOp (fI (fun _ _ => true) fun i j => .bl (decide (i < j))) (dVar 2) (dOp fPow (dC (.int 10)) (dC (.int 18))))) (dRet (dOp fMod (dCB (f1 fInt) (dCons (dCall (dMixed c) 2 [] (dCons (dOp fMod (dCB (f1 fInt) (dCons (dVar 2) dNil)) (dC (.int c.p1))) (dCons (dOp fIx (dVar 0) (dC (.int 1))) dNil))) dNil)) (dVar 1))) dNext)
  (dAsg (dVar 2) (dgSub (dVar 0) (dC (.int 2))))))) dNext)
  (dSeq (dIfS (dTest (dOp (fI (fun _ _ => true) fun i j => .bl (decide (j < i))) (dOp fIx (dVar 0) (dC (.int 2))) (dC (.int 0)))) (dSeq (dAsg (dOp fIx (dVar 0) (dC (.int 2))) (dgName 3))
  (dSeq (dAsg (dOp fDiv (dCB (f1 fInt) (dCons (dVar 3) dNil)) (dVar 1)) (dgSub (dVar 0) (dC (.int 2))))
  (dRet (dOp fMod (dCB (f1 fInt) (dCons (dVar 3) dNil)) (dVar 1))))) dNext)
  (dSeq (dAsg (dOp fMod (dCB (f1 fInt) (dCons (dOp fPlus (dOp fIx (dVar 0) (dC (.int 3))) (dC (.int 1))) dNil)) (dC (.int c.C))) (dgSub (dVar 0) (dC (.int 3))))
  (dRet (dOp fMod (dCB (f1 fInt) (dCons (dCall (dMixed c) 2 [] (dCons (dOp fIx (dVar 0) (dC (.int 3))) (dCons (dOp fIx (dVar 0) (dC (.int 1))) dNil))) dNil)) (dVar 1))))))
noncomputable def dTake (c : Cst) : Den := dDef 4 false (bTake c)
theorem take_sp {c : Cst} (k : c.Ok) {μ : List M} {a : Nat} {hd : M} {m : Int} (hμ : μ[a]? = some hd) (H : HandO hd) (m0 : 0 < m) (m1 : m.natAbs.log2 < 9000) :
    ∃ n h', 0 ≤ n ∧ n < m ∧ HandO h' ∧ dTake c [.loc a, .int m] μ = .ok (.int n) (μ.set a h') := by
  obtain ⟨cs, i, r, t, rfl, nn, ⟨i0, i1⟩, len, r0, t0, t1⟩ := H
  have ha : a < μ.length := (List.getElem?_eq_some_iff.mp hμ).1
  have mn : m ≠ 0 := by omega
  have kp1 := k.p1; have kC := k.C
  have key : Ws (bTake c (slots 4 [.loc a, .int m]) μ) fun o => ∃ n h', 0 ≤ n ∧ n < m ∧ HandO h' ∧ o = .ret (.int n) (μ.set a h') := by
    unfold bTake
    have get : ∀ h', (μ.set a h')[a]? = some h' := fun h' => List.getElem?_set_self ha
    -- the last part: nothing of the script is left
    have last : r = 0 → ∀ δ2 δ3, Ws ((dSeq (dAsg (dOp fMod (dCB (f1 fInt) (dCons (dOp fPlus (dOp fIx (dVar 0) (dC (.int 3))) (dC (.int 1))) dNil)) (dC (.int c.C))) (dgSub (dVar 0) (dC (.int 3))))
        (dRet (dOp fMod (dCB (f1 fInt) (dCons (dCall (dMixed c) 2 [] (dCons (dOp fIx (dVar 0) (dC (.int 3))) (dCons (dOp fIx (dVar 0) (dC (.int 1))) dNil))) dNil)) (dVar 1)))) [some (.loc a), some (.int m), δ2, δ3] μ) fun o => ∃ n h', 0 ≤ n ∧ n < m ∧ HandO h' ∧ o = .ret (.int n) (μ.set a h') := by
      intro e0 δ2 δ3
      walk_at "v"
      refine wo_ixM hμ rfl ?_
      walk_at "v"
      refine wo_mod (by omega) ?_
      have tb := fmod_in (t + 1) kC.1
      revert tb
      generalize (t + 1).fmod c.C = t'
      intro tb
      walk_at "v"
      refine ⟨a, 3, _, 3, rfl, rfl, hμ, rfl, ?_⟩
      walk_at "v"
      refine wo_ixM (get _) rfl ?_
      walk_at "v"
      refine wo_ixM (get _) rfl ?_
      obtain ⟨x, x0, ex⟩ := mixed_sp k t' i (by omega) (by omega) (μ.set a (.lst [.lst (cs.map D.int), .int i, .int r, .int t']))
      refine ⟨rfl, wo_eq ex ?_⟩
      walk_at "v"
      refine wo_mod mn ?_
      exact ⟨_, _, (fmod_in x m0).1, (fmod_in x m0).2, ⟨cs, i, r, t', rfl, nn, ⟨i0, i1⟩, len, r0, tb.1, by omega⟩, rfl⟩
    walk_at "v"
    refine wo_ixM hμ rfl ?_
    walk_at "v"
    refine ⟨fun hr => ?_, fun hr => ?_⟩
    · have er : r = 0 := by simpa using hr
      walk_at "v"
      refine wo_ixM hμ rfl ?_
      walk_at "v"
      refine wo_ixM hμ rfl ?_
      walk_at "v"
      refine ⟨fun hi => ?_, fun hi => ?_⟩
      · have hi2 : i < cs.length := by simpa using hi
        walk_at "v"
        refine wo_ixM hμ rfl ?_
        walk_at "v"
        refine wo_ixM hμ rfl ?_
        refine wo_ixC i0 hi2 fun z hz => ?_
        have z0 := nn z hz
        walk_at "v"
        refine wo_ixM hμ rfl ?_
        walk_at "v"
        refine ⟨a, 1, _, 1, rfl, rfl, hμ, rfl, ?_⟩
        walk_at "v"
        refine wo_eq (x := .int 1000000000000000000) rfl ?_
        walk_at "v"
        refine ⟨fun hs => ?_, fun hs => ?_⟩
        · walk_at "v"
          refine wo_mod (by omega) ?_
          have zb := fmod_in z kp1.1
          walk_at "v"
          refine wo_ixM (get _) rfl ?_
          obtain ⟨x, x0, ex⟩ := mixed_sp k (z.fmod c.p1) (i + 1) (by omega) (by omega) (μ.set a (.lst [.lst (cs.map D.int), .int (i + 1), .int r, .int t]))
          refine ⟨rfl, wo_eq ex ?_⟩
          walk_at "v"
          refine wo_mod mn ?_
          exact ⟨_, _, (fmod_in x m0).1, (fmod_in x m0).2, ⟨cs, i + 1, r, t, rfl, nn, ⟨by omega, by omega⟩, len, r0, t0, t1⟩, rfl⟩
        · have hs2 : 1000000000000000000 ≤ z := by simpa using hs
          walk_at "v"
          refine ⟨a, 2, _, 2, rfl, rfl, get _, rfl, ?_⟩
          rw [List.set_set]
          walk_at "v"
          refine wo_ixM (get _) rfl ?_
          walk_at "v"
          refine ⟨fun hz1 => ?_, fun hz1 => absurd hz1 (by simp; omega)⟩
          walk_at "v"
          refine wo_ixM (get _) rfl ?_
          walk_at "v"
          refine wo_div mn m1 ?_
          walk_at "v"
          refine ⟨a, 2, _, 2, rfl, rfl, get _, rfl, ?_⟩
          rw [List.set_set]
          walk_at "v"
          refine wo_mod mn ?_
          exact ⟨_, _, (fmod_in z m0).1, (fmod_in z m0).2, ⟨cs, i + 1, z.fdiv m, t, rfl, nn, ⟨by omega, by omega⟩, len, fdiv_in z0 m0, t0, t1⟩, rfl⟩
      · walk_at "v"
        refine wo_ixM hμ rfl ?_
        walk_at "v"
        refine ⟨fun hz1 => absurd hz1 (by simp [er]), fun _ => ?_⟩
        exact last er none none
    · have er : r ≠ 0 := by simpa using hr
      walk_at "v"
      refine wo_ixM hμ rfl ?_
      walk_at "v"
      refine ⟨fun _ => ?_, fun hz1 => absurd hz1 (by simp; omega)⟩
      walk_at "v"
      refine wo_ixM hμ rfl ?_
      walk_at "v"
      refine wo_div mn m1 ?_
      walk_at "v"
      refine ⟨a, 2, _, 2, rfl, rfl, hμ, rfl, ?_⟩
      walk_at "v"
      refine wo_mod mn ?_
      exact ⟨_, _, (fmod_in r m0).1, (fmod_in r m0).2, ⟨cs, i, r.fdiv m, t, rfl, nn, ⟨i0, i1⟩, len, fdiv_in r0 m0, t0, t1⟩, rfl⟩
  obtain ⟨n, h', n0, n1, H, e⟩ := key
  refine ⟨n, h', n0, n1, H, ?_⟩
  unfold dTake
  rw [dDef_tree, e, leave_set0 ha H.clo rfl]
end Dn
set_option Elab.async false
set_option linter.all false
set_option maxRecDepth 100000
set_option maxHeartbeats 1000000
/-! GEnd: the ends that every law shares: from the head's facts to the functions over trees. -/
namespace Dn
open PySem PySem.Spec PyProof.Rows L2 Gk
theorem walk_E {l : PySem.W.OpenLaw} {n k : Nat} {q : Program} {loose : List Str} {XP : (Str → Option Value) → Heap → Prop} {YP : World → Heap → Prop} {d : DefRec} {x : Str}
    (hn : l.most = some n) (hn2 : n ≤ sizeLine) (hdf : d.params.defaults = []) (rm : Room k callerA)
    (F : ∀ (w : World) (mg : Str → Option Value) (fa : Addr) (h : Heap), YP w h → h.Ns mainGlobals mg → mg d.name = some (.ref fa) →
      ∃ (K : PySem.W.Frag) (sp : Sp) (fd : FuncData), K.In h ∧ (∀ (s : Shared) (u : Value), BindsTo s fd ⟨[u], []⟩ [(x, u)]) ∧
        (∀ (H : Hp) (a : Addr) (ns : List Int), ns.length ≤ n → (∀ z ∈ ns, Builtin.Int.intBits z ≤ 1048576) → Only H → SqL K H a (ns.map V.int) → sp [.ref a] H (fun v _ => v = .bl true) fun _ _ _ => False) ∧
        ∀ base : Heap, K.In base → base.Ns mainGlobals mg → GOk l.prog w K mg base (L2.CX l.prog w) k fa fd [x] sp) :
    PySem.W.WalkO q loose XP YP l.row.toRowW d [] (fun f vs => PySem.call f vs) := by
  refine Att.attach_callB hn hdf ?_
  intro w s0 s1 mg mb fa o pm cd doc a vs ns Gr Y ho hd hcd hmg hobj hints hlen hbits hg
  obtain ⟨K, sp, fd, KX, hb, hsp, hF⟩ := F w mg fa _ Y Gr.T.g hmg
  exact end_call KX Gr.T.g Gr.T.b Gr.T.builtins Gr.T.nolimit hg hobj hints (Nat.le_trans hlen hn2) rm hF hb
    (fun H hO hS => hsp H a ns hlen hbits hO hS) (fun H e s' ⟨_, _, _, _, _, _, _, _, _, _, _, _, z⟩ => z)
theorem ints_rel {K : PySem.W.Frag} {ρ : List Addr} {F : Hp} : ∀ ns : List Int, DRs K ρ F (ns.map D.int) (ns.map V.int)
  | [] => .nil
  | n :: ns => .cons (.int n) (ints_rel ns)
theorem spd_start {K : PySem.W.Frag} {den : Den} {H : Hp} {a : Addr} {ns : List Int} (hS : SqL K H a (ns.map V.int)) (h : ∃ μ, den [.lst (ns.map D.int)] [] = .ok (.bl true) μ) :
    spD K den 1 [.ref a] H (fun v _ => v = .bl true) (fun _ _ _ => False) := by
  obtain ⟨μ, e⟩ := h
  refine ⟨[], H, [], [.lst (ns.map D.int)], ⟨Same.refl H, rfl, List.nodup_nil, fun a h => (by cases h), fun k a m h => (by simp at h)⟩, .cons (.lst hS (ints_rel ns)) .nil, rfl, ?_⟩
  rw [e]
  intro ρ' F' v H' _ _ q
  cases q
  rfl
section
variable {K : PySem.W.Frag} {stm : Stmt}
theorem fun_of {x : Str} {a : Addr} (F : ∃ fd, FunD K x x (defArgs stm) (defBody stm) (defScope stm) [] [] a fd) : ∃ fd, Fun K x x stm a fd := by
  obtain ⟨fd, F⟩ := F
  obtain ⟨oc, od, dV, kV, doc, pm, an, cdv, ct, osl, e, l, cc, dfl, kwd⟩ := F.ex
  have dn : dV = .none := by
    rcases dfl with ⟨_, z⟩ | ⟨z, _⟩
    · exact z
    · exact absurd rfl z
  subst dn
  rw [e] at l
  exact ⟨_, fun_mk (st := stm) l cc F.kp⟩
theorem init_of {ql : Str} {a : Addr} (F : ∃ fd, FunD K "__init__" ql (defArgs stm) (defBody stm) (defScope stm) [] [] a fd) : ∃ fd, Fun K "__init__" ql stm a fd := by
  obtain ⟨fd, F⟩ := F
  obtain ⟨oc, od, dV, kV, doc, pm, an, cdv, ct, osl, e, l, cc, dfl, kwd⟩ := F.ex
  have dn : dV = .none := by
    rcases dfl with ⟨_, z⟩ | ⟨z, _⟩
    · exact z
    · exact absurd rfl z
  subst dn
  rw [e] at l
  exact ⟨_, fun_mk (st := stm) l cc F.kp⟩
/-- the law's own def: it is called with the script alone -/
theorem law_of {a : Addr} (hb : ∀ (kV doc pm : Value) (an : Option Addr) (cdv ct u : Value), bindArgs (PySem.W.fnOf "law" "law" (defArgs stm) (defBody stm) (defScope stm) .none kV doc pm an cdv ct) ⟨[u], []⟩ = pure [(("_law_script" : Str), u)])
    (F : ∃ fd, FunD K "law" "law" (defArgs stm) (defBody stm) (defScope stm) [] [] a fd) : ∃ fd, Fun K "law" "law" stm a fd ∧ ∀ (s : Shared) (u : Value), BindsTo s fd ⟨[u], []⟩ [("_law_script", u)] := by
  obtain ⟨fd, F⟩ := F
  obtain ⟨oc, od, dV, kV, doc, pm, an, cdv, ct, osl, e, l, cc, dfl, kwd⟩ := F.ex
  have dn : dV = .none := by
    rcases dfl with ⟨_, z⟩ | ⟨z, _⟩
    · exact z
    · exact absurd rfl z
  subst dn
  rw [e] at l
  exact ⟨_, fun_mk (st := stm) l cc F.kp, fun s u => .of_eq (hb _ _ _ _ _ _ u)⟩
/-- classes and fields from the head's facts -/
theorem hF_of {tab : List (Str × List Str)} {fa : List He.Fa} {fn : List He.DefD} (c : He.SaysD fa fn K) (h : ∀ p ∈ tab, He.Fa.cls p.1 ∈ fa ∧ ∀ f ∈ p.2, He.Fa.noat p.1 f ∈ fa) :
    ∀ C f, (tab.any fun p => (He.ga K p.1 == C) && p.2.contains f) = true → Cls K C ∧ NoAttr K C f := by
  have c1 := (He.ba (show ((fa.all fun f => f.ok K) && fn.all fun d => d.ok K) = true from congrArg (fun z : He.AlD => z.1) c)).1
  have c2 := List.all_eq_true.mp c1
  intro C f q
  obtain ⟨p, hp, q⟩ := List.any_eq_true.mp q
  obtain ⟨q1, q2⟩ := He.ba q
  have e : He.ga K p.1 = C := beq_iff_eq.mp q1
  obtain ⟨h1, h2⟩ := h p hp
  rw [← e]
  exact ⟨He.cls_ok (c2 _ h1), He.noat_ok (c2 _ (h2 f (List.contains_iff_mem.mp q2)))⟩
end
end Dn
set_option Elab.async false
set_option linter.all false
set_option maxRecDepth 100000
set_option maxHeartbeats 1000000
/-! DnH: the draws of a law's script: three defs that every law shares, as functions over trees. -/
namespace DnH
open PySem PySem.Spec PyProof.Rows L2 Gk Dn
noncomputable def b__law_hand : DSn := (dSeq (dAsg (dOp fPlus (dCB (f1 fLen) (dCons (dVar 0) dNil)) (dC (.int 37))) (dgName 1))
  (dSeq (dAsg (dLst dNil) (dgName 2))
  (dSeq (dFor (dSeqI (dVar 0)) (dgName 3) (dSeq (dAsg (dOp fMod (dCB (f1 fInt) (dCons (dOp fPlus (dOp fTimes (dVar 1) (dC (.int 1709))) (dCB (f1 fInt) (dCons (dVar 3) dNil))) dNil)) (dC (.int 2147483549))) (dgName 1))
  (dDrop (dAppend (dVar 2) (dCons (dCB (f1 fAbs) (dCons (dCB (f1 fInt) (dCons (dVar 3) dNil)) dNil)) dNil)))))
  (dRet (dLst (dCons (dVar 2) (dCons (dC (.int 0)) (dCons (dC (.int 0)) (dCons (dVar 1) dNil)))))))))
noncomputable def d__law_hand : Den := dDef 4 true b__law_hand
noncomputable def b__law_mixed : DSn := (dSeq (dAsg (dOp fMod (dCB (f1 fInt) (dCons (dOp fPlus (dOp fPlus (dOp fTimes (dVar 0) (dC (.int 48271))) (dOp fTimes (dVar 1) (dC (.int 7919)))) (dC (.int 30011))) dNil)) (dC (.int 2147483399))) (dgName 2))
  (dSeq (dAsg (dOp fMod (dCB (f1 fInt) (dCons (dOp fPlus (dOp fPlus (dOp fTimes (dVar 2) (dVar 2)) (dOp fTimes (dVar 1) (dC (.int 92821)))) (dOp fDiv (dVar 2) (dC (.int 131)))) dNil)) (dC (.int 2147483629))) (dgName 3))
  (dRet (dOp fDiv (dCB (f1 fInt) (dCons (dOp fMod (dCB (f1 fInt) (dCons (dOp fPlus (dOp fTimes (dVar 3) (dC (.int 69621))) (dOp fDiv (dVar 2) (dC (.int 13)))) dNil)) (dC (.int 2147483587))) dNil)) (dC (.int 32))))))
noncomputable def d__law_mixed : Den := dDef 4 false b__law_mixed
noncomputable def b__law_take : DSn := (dSeq (dIfS (dAnd (dTest (dOp (fEq false) (dOp fIx (dVar 0) (dC (.int 2))) (dC (.int 0)))) (dTest (dOp (fI (fun _ _ => true) fun i j => .bl (decide (i < j))) (dOp fIx (dVar 0) (dC (.int 1))) (dCB (f1 fLen) (dCons (dOp fIx (dVar 0) (dC (.int 0))) dNil))))) (dSeq (dAsg (dOp fIx (dOp fIx (dVar 0) (dC (.int 0))) (dOp fIx (dVar 0) (dC (.int 1)))) (dgName 2))
  (dSeq (dAsg (dOp fPlus (dOp fIx (dVar 0) (dC (.int 1))) (dC (.int 1))) (dgSub (dVar 0) (dC (.int 1))))
  (dSeq (dIfS (dTest (dOp (fI (fun _ _ => true) fun i j => .bl (decide (i < j))) (dVar 2) (dOp fPow (dC (.int 10)) (dC (.int 18))))) (dRet (dOp fMod (dCB (f1 fInt) (dCons (dCall d__law_mixed 2 [] (dCons (dOp fMod (dCB (f1 fInt) (dCons (dVar 2) dNil)) (dC (.int 2147483399))) (dCons (dOp fIx (dVar 0) (dC (.int 1))) dNil))) dNil)) (dVar 1))) dNext)
  (dAsg (dVar 2) (dgSub (dVar 0) (dC (.int 2))))))) dNext)
  (dSeq (dIfS (dTest (dOp (fI (fun _ _ => true) fun i j => .bl (decide (j < i))) (dOp fIx (dVar 0) (dC (.int 2))) (dC (.int 0)))) (dSeq (dAsg (dOp fIx (dVar 0) (dC (.int 2))) (dgName 3))
  (dSeq (dAsg (dOp fDiv (dCB (f1 fInt) (dCons (dVar 3) dNil)) (dVar 1)) (dgSub (dVar 0) (dC (.int 2))))
  (dRet (dOp fMod (dCB (f1 fInt) (dCons (dVar 3) dNil)) (dVar 1))))) dNext)
  (dSeq (dAsg (dOp fMod (dCB (f1 fInt) (dCons (dOp fPlus (dOp fIx (dVar 0) (dC (.int 3))) (dC (.int 1))) dNil)) (dC (.int 2147483549))) (dgSub (dVar 0) (dC (.int 3))))
  (dRet (dOp fMod (dCB (f1 fInt) (dCons (dCall d__law_mixed 2 [] (dCons (dOp fIx (dVar 0) (dC (.int 3))) (dCons (dOp fIx (dVar 0) (dC (.int 1))) dNil))) dNil)) (dVar 1))))))
noncomputable def d__law_take : Den := dDef 4 false b__law_take
theorem fmod_bd (a : Int) {m : Int} (h : 0 < m) : 0 ≤ a.fmod m ∧ a.fmod m < m := by
  rw [Int.fmod_eq_emod_of_nonneg a (by omega)]
  exact ⟨Int.emod_nonneg a (by omega), Int.emod_lt_of_pos a h⟩
/-- a hand of draws in the store -/
def HandM (μ : List M) (a : Nat) : Prop := ∃ (cs : List Int) (i r t : Int), μ[a]? = some (.lst [.lst (cs.map D.int), .int i, .int r, .int t]) ∧
  (∀ c ∈ cs, 0 ≤ c) ∧ (0 ≤ i ∧ i ≤ cs.length) ∧ cs.length ≤ 63 ∧ 0 ≤ r ∧ (0 ≤ t ∧ t < 2 ^ 31)
theorem hix {μ : List M} {a : Nat} {c i r t : D} (h : μ[a]? = some (.lst [c, i, r, t])) : fIx (.loc a) (.int 0) μ = .ok c μ ∧ fIx (.loc a) (.int 1) μ = .ok i μ ∧ fIx (.loc a) (.int 2) μ = .ok r μ ∧ fIx (.loc a) (.int 3) μ = .ok t μ := by
  refine ⟨?_, ?_, ?_, ?_⟩ <;> (unfold fIx seqS; dsimp only; rw [h]; rfl)
theorem ix_cells {μ : List M} {cs : List Int} {i : Int} (h0 : 0 ≤ i) (h1 : i < cs.length) : ∃ z, z ∈ cs ∧ fIx (.lst (cs.map D.int)) (.int i) μ = .ok (.int z) μ := by
  obtain ⟨n, rfl⟩ := Int.eq_ofNat_of_zero_le h0
  have hn : n < cs.length := by exact_mod_cast h1
  refine ⟨cs[n], List.getElem_mem hn, ?_⟩
  have e : atI (cs.map D.int) (n : Int) = some (.int cs[n]) := by
    refine atI_nat ?_
    rw [List.getElem?_map, List.getElem?_eq_getElem hn]; rfl
  unfold fIx seqS
  dsimp only
  rw [e]
theorem len_cells {μ : List M} {cs : List Int} : fLen (.lst (cs.map D.int)) μ = .ok (.int cs.length) μ := by
  unfold fLen lenS seqS
  dsimp only
  rw [Option.map_some, List.length_map]
theorem put_hand {δ : VS} {μ : List M} {a : Nat} {c i r t x : D} (e : δ[0]? = some (some (.loc a))) (h : μ[a]? = some (.lst [c, i, r, t])) :
    dgSub (dVar 0) (dC (.int 1)) x δ μ = .nx δ (μ.set a (.lst [c, x, r, t])) ∧ dgSub (dVar 0) (dC (.int 2)) x δ μ = .nx δ (μ.set a (.lst [c, i, x, t])) ∧ dgSub (dVar 0) (dC (.int 3)) x δ μ = .nx δ (μ.set a (.lst [c, i, r, x])) := by
  refine ⟨?_, ?_, ?_⟩ <;> (unfold dgSub; rw [dVar_eq, e, getV_some]; dsimp only [dC_eq]; rw [h]; rfl)
theorem leave_put {μ : List M} {a : Nat} {n : Int} {m : M} (c : cloM μ.length m = true) : leaveT μ (.ret (.int n) (μ.set a m)) = .ok (.int n) (μ.set a m) := by
  have b : Back μ.length μ (μ.set a m) := by
    refine ⟨by rw [List.length_set]; exact Nat.le_refl _, fun k hk => ?_⟩
    by_cases e : a = k
    · subst e
      exact .inr ⟨m, by rw [List.getElem?_set_self hk], c⟩
    · exact .inl (by rw [List.getElem?_set_ne e])
  unfold leaveT
  dsimp only
  rw [if_pos b]
  show Out.ok (D.int n) (List.take μ.length (μ.set a m)) = _
  rw [List.take_of_length_le (by rw [List.length_set]; exact Nat.le_refl _)]
theorem clo_hand {n : Nat} {cs : List Int} {i r t : Int} : cloM n (.lst [.lst (cs.map D.int), .int i, .int r, .int t]) = true := by
  have h : ∀ cs : List Int, clos n (cs.map D.int) = true := fun cs => by
    induction cs with
    | nil => rfl
    | cons c r ih => show (clo n (.int c) && clos n (r.map D.int)) = true; rw [ih]; rfl
  show (clo n (.lst (cs.map D.int)) && _) = true
  rw [clo, h]; rfl
theorem fdiv_nn {z m : Int} (h : 0 ≤ z) (m0 : 0 < m) : 0 ≤ z.fdiv m := by
  rw [Int.fdiv_eq_ediv_of_nonneg _ (by omega)]
  exact Int.ediv_nonneg h (by omega)
theorem HandM.intro {μ : List M} {a : Nat} {cs : List Int} {i r t : Int} (ha : a < μ.length) (h1 : ∀ c ∈ cs, 0 ≤ c) (h2 : 0 ≤ i ∧ i ≤ cs.length) (h3 : cs.length ≤ 63) (h4 : 0 ≤ r) (h5 : 0 ≤ t ∧ t < 2 ^ 31) :
    HandM (μ.set a (.lst [.lst (cs.map D.int), .int i, .int r, .int t])) a := ⟨cs, i, r, t, by rw [List.getElem?_set_self ha], h1, h2, h3, h4, h5⟩
def Took (a : Nat) (m : Int) (μ : List M) (o : Out D) : Prop := ∃ n μ', 0 ≤ n ∧ n < m ∧ o = .ok (.int n) μ' ∧ HandM μ' a ∧ μ'.length = μ.length ∧ ∀ k, k ≠ a → μ'[k]? = μ[k]?
theorem Took.of {a : Nat} {m : Int} {μ : List M} {o : Out D} {cs : List Int} {i r t n : Int} (e : o = leaveT μ (.ret (.int (n.fmod m)) (μ.set a (.lst [.lst (cs.map D.int), .int i, .int r, .int t])))) (ha : a < μ.length) (m0 : 0 < m)
    (h1 : ∀ c ∈ cs, 0 ≤ c) (h2 : 0 ≤ i ∧ i ≤ cs.length) (h3 : cs.length ≤ 63) (h4 : 0 ≤ r) (h5 : 0 ≤ t ∧ t < 2 ^ 31) : Took a m μ o :=
  ⟨n.fmod m, _, (fmod_bd n m0).1, (fmod_bd n m0).2, e.trans (leave_put clo_hand), .intro ha h1 h2 h3 h4 h5, List.length_set, fun k hk => List.getElem?_set_ne fun z => hk z.symm⟩
def c0 : Cst := ⟨37, 1709, 2147483549, 48271, 7919, 30011, 2147483399, 92821, 131, 2147483629, 69621, 13, 2147483587, 32⟩
theorem c0_ok : c0.Ok := ⟨by decide, by decide, by decide, by decide, by decide, by decide, by decide, by decide, by decide, by decide, by decide, by decide, by decide, by decide⟩
theorem take_is : d__law_take = dTake c0 := rfl
theorem HandM.of {μ : List M} {a : Nat} {hd : M} (h : μ[a]? = some hd) (H : HandO hd) : HandM μ a := by
  obtain ⟨cs, i, r, t, rfl, h1, h2, h3, h4, h5⟩ := H
  exact ⟨cs, i, r, t, h, h1, h2, h3, h4, h5⟩
theorem HandM.to {μ : List M} {a : Nat} (h : HandM μ a) : ∃ hd, μ[a]? = some hd ∧ HandO hd := by
  obtain ⟨cs, i, r, t, h, h1, h2, h3, h4, h5⟩ := h
  exact ⟨_, h, cs, i, r, t, rfl, h1, h2, h3, h4, h5⟩
theorem take_ok {μ : List M} {a : Nat} {m : Int} (h : HandM μ a) (m0 : 0 < m) (m1 : m.natAbs.log2 < 9000) : Took a m μ (d__law_take [.loc a, .int m] μ) := by
  obtain ⟨hd, h1, h2⟩ := h.to
  obtain ⟨n, h', n0, n1, H, e⟩ := take_sp c0_ok h1 h2 m0 m1
  rw [take_is]
  exact ⟨n, _, n0, n1, e, .of (List.getElem?_set_self (List.getElem?_eq_some_iff.mp h1).1) H, List.length_set, fun k hk => List.getElem?_set_ne fun z => hk z.symm⟩
end DnH
set_option Elab.async false
set_option linter.all false
set_option maxRecDepth 100000
set_option maxHeartbeats 2000000
/-! DnH2: the hand itself. -/
namespace DnH
open PySem PySem.Spec PyProof.Rows L2 Gk Dn
theorem seqI_lst {ds : List D} {i : Nat} {δ : VS} {μ : List M} (h : δ[i]? = some (some (.lst ds))) : ∃ gd, dSeqI (dVar i) δ μ = .ok ⟨ds, gd⟩ μ ∧ ∀ μ, gd μ = true := by
  refine ⟨gdOf (.lst ds) ds, ?_, fun _ => rfl⟩
  unfold dSeqI
  rw [dVar_eq, h, getV_some, bind_ok]
  rfl
theorem append_at {k : Nat} {ds : List D} {x : D} {i : Nat} {da : DAn} {δ : VS} {μ : List M} (h : δ[i]? = some (some (.loc k))) (hk : μ[k]? = some (.lst ds)) (ha : da δ μ = .ok [x] μ) (hz : ds.length < sizeLine) :
    dAppend (dVar i) da δ μ = .ok .non (μ.set k (.lst (ds ++ [x]))) := by
  unfold dAppend lstS
  rw [dVar_eq, h, getV_some, bind_ok]
  dsimp only
  rw [hk]
  dsimp only
  rw [ha, bind_ok]
  unfold fAppend
  dsimp only
  rw [hk]
  dsimp only
  rw [if_pos hz]
theorem set_last {μ : List M} {a b : M} : (μ ++ [a]).set μ.length b = μ ++ [b] := by
  rw [List.set_append_right _ _ (Nat.le_refl _), Nat.sub_self]
  rfl
theorem get_last {μ : List M} {a : M} : (μ ++ [a])[μ.length]? = some a := by
  rw [List.getElem?_append_right (Nat.le_refl _), Nat.sub_self]
  rfl
theorem fAbs_int {i : Int} {μ : List M} : fAbs (.int i) μ = .ok (.int (if i < 0 then -i else i)) μ := rfl
theorem hand_ok (ns : List Int) (h : ns.length ≤ 63) (μ : List M) : ∃ m, d__law_hand [.lst (ns.map D.int)] μ = .ok (.loc μ.length) (μ ++ [m]) ∧ HandM (μ ++ [m]) μ.length := by
  have c1 : (1709 : Int).natAbs.log2 = 10 := by decide +kernel
  have e0 : slots 4 [D.lst (ns.map D.int)] = [some (.lst (ns.map D.int)), none, none, none] := rfl
  have e1 : (dAsg (dOp fPlus (dCB (f1 fLen) (dCons (dVar 0) dNil)) (dC (.int 37))) (dgName 1)) [some (.lst (ns.map D.int)), none, none, none] μ = .nx [some (.lst (ns.map D.int)), some (.int (ns.length + 37)), none, none] μ := by
    simp only [dAsg_eq, dOp_eq, dCB_eq, dCons_eq, dNil_eq, dVar_eq, dC_eq, f1_eq, bind_ok, thenS_ok, dgName_eq, only_nx, List.getElem?_cons_zero, getV_some, len_cells, fPlus_int]
    rfl
  have e2 : ∀ T, (dAsg (dLst dNil) (dgName 2)) [some (.lst (ns.map D.int)), some (.int T), none, none] μ = .nx [some (.lst (ns.map D.int)), some (.int T), some (.loc μ.length), none] (μ ++ [.lst []]) := fun T => rfl
  obtain ⟨gd, hi, hg⟩ := seqI_lst (ds := ns.map D.int) (i := 0) (δ := [some (.lst (ns.map D.int)), some (.int ((ns.length : Int) + 37)), some (.loc μ.length), none]) (μ := μ ++ [.lst []]) rfl
  have e3 : ∃ (cs : List Int) (tot : Int) (z : Option D), (dFor (dSeqI (dVar 0)) (dgName 3) (dSeq (dAsg (dOp fMod (dCB (f1 fInt) (dCons (dOp fPlus (dOp fTimes (dVar 1) (dC (.int 1709))) (dCB (f1 fInt) (dCons (dVar 3) dNil))) dNil)) (dC (.int 2147483549))) (dgName 1))
      (dDrop (dAppend (dVar 2) (dCons (dCB (f1 fAbs) (dCons (dCB (f1 fInt) (dCons (dVar 3) dNil)) dNil)) dNil))))) [some (.lst (ns.map D.int)), some (.int ((ns.length : Int) + 37)), some (.loc μ.length), none] (μ ++ [.lst []]) =
      .nx [some (.lst (ns.map D.int)), some (.int tot), some (.loc μ.length), z] (μ ++ [.lst (cs.map D.int)]) ∧ (∀ c ∈ cs, 0 ≤ c) ∧ cs.length ≤ 63 ∧ 0 ≤ tot ∧ tot < 2 ^ 31 := by
    refine dFor_loop (W := fun o => ∃ (cs : List Int) (tot : Int) (z : Option D), o = .nx [some (.lst (ns.map D.int)), some (.int tot), some (.loc μ.length), z] (μ ++ [.lst (cs.map D.int)]) ∧ (∀ c ∈ cs, 0 ≤ c) ∧ cs.length ≤ 63 ∧ 0 ≤ tot ∧ tot < 2 ^ 31)
      (J := fun xs δ μ' => ∃ (ys cs : List Int) (tot : Int) (z : Option D), xs = ys.map D.int ∧ δ = [some (.lst (ns.map D.int)), some (.int tot), some (.loc μ.length), z] ∧ μ' = μ ++ [.lst (cs.map D.int)] ∧ (∀ c ∈ cs, 0 ≤ c) ∧ cs.length + ys.length ≤ 63 ∧ 0 ≤ tot ∧ tot < 2 ^ 31)
      hi (fun _ _ μ' _ => hg μ') ?_ ?_ ⟨ns, [], _, none, rfl, rfl, rfl, fun c hc => absurd hc List.not_mem_nil, by simpa using h, by omega, by omega⟩
    · rintro x xs δ μ' ⟨ys, cs, tot, z, ex, rfl, rfl, hc, hl, t0, t1⟩
      cases ys with
      | nil => cases ex
      | cons y ys =>
        rw [List.map_cons, List.cons.injEq] at ex
        obtain ⟨rfl, rfl⟩ := ex
        refine ⟨_, _, rfl, ?_⟩
        have l1 : tot.natAbs.log2 < 64 := log2_lt (by omega) (by decide)
        have bd := fmod_bd (tot * 1709 + y) (show (0 : Int) < 2147483549 by decide)
        have st : (dSeq (dAsg (dOp fMod (dCB (f1 fInt) (dCons (dOp fPlus (dOp fTimes (dVar 1) (dC (.int 1709))) (dCB (f1 fInt) (dCons (dVar 3) dNil))) dNil)) (dC (.int 2147483549))) (dgName 1))
            (dDrop (dAppend (dVar 2) (dCons (dCB (f1 fAbs) (dCons (dCB (f1 fInt) (dCons (dVar 3) dNil)) dNil)) dNil)))) [some (.lst (ns.map D.int)), some (.int tot), some (.loc μ.length), some (.int y)] (μ ++ [.lst (cs.map D.int)]) =
            .nx [some (.lst (ns.map D.int)), some (.int ((tot * 1709 + y).fmod 2147483549)), some (.loc μ.length), some (.int y)] (μ ++ [.lst ((cs ++ [if y < 0 then -y else y]).map D.int)]) := by
          have a1 : (dAsg (dOp fMod (dCB (f1 fInt) (dCons (dOp fPlus (dOp fTimes (dVar 1) (dC (.int 1709))) (dCB (f1 fInt) (dCons (dVar 3) dNil))) dNil)) (dC (.int 2147483549))) (dgName 1)) [some (.lst (ns.map D.int)), some (.int tot), some (.loc μ.length), some (.int y)] (μ ++ [.lst (cs.map D.int)]) =
              .nx [some (.lst (ns.map D.int)), some (.int ((tot * 1709 + y).fmod 2147483549)), some (.loc μ.length), some (.int y)] (μ ++ [.lst (cs.map D.int)]) := by
            simp (disch := omega) only [dAsg_eq, dOp_eq, dCB_eq, dCons_eq, dNil_eq, dVar_eq, dC_eq, f1_eq, bind_ok, thenS_ok, dgName_eq, only_nx, List.getElem?_cons_zero, List.getElem?_cons_succ, getV_some, fInt_int, fPlus_int, fTimes_int, fMod_int, List.set_cons_succ, List.set_cons_zero]
          have a2 : dAppend (dVar 2) (dCons (dCB (f1 fAbs) (dCons (dCB (f1 fInt) (dCons (dVar 3) dNil)) dNil)) dNil) [some (D.lst (ns.map D.int)), some (D.int ((tot * 1709 + y).fmod 2147483549)), some (.loc μ.length), some (.int y)] (μ ++ [.lst (cs.map D.int)]) =
              .ok .non ((μ ++ [M.lst (cs.map D.int)]).set μ.length (M.lst (cs.map D.int ++ [D.int (if y < 0 then -y else y)]))) := by
            refine append_at rfl get_last ?_ ?_
            · simp only [dCB_eq, dCons_eq, dNil_eq, dVar_eq, f1_eq, bind_ok, List.getElem?_cons_zero, List.getElem?_cons_succ, getV_some, fInt_int, fAbs_int]
            · rw [List.length_map]
              rw [List.length_cons] at hl
              exact Nat.lt_of_lt_of_le (show cs.length < 64 by omega) (by decide)
          rw [dSeq_eq, a1, thn_nx, dDrop_eq, a2, thenS_ok, set_last, List.map_append]
          rfl
        refine Eq.mpr (congrArg (Dn.Turn _ _) st) ?_
        refine ⟨ys, cs ++ [if y < 0 then -y else y], _, some (.int y), rfl, rfl, rfl, fun c hm => ?_, by simp at hl ⊢; omega, bd.1, by omega⟩
        rcases List.mem_append.mp hm with q | q
        · exact hc c q
        · rw [List.mem_singleton.mp q]
          split <;> omega
    · rintro δ μ' ⟨ys, cs, tot, z, ex, rfl, rfl, hc, hl, t0, t1⟩
      exact ⟨cs, tot, z, rfl, hc, by omega, t0, t1⟩
  obtain ⟨cs, tot, z, e3, hc, hl, t0, t1⟩ := e3
  refine ⟨.lst [.lst (cs.map D.int), .int 0, .int 0, .int tot], ?_, ⟨cs, 0, 0, tot, get_last, hc, ⟨Int.le_refl 0, by omega⟩, hl, Int.le_refl 0, t0, t1⟩⟩
  unfold d__law_hand b__law_hand
  rw [dDef_own, e0, dSeq_eq, e1, thn_nx, dSeq_eq, e2, thn_nx, dSeq_eq, e3, thn_nx]
  have e4 : (dRet (dLst (dCons (dVar 2) (dCons (dC (.int 0)) (dCons (dC (.int 0)) (dCons (dVar 1) dNil)))))) [some (.lst (ns.map D.int)), some (.int tot), some (.loc μ.length), z] (μ ++ [.lst (cs.map D.int)]) =
      .ret (.loc (μ ++ [M.lst (cs.map D.int)]).length) (μ ++ [.lst (cs.map D.int)] ++ [.lst [.loc μ.length, .int 0, .int 0, .int tot]]) := rfl
  rw [e4]
  have lb : (μ ++ [M.lst (cs.map D.int)]).length = μ.length + 1 := by rw [List.length_append]; rfl
  have b : Back μ.length μ (μ ++ [M.lst (cs.map D.int)] ++ [.lst [.loc μ.length, .int 0, .int 0, .int tot]]) := by
    rw [List.append_assoc]
    exact back_app
  unfold leaveO
  dsimp only
  rw [if_pos ⟨b, by rw [lb]; omega⟩, get_last]
  dsimp only
  have clo1 : clos μ.length (cs.map D.int) = true := by
    have q : cloM μ.length (.lst [.lst (cs.map D.int), .int 0, .int 0, .int tot]) = true := clo_hand
    rw [cloM, clos, Bool.and_eq_true] at q
    exact q.1
  have fz : fzBs μ.length (fzK μ.length (some (μ ++ [M.lst (cs.map D.int)]).length) (μ ++ [.lst (cs.map D.int)] ++ [.lst [.loc μ.length, .int 0, .int 0, .int tot]]) deepK) [.loc μ.length, .int 0, .int 0, .int tot] =
      some [.lst (cs.map D.int), .int 0, .int 0, .int tot] := by
    have q : fzK μ.length (some (μ ++ [M.lst (cs.map D.int)]).length) (μ ++ [.lst (cs.map D.int)] ++ [.lst [.loc μ.length, .int 0, .int 0, .int tot]]) (5 + 1) μ.length = some (.lst (cs.map D.int)) := by
      rw [fzK, if_neg (by rw [lb]; simp), List.append_assoc, List.getElem?_append_right (Nat.le_refl _), Nat.sub_self]
      show (fzBs μ.length _ (cs.map D.int)).map _ = _
      rw [fzBs_clo _ _ _ clo1]
      rfl
    rw [fzBs, fzB, if_neg (Nat.lt_irrefl _)]
    show (fzK μ.length _ _ (5 + 1) μ.length).bind _ = _
    rw [q]
    rfl
  rw [fz]
  dsimp only
  rw [List.append_assoc, List.take_left']
  rfl
end DnH
set_option Elab.async false
set_option linter.all false
set_option maxRecDepth 100000
set_option maxHeartbeats 1000000
namespace K77
open PySem PySem.Spec PyProof.Rows L2 Gk Dn

def topS (i : Nat) : Stmt := PySem.Challenge.pw_thinslopes_k77_all_results_keep_their_th.main.body.getD i (.Pass ⟨0, 0, 0, 0⟩)
def fuelW : Nat := 2 ^ 4000
structure TB (mg : Str → Option Value) : Prop where
  abs : mg "abs" = none
  int : mg "int" = none
  isinstance : mg "isinstance" = none
  len : mg "len" = none
  list : mg "list" = none
  range : mg "range" = none
  repr : mg "repr" = none
/-- the classes and their fields -/
def clE (x : Str) (l : List Str) : Str × List Str := (x, l)
def tabF : List (Str × List Str) := [clE "Weights" ["row"], clE "Hidden" ["numbers"], clE "Missing" ["column"], clE "Meeting" ["row", "first", "second"], clE "Core" ["strikes", "cells"], clE "Block" ["rows", "columns", "places", "most"], clE "Fewest" ["count", "row"], clE "Dependent" ["row", "numbers"], clE "Recovered" ["numbers", "filling"], clE "Clash" ["weights"], clE "Given" ["rows"], clE "Parted" ["answer", "numbers"], clE "Bounds" ["low", "low_budget", "blocks", "high", "high_budget", "cored", "cored_budget"], clE "Chain" ["cells"], clE "LeastBoth" ["row_groups", "column_groups", "many"], clE "Played" ["path", "answers"], clE "Come" ["path", "book", "filling"], clE "Never" ["path", "answer", "weights"], clE "Untold" ["path", "filling", "hidden"], clE "Piece" ["points", "ties", "groups"], clE "Walk" ["points", "groups"], clE "Balance" ["plus", "minus", "times", "groups"], clE "FewestGroups" ["groups", "first", "many"], clE "SideLot" ["points", "ties", "most"], clE "WebCore" ["strikes", "ties"], clE "Run" ["spots", "slopes", "answer", "products"], clE "RunTable" ["rows", "products"], clE "Apart" ["terms"], clE "Lost" ["answers", "numbers"], clE "Mended" ["wrong", "answers", "numbers"], clE "Worse" ["most"], clE "Whole" ["bottom", "weights", "numbers"], clE "RestWeights" ["row"], clE "RestHidden" ["numbers"], clE "Bent" ["spots", "along", "back", "bends", "answer", "products"], clE "Parts" ["base", "lots"], clE "SideBounds" ["low", "bars", "high", "book"], clE "Taken" ["steps", "turns", "missing"], clE "Solved" ["steps", "letters"], clE "Ladder" ["read", "taken", "solved", "told"]] ++ [clE "Ring" ["points"], clE "Unseen" ["numbers", "strangers"], clE "Filled" ["numbers", "strangers"], clE "Twice" ["first", "second"], clE "Explained" ["strangers", "numbers"]]
def cF (ad : Str → Addr) : ClsF := fun C f => tabF.any fun p => (ad p.1 == C) && p.2.contains f
section
variable {P : Program} {w : World} {K : PySem.W.Frag} {mg : Str → Option Value} {base : Heap} {ad : Str → Addr}
abbrev stC_Weights : Stmt := inClass (topS 1) 0
abbrev psC_Weights : List Str := ["self", "row"]
theorem scC_Weights : FnScope psC_Weights psC_Weights (defScope stC_Weights) := ⟨rfl, rfl, rfl, by decide +kernel, rfl, by decide +kernel, by decide +kernel⟩
noncomputable def dC_Weights (ad : Str → Addr) : Den := dDef 2 false (initB (cF ad) 1 ["row"])
theorem okC_Weights (hF : ∀ C f, cF ad C f = true → Cls K C ∧ NoAttr K C f) (F : ClsAt K mg "Weights" "Weights.__init__" stC_Weights (ad "Weights")) : ClAt P w K mg base 1 "Weights" "Weights.__init__" stC_Weights (ad "Weights") psC_Weights [] (dC_Weights ad) :=
  mkCl (N := psC_Weights) (ps := psC_Weights) (own := false) (g := initB (cF ad) 1 ["row"]) (k := 0) F scC_Weights (fun _ _ _ _ _ _ us hl => match us, hl with | [_, _], _ => rfl) fun f cdv A outer s H E hr => ⟨_, (pss_one (ps_fld (pv 0) (pv 1) rfl)), (ss_putf (f := "row") (fun C => hF C "row") se_var se_var)⟩
abbrev stC_Hidden : Stmt := inClass (topS 3) 0
abbrev psC_Hidden : List Str := ["self", "numbers"]
theorem scC_Hidden : FnScope psC_Hidden psC_Hidden (defScope stC_Hidden) := ⟨rfl, rfl, rfl, by decide +kernel, rfl, by decide +kernel, by decide +kernel⟩
noncomputable def dC_Hidden (ad : Str → Addr) : Den := dDef 2 false (initB (cF ad) 1 ["numbers"])
theorem okC_Hidden (hF : ∀ C f, cF ad C f = true → Cls K C ∧ NoAttr K C f) (F : ClsAt K mg "Hidden" "Hidden.__init__" stC_Hidden (ad "Hidden")) : ClAt P w K mg base 1 "Hidden" "Hidden.__init__" stC_Hidden (ad "Hidden") psC_Hidden [] (dC_Hidden ad) :=
  mkCl (N := psC_Hidden) (ps := psC_Hidden) (own := false) (g := initB (cF ad) 1 ["numbers"]) (k := 0) F scC_Hidden (fun _ _ _ _ _ _ us hl => match us, hl with | [_, _], _ => rfl) fun f cdv A outer s H E hr => ⟨_, (pss_one (ps_fld (pv 0) (pv 1) rfl)), (ss_putf (f := "numbers") (fun C => hF C "numbers") se_var se_var)⟩
abbrev stC_Missing : Stmt := inClass (topS 5) 0
abbrev psC_Missing : List Str := ["self", "column"]
theorem scC_Missing : FnScope psC_Missing psC_Missing (defScope stC_Missing) := ⟨rfl, rfl, rfl, by decide +kernel, rfl, by decide +kernel, by decide +kernel⟩
noncomputable def dC_Missing (ad : Str → Addr) : Den := dDef 2 false (initB (cF ad) 1 ["column"])
theorem okC_Missing (hF : ∀ C f, cF ad C f = true → Cls K C ∧ NoAttr K C f) (F : ClsAt K mg "Missing" "Missing.__init__" stC_Missing (ad "Missing")) : ClAt P w K mg base 1 "Missing" "Missing.__init__" stC_Missing (ad "Missing") psC_Missing [] (dC_Missing ad) :=
  mkCl (N := psC_Missing) (ps := psC_Missing) (own := false) (g := initB (cF ad) 1 ["column"]) (k := 0) F scC_Missing (fun _ _ _ _ _ _ us hl => match us, hl with | [_, _], _ => rfl) fun f cdv A outer s H E hr => ⟨_, (pss_one (ps_fld (pv 0) (pv 1) rfl)), (ss_putf (f := "column") (fun C => hF C "column") se_var se_var)⟩
abbrev stC_Meeting : Stmt := inClass (topS 6) 0
abbrev psC_Meeting : List Str := ["self", "row", "first", "second"]
theorem scC_Meeting : FnScope psC_Meeting psC_Meeting (defScope stC_Meeting) := ⟨rfl, rfl, rfl, by decide +kernel, rfl, by decide +kernel, by decide +kernel⟩
noncomputable def dC_Meeting (ad : Str → Addr) : Den := dDef 4 false (initB (cF ad) 1 ["row", "first", "second"])
theorem okC_Meeting (hF : ∀ C f, cF ad C f = true → Cls K C ∧ NoAttr K C f) (F : ClsAt K mg "Meeting" "Meeting.__init__" stC_Meeting (ad "Meeting")) : ClAt P w K mg base 1 "Meeting" "Meeting.__init__" stC_Meeting (ad "Meeting") psC_Meeting [] (dC_Meeting ad) :=
  mkCl (N := psC_Meeting) (ps := psC_Meeting) (own := false) (g := initB (cF ad) 1 ["row", "first", "second"]) (k := 0) F scC_Meeting (fun _ _ _ _ _ _ us hl => match us, hl with | [_, _, _, _], _ => rfl) fun f cdv A outer s H E hr => ⟨_, (pss_cons (ps_fld (pv 0) (pv 1) rfl) (pss_cons (ps_fld (pv 0) (pv 2) rfl) (pss_one (ps_fld (pv 0) (pv 3) rfl)))), (ss_cons (ss_putf (f := "row") (fun C => hF C "row") se_var se_var) (ss_cons (ss_putf (f := "first") (fun C => hF C "first") se_var se_var) (ss_putf (f := "second") (fun C => hF C "second") se_var se_var)))⟩
abbrev stC_Core : Stmt := inClass (topS 8) 0
abbrev psC_Core : List Str := ["self", "strikes", "cells"]
theorem scC_Core : FnScope psC_Core psC_Core (defScope stC_Core) := ⟨rfl, rfl, rfl, by decide +kernel, rfl, by decide +kernel, by decide +kernel⟩
noncomputable def dC_Core (ad : Str → Addr) : Den := dDef 3 false (initB (cF ad) 1 ["strikes", "cells"])
theorem okC_Core (hF : ∀ C f, cF ad C f = true → Cls K C ∧ NoAttr K C f) (F : ClsAt K mg "Core" "Core.__init__" stC_Core (ad "Core")) : ClAt P w K mg base 1 "Core" "Core.__init__" stC_Core (ad "Core") psC_Core [] (dC_Core ad) :=
  mkCl (N := psC_Core) (ps := psC_Core) (own := false) (g := initB (cF ad) 1 ["strikes", "cells"]) (k := 0) F scC_Core (fun _ _ _ _ _ _ us hl => match us, hl with | [_, _, _], _ => rfl) fun f cdv A outer s H E hr => ⟨_, (pss_cons (ps_fld (pv 0) (pv 1) rfl) (pss_one (ps_fld (pv 0) (pv 2) rfl))), (ss_cons (ss_putf (f := "strikes") (fun C => hF C "strikes") se_var se_var) (ss_putf (f := "cells") (fun C => hF C "cells") se_var se_var))⟩
abbrev stC_Block : Stmt := inClass (topS 10) 0
abbrev psC_Block : List Str := ["self", "rows", "columns", "places", "most"]
theorem scC_Block : FnScope psC_Block psC_Block (defScope stC_Block) := ⟨rfl, rfl, rfl, by decide +kernel, rfl, by decide +kernel, by decide +kernel⟩
noncomputable def dC_Block (ad : Str → Addr) : Den := dDef 5 false (initB (cF ad) 1 ["rows", "columns", "places", "most"])
theorem okC_Block (hF : ∀ C f, cF ad C f = true → Cls K C ∧ NoAttr K C f) (F : ClsAt K mg "Block" "Block.__init__" stC_Block (ad "Block")) : ClAt P w K mg base 1 "Block" "Block.__init__" stC_Block (ad "Block") psC_Block [] (dC_Block ad) :=
  mkCl (N := psC_Block) (ps := psC_Block) (own := false) (g := initB (cF ad) 1 ["rows", "columns", "places", "most"]) (k := 0) F scC_Block (fun _ _ _ _ _ _ us hl => match us, hl with | [_, _, _, _, _], _ => rfl) fun f cdv A outer s H E hr => ⟨_, (pss_cons (ps_fld (pv 0) (pv 1) rfl) (pss_cons (ps_fld (pv 0) (pv 2) rfl) (pss_cons (ps_fld (pv 0) (pv 3) rfl) (pss_one (ps_fld (pv 0) (pv 4) rfl))))), (ss_cons (ss_putf (f := "rows") (fun C => hF C "rows") se_var se_var) (ss_cons (ss_putf (f := "columns") (fun C => hF C "columns") se_var se_var) (ss_cons (ss_putf (f := "places") (fun C => hF C "places") se_var se_var) (ss_putf (f := "most") (fun C => hF C "most") se_var se_var))))⟩
abbrev stC_Fewest : Stmt := inClass (topS 12) 0
abbrev psC_Fewest : List Str := ["self", "count", "row"]
theorem scC_Fewest : FnScope psC_Fewest psC_Fewest (defScope stC_Fewest) := ⟨rfl, rfl, rfl, by decide +kernel, rfl, by decide +kernel, by decide +kernel⟩
noncomputable def dC_Fewest (ad : Str → Addr) : Den := dDef 3 false (initB (cF ad) 1 ["count", "row"])
theorem okC_Fewest (hF : ∀ C f, cF ad C f = true → Cls K C ∧ NoAttr K C f) (F : ClsAt K mg "Fewest" "Fewest.__init__" stC_Fewest (ad "Fewest")) : ClAt P w K mg base 1 "Fewest" "Fewest.__init__" stC_Fewest (ad "Fewest") psC_Fewest [] (dC_Fewest ad) :=
  mkCl (N := psC_Fewest) (ps := psC_Fewest) (own := false) (g := initB (cF ad) 1 ["count", "row"]) (k := 0) F scC_Fewest (fun _ _ _ _ _ _ us hl => match us, hl with | [_, _, _], _ => rfl) fun f cdv A outer s H E hr => ⟨_, (pss_cons (ps_fld (pv 0) (pv 1) rfl) (pss_one (ps_fld (pv 0) (pv 2) rfl))), (ss_cons (ss_putf (f := "count") (fun C => hF C "count") se_var se_var) (ss_putf (f := "row") (fun C => hF C "row") se_var se_var))⟩
abbrev stC_Dependent : Stmt := inClass (topS 13) 0
abbrev psC_Dependent : List Str := ["self", "row", "numbers"]
theorem scC_Dependent : FnScope psC_Dependent psC_Dependent (defScope stC_Dependent) := ⟨rfl, rfl, rfl, by decide +kernel, rfl, by decide +kernel, by decide +kernel⟩
noncomputable def dC_Dependent (ad : Str → Addr) : Den := dDef 3 false (initB (cF ad) 1 ["row", "numbers"])
theorem okC_Dependent (hF : ∀ C f, cF ad C f = true → Cls K C ∧ NoAttr K C f) (F : ClsAt K mg "Dependent" "Dependent.__init__" stC_Dependent (ad "Dependent")) : ClAt P w K mg base 1 "Dependent" "Dependent.__init__" stC_Dependent (ad "Dependent") psC_Dependent [] (dC_Dependent ad) :=
  mkCl (N := psC_Dependent) (ps := psC_Dependent) (own := false) (g := initB (cF ad) 1 ["row", "numbers"]) (k := 0) F scC_Dependent (fun _ _ _ _ _ _ us hl => match us, hl with | [_, _, _], _ => rfl) fun f cdv A outer s H E hr => ⟨_, (pss_cons (ps_fld (pv 0) (pv 1) rfl) (pss_one (ps_fld (pv 0) (pv 2) rfl))), (ss_cons (ss_putf (f := "row") (fun C => hF C "row") se_var se_var) (ss_putf (f := "numbers") (fun C => hF C "numbers") se_var se_var))⟩
abbrev stC_Recovered : Stmt := inClass (topS 15) 0
abbrev psC_Recovered : List Str := ["self", "numbers", "filling"]
theorem scC_Recovered : FnScope psC_Recovered psC_Recovered (defScope stC_Recovered) := ⟨rfl, rfl, rfl, by decide +kernel, rfl, by decide +kernel, by decide +kernel⟩
noncomputable def dC_Recovered (ad : Str → Addr) : Den := dDef 3 false (initB (cF ad) 1 ["numbers", "filling"])
theorem okC_Recovered (hF : ∀ C f, cF ad C f = true → Cls K C ∧ NoAttr K C f) (F : ClsAt K mg "Recovered" "Recovered.__init__" stC_Recovered (ad "Recovered")) : ClAt P w K mg base 1 "Recovered" "Recovered.__init__" stC_Recovered (ad "Recovered") psC_Recovered [] (dC_Recovered ad) :=
  mkCl (N := psC_Recovered) (ps := psC_Recovered) (own := false) (g := initB (cF ad) 1 ["numbers", "filling"]) (k := 0) F scC_Recovered (fun _ _ _ _ _ _ us hl => match us, hl with | [_, _, _], _ => rfl) fun f cdv A outer s H E hr => ⟨_, (pss_cons (ps_fld (pv 0) (pv 1) rfl) (pss_one (ps_fld (pv 0) (pv 2) rfl))), (ss_cons (ss_putf (f := "numbers") (fun C => hF C "numbers") se_var se_var) (ss_putf (f := "filling") (fun C => hF C "filling") se_var se_var))⟩
abbrev stC_Clash : Stmt := inClass (topS 16) 0
abbrev psC_Clash : List Str := ["self", "weights"]
theorem scC_Clash : FnScope psC_Clash psC_Clash (defScope stC_Clash) := ⟨rfl, rfl, rfl, by decide +kernel, rfl, by decide +kernel, by decide +kernel⟩
noncomputable def dC_Clash (ad : Str → Addr) : Den := dDef 2 false (initB (cF ad) 1 ["weights"])
theorem okC_Clash (hF : ∀ C f, cF ad C f = true → Cls K C ∧ NoAttr K C f) (F : ClsAt K mg "Clash" "Clash.__init__" stC_Clash (ad "Clash")) : ClAt P w K mg base 1 "Clash" "Clash.__init__" stC_Clash (ad "Clash") psC_Clash [] (dC_Clash ad) :=
  mkCl (N := psC_Clash) (ps := psC_Clash) (own := false) (g := initB (cF ad) 1 ["weights"]) (k := 0) F scC_Clash (fun _ _ _ _ _ _ us hl => match us, hl with | [_, _], _ => rfl) fun f cdv A outer s H E hr => ⟨_, (pss_one (ps_fld (pv 0) (pv 1) rfl)), (ss_putf (f := "weights") (fun C => hF C "weights") se_var se_var)⟩
abbrev stC_Given : Stmt := inClass (topS 17) 0
abbrev psC_Given : List Str := ["self", "rows"]
theorem scC_Given : FnScope psC_Given psC_Given (defScope stC_Given) := ⟨rfl, rfl, rfl, by decide +kernel, rfl, by decide +kernel, by decide +kernel⟩
noncomputable def dC_Given (ad : Str → Addr) : Den := dDef 2 false (initB (cF ad) 1 ["rows"])
theorem okC_Given (hF : ∀ C f, cF ad C f = true → Cls K C ∧ NoAttr K C f) (F : ClsAt K mg "Given" "Given.__init__" stC_Given (ad "Given")) : ClAt P w K mg base 1 "Given" "Given.__init__" stC_Given (ad "Given") psC_Given [] (dC_Given ad) :=
  mkCl (N := psC_Given) (ps := psC_Given) (own := false) (g := initB (cF ad) 1 ["rows"]) (k := 0) F scC_Given (fun _ _ _ _ _ _ us hl => match us, hl with | [_, _], _ => rfl) fun f cdv A outer s H E hr => ⟨_, (pss_one (ps_fld (pv 0) (pv 1) rfl)), (ss_putf (f := "rows") (fun C => hF C "rows") se_var se_var)⟩
abbrev stC_Parted : Stmt := inClass (topS 18) 0
abbrev psC_Parted : List Str := ["self", "answer", "numbers"]
theorem scC_Parted : FnScope psC_Parted psC_Parted (defScope stC_Parted) := ⟨rfl, rfl, rfl, by decide +kernel, rfl, by decide +kernel, by decide +kernel⟩
noncomputable def dC_Parted (ad : Str → Addr) : Den := dDef 3 false (initB (cF ad) 1 ["answer", "numbers"])
theorem okC_Parted (hF : ∀ C f, cF ad C f = true → Cls K C ∧ NoAttr K C f) (F : ClsAt K mg "Parted" "Parted.__init__" stC_Parted (ad "Parted")) : ClAt P w K mg base 1 "Parted" "Parted.__init__" stC_Parted (ad "Parted") psC_Parted [] (dC_Parted ad) :=
  mkCl (N := psC_Parted) (ps := psC_Parted) (own := false) (g := initB (cF ad) 1 ["answer", "numbers"]) (k := 0) F scC_Parted (fun _ _ _ _ _ _ us hl => match us, hl with | [_, _, _], _ => rfl) fun f cdv A outer s H E hr => ⟨_, (pss_cons (ps_fld (pv 0) (pv 1) rfl) (pss_one (ps_fld (pv 0) (pv 2) rfl))), (ss_cons (ss_putf (f := "answer") (fun C => hF C "answer") se_var se_var) (ss_putf (f := "numbers") (fun C => hF C "numbers") se_var se_var))⟩
abbrev stC_Bounds : Stmt := inClass (topS 20) 0
abbrev psC_Bounds : List Str := ["self", "low", "low_budget", "blocks", "high", "high_budget", "cored", "cored_budget"]
theorem scC_Bounds : FnScope psC_Bounds psC_Bounds (defScope stC_Bounds) := ⟨rfl, rfl, rfl, by decide +kernel, rfl, by decide +kernel, by decide +kernel⟩
noncomputable def dC_Bounds (ad : Str → Addr) : Den := dDef 8 false (initB (cF ad) 1 ["low", "low_budget", "blocks", "high", "high_budget", "cored", "cored_budget"])
theorem okC_Bounds (hF : ∀ C f, cF ad C f = true → Cls K C ∧ NoAttr K C f) (F : ClsAt K mg "Bounds" "Bounds.__init__" stC_Bounds (ad "Bounds")) : ClAt P w K mg base 1 "Bounds" "Bounds.__init__" stC_Bounds (ad "Bounds") psC_Bounds [] (dC_Bounds ad) :=
  mkCl (N := psC_Bounds) (ps := psC_Bounds) (own := false) (g := initB (cF ad) 1 ["low", "low_budget", "blocks", "high", "high_budget", "cored", "cored_budget"]) (k := 0) F scC_Bounds (fun _ _ _ _ _ _ us hl => match us, hl with | [_, _, _, _, _, _, _, _], _ => rfl) fun f cdv A outer s H E hr => ⟨_, (pss_cons (ps_fld (pv 0) (pv 1) rfl) (pss_cons (ps_fld (pv 0) (pv 2) rfl) (pss_cons (ps_fld (pv 0) (pv 3) rfl) (pss_cons (ps_fld (pv 0) (pv 4) rfl) (pss_cons (ps_fld (pv 0) (pv 5) rfl) (pss_cons (ps_fld (pv 0) (pv 6) rfl) (pss_one (ps_fld (pv 0) (pv 7) rfl)))))))), (ss_cons (ss_putf (f := "low") (fun C => hF C "low") se_var se_var) (ss_cons (ss_putf (f := "low_budget") (fun C => hF C "low_budget") se_var se_var) (ss_cons (ss_putf (f := "blocks") (fun C => hF C "blocks") se_var se_var) (ss_cons (ss_putf (f := "high") (fun C => hF C "high") se_var se_var) (ss_cons (ss_putf (f := "high_budget") (fun C => hF C "high_budget") se_var se_var) (ss_cons (ss_putf (f := "cored") (fun C => hF C "cored") se_var se_var) (ss_putf (f := "cored_budget") (fun C => hF C "cored_budget") se_var se_var)))))))⟩
abbrev stC_Chain : Stmt := inClass (topS 22) 0
abbrev psC_Chain : List Str := ["self", "cells"]
theorem scC_Chain : FnScope psC_Chain psC_Chain (defScope stC_Chain) := ⟨rfl, rfl, rfl, by decide +kernel, rfl, by decide +kernel, by decide +kernel⟩
noncomputable def dC_Chain (ad : Str → Addr) : Den := dDef 2 false (initB (cF ad) 1 ["cells"])
theorem okC_Chain (hF : ∀ C f, cF ad C f = true → Cls K C ∧ NoAttr K C f) (F : ClsAt K mg "Chain" "Chain.__init__" stC_Chain (ad "Chain")) : ClAt P w K mg base 1 "Chain" "Chain.__init__" stC_Chain (ad "Chain") psC_Chain [] (dC_Chain ad) :=
  mkCl (N := psC_Chain) (ps := psC_Chain) (own := false) (g := initB (cF ad) 1 ["cells"]) (k := 0) F scC_Chain (fun _ _ _ _ _ _ us hl => match us, hl with | [_, _], _ => rfl) fun f cdv A outer s H E hr => ⟨_, (pss_one (ps_fld (pv 0) (pv 1) rfl)), (ss_putf (f := "cells") (fun C => hF C "cells") se_var se_var)⟩
abbrev stC_LeastBoth : Stmt := inClass (topS 24) 0
abbrev psC_LeastBoth : List Str := ["self", "row_groups", "column_groups", "many"]
theorem scC_LeastBoth : FnScope psC_LeastBoth psC_LeastBoth (defScope stC_LeastBoth) := ⟨rfl, rfl, rfl, by decide +kernel, rfl, by decide +kernel, by decide +kernel⟩
noncomputable def dC_LeastBoth (ad : Str → Addr) : Den := dDef 4 false (initB (cF ad) 1 ["row_groups", "column_groups", "many"])
theorem okC_LeastBoth (hF : ∀ C f, cF ad C f = true → Cls K C ∧ NoAttr K C f) (F : ClsAt K mg "LeastBoth" "LeastBoth.__init__" stC_LeastBoth (ad "LeastBoth")) : ClAt P w K mg base 1 "LeastBoth" "LeastBoth.__init__" stC_LeastBoth (ad "LeastBoth") psC_LeastBoth [] (dC_LeastBoth ad) :=
  mkCl (N := psC_LeastBoth) (ps := psC_LeastBoth) (own := false) (g := initB (cF ad) 1 ["row_groups", "column_groups", "many"]) (k := 0) F scC_LeastBoth (fun _ _ _ _ _ _ us hl => match us, hl with | [_, _, _, _], _ => rfl) fun f cdv A outer s H E hr => ⟨_, (pss_cons (ps_fld (pv 0) (pv 1) rfl) (pss_cons (ps_fld (pv 0) (pv 2) rfl) (pss_one (ps_fld (pv 0) (pv 3) rfl)))), (ss_cons (ss_putf (f := "row_groups") (fun C => hF C "row_groups") se_var se_var) (ss_cons (ss_putf (f := "column_groups") (fun C => hF C "column_groups") se_var se_var) (ss_putf (f := "many") (fun C => hF C "many") se_var se_var)))⟩
abbrev stC_Played : Stmt := inClass (topS 26) 0
abbrev psC_Played : List Str := ["self", "path", "answers"]
theorem scC_Played : FnScope psC_Played psC_Played (defScope stC_Played) := ⟨rfl, rfl, rfl, by decide +kernel, rfl, by decide +kernel, by decide +kernel⟩
noncomputable def dC_Played (ad : Str → Addr) : Den := dDef 3 false (initB (cF ad) 1 ["path", "answers"])
theorem okC_Played (hF : ∀ C f, cF ad C f = true → Cls K C ∧ NoAttr K C f) (F : ClsAt K mg "Played" "Played.__init__" stC_Played (ad "Played")) : ClAt P w K mg base 1 "Played" "Played.__init__" stC_Played (ad "Played") psC_Played [] (dC_Played ad) :=
  mkCl (N := psC_Played) (ps := psC_Played) (own := false) (g := initB (cF ad) 1 ["path", "answers"]) (k := 0) F scC_Played (fun _ _ _ _ _ _ us hl => match us, hl with | [_, _, _], _ => rfl) fun f cdv A outer s H E hr => ⟨_, (pss_cons (ps_fld (pv 0) (pv 1) rfl) (pss_one (ps_fld (pv 0) (pv 2) rfl))), (ss_cons (ss_putf (f := "path") (fun C => hF C "path") se_var se_var) (ss_putf (f := "answers") (fun C => hF C "answers") se_var se_var))⟩
abbrev stC_Come : Stmt := inClass (topS 28) 0
abbrev psC_Come : List Str := ["self", "path", "book", "filling"]
theorem scC_Come : FnScope psC_Come psC_Come (defScope stC_Come) := ⟨rfl, rfl, rfl, by decide +kernel, rfl, by decide +kernel, by decide +kernel⟩
noncomputable def dC_Come (ad : Str → Addr) : Den := dDef 4 false (initB (cF ad) 1 ["path", "book", "filling"])
theorem okC_Come (hF : ∀ C f, cF ad C f = true → Cls K C ∧ NoAttr K C f) (F : ClsAt K mg "Come" "Come.__init__" stC_Come (ad "Come")) : ClAt P w K mg base 1 "Come" "Come.__init__" stC_Come (ad "Come") psC_Come [] (dC_Come ad) :=
  mkCl (N := psC_Come) (ps := psC_Come) (own := false) (g := initB (cF ad) 1 ["path", "book", "filling"]) (k := 0) F scC_Come (fun _ _ _ _ _ _ us hl => match us, hl with | [_, _, _, _], _ => rfl) fun f cdv A outer s H E hr => ⟨_, (pss_cons (ps_fld (pv 0) (pv 1) rfl) (pss_cons (ps_fld (pv 0) (pv 2) rfl) (pss_one (ps_fld (pv 0) (pv 3) rfl)))), (ss_cons (ss_putf (f := "path") (fun C => hF C "path") se_var se_var) (ss_cons (ss_putf (f := "book") (fun C => hF C "book") se_var se_var) (ss_putf (f := "filling") (fun C => hF C "filling") se_var se_var)))⟩
abbrev stC_Never : Stmt := inClass (topS 29) 0
abbrev psC_Never : List Str := ["self", "path", "answer", "weights"]
theorem scC_Never : FnScope psC_Never psC_Never (defScope stC_Never) := ⟨rfl, rfl, rfl, by decide +kernel, rfl, by decide +kernel, by decide +kernel⟩
noncomputable def dC_Never (ad : Str → Addr) : Den := dDef 4 false (initB (cF ad) 1 ["path", "answer", "weights"])
theorem okC_Never (hF : ∀ C f, cF ad C f = true → Cls K C ∧ NoAttr K C f) (F : ClsAt K mg "Never" "Never.__init__" stC_Never (ad "Never")) : ClAt P w K mg base 1 "Never" "Never.__init__" stC_Never (ad "Never") psC_Never [] (dC_Never ad) :=
  mkCl (N := psC_Never) (ps := psC_Never) (own := false) (g := initB (cF ad) 1 ["path", "answer", "weights"]) (k := 0) F scC_Never (fun _ _ _ _ _ _ us hl => match us, hl with | [_, _, _, _], _ => rfl) fun f cdv A outer s H E hr => ⟨_, (pss_cons (ps_fld (pv 0) (pv 1) rfl) (pss_cons (ps_fld (pv 0) (pv 2) rfl) (pss_one (ps_fld (pv 0) (pv 3) rfl)))), (ss_cons (ss_putf (f := "path") (fun C => hF C "path") se_var se_var) (ss_cons (ss_putf (f := "answer") (fun C => hF C "answer") se_var se_var) (ss_putf (f := "weights") (fun C => hF C "weights") se_var se_var)))⟩
abbrev stC_Untold : Stmt := inClass (topS 30) 0
abbrev psC_Untold : List Str := ["self", "path", "filling", "hidden"]
theorem scC_Untold : FnScope psC_Untold psC_Untold (defScope stC_Untold) := ⟨rfl, rfl, rfl, by decide +kernel, rfl, by decide +kernel, by decide +kernel⟩
noncomputable def dC_Untold (ad : Str → Addr) : Den := dDef 4 false (initB (cF ad) 1 ["path", "filling", "hidden"])
theorem okC_Untold (hF : ∀ C f, cF ad C f = true → Cls K C ∧ NoAttr K C f) (F : ClsAt K mg "Untold" "Untold.__init__" stC_Untold (ad "Untold")) : ClAt P w K mg base 1 "Untold" "Untold.__init__" stC_Untold (ad "Untold") psC_Untold [] (dC_Untold ad) :=
  mkCl (N := psC_Untold) (ps := psC_Untold) (own := false) (g := initB (cF ad) 1 ["path", "filling", "hidden"]) (k := 0) F scC_Untold (fun _ _ _ _ _ _ us hl => match us, hl with | [_, _, _, _], _ => rfl) fun f cdv A outer s H E hr => ⟨_, (pss_cons (ps_fld (pv 0) (pv 1) rfl) (pss_cons (ps_fld (pv 0) (pv 2) rfl) (pss_one (ps_fld (pv 0) (pv 3) rfl)))), (ss_cons (ss_putf (f := "path") (fun C => hF C "path") se_var se_var) (ss_cons (ss_putf (f := "filling") (fun C => hF C "filling") se_var se_var) (ss_putf (f := "hidden") (fun C => hF C "hidden") se_var se_var)))⟩
abbrev stC_Piece : Stmt := inClass (topS 32) 0
abbrev psC_Piece : List Str := ["self", "points", "ties", "groups"]
theorem scC_Piece : FnScope psC_Piece psC_Piece (defScope stC_Piece) := ⟨rfl, rfl, rfl, by decide +kernel, rfl, by decide +kernel, by decide +kernel⟩
noncomputable def dC_Piece (ad : Str → Addr) : Den := dDef 4 false (initB (cF ad) 1 ["points", "ties", "groups"])
theorem okC_Piece (hF : ∀ C f, cF ad C f = true → Cls K C ∧ NoAttr K C f) (F : ClsAt K mg "Piece" "Piece.__init__" stC_Piece (ad "Piece")) : ClAt P w K mg base 1 "Piece" "Piece.__init__" stC_Piece (ad "Piece") psC_Piece [] (dC_Piece ad) :=
  mkCl (N := psC_Piece) (ps := psC_Piece) (own := false) (g := initB (cF ad) 1 ["points", "ties", "groups"]) (k := 0) F scC_Piece (fun _ _ _ _ _ _ us hl => match us, hl with | [_, _, _, _], _ => rfl) fun f cdv A outer s H E hr => ⟨_, (pss_cons (ps_fld (pv 0) (pv 1) rfl) (pss_cons (ps_fld (pv 0) (pv 2) rfl) (pss_one (ps_fld (pv 0) (pv 3) rfl)))), (ss_cons (ss_putf (f := "points") (fun C => hF C "points") se_var se_var) (ss_cons (ss_putf (f := "ties") (fun C => hF C "ties") se_var se_var) (ss_putf (f := "groups") (fun C => hF C "groups") se_var se_var)))⟩
abbrev stC_Walk : Stmt := inClass (topS 34) 0
abbrev psC_Walk : List Str := ["self", "points", "groups"]
theorem scC_Walk : FnScope psC_Walk psC_Walk (defScope stC_Walk) := ⟨rfl, rfl, rfl, by decide +kernel, rfl, by decide +kernel, by decide +kernel⟩
noncomputable def dC_Walk (ad : Str → Addr) : Den := dDef 3 false (initB (cF ad) 1 ["points", "groups"])
theorem okC_Walk (hF : ∀ C f, cF ad C f = true → Cls K C ∧ NoAttr K C f) (F : ClsAt K mg "Walk" "Walk.__init__" stC_Walk (ad "Walk")) : ClAt P w K mg base 1 "Walk" "Walk.__init__" stC_Walk (ad "Walk") psC_Walk [] (dC_Walk ad) :=
  mkCl (N := psC_Walk) (ps := psC_Walk) (own := false) (g := initB (cF ad) 1 ["points", "groups"]) (k := 0) F scC_Walk (fun _ _ _ _ _ _ us hl => match us, hl with | [_, _, _], _ => rfl) fun f cdv A outer s H E hr => ⟨_, (pss_cons (ps_fld (pv 0) (pv 1) rfl) (pss_one (ps_fld (pv 0) (pv 2) rfl))), (ss_cons (ss_putf (f := "points") (fun C => hF C "points") se_var se_var) (ss_putf (f := "groups") (fun C => hF C "groups") se_var se_var))⟩
abbrev stC_Balance : Stmt := inClass (topS 36) 0
abbrev psC_Balance : List Str := ["self", "plus", "minus", "times", "groups"]
theorem scC_Balance : FnScope psC_Balance psC_Balance (defScope stC_Balance) := ⟨rfl, rfl, rfl, by decide +kernel, rfl, by decide +kernel, by decide +kernel⟩
noncomputable def dC_Balance (ad : Str → Addr) : Den := dDef 5 false (initB (cF ad) 1 ["plus", "minus", "times", "groups"])
theorem okC_Balance (hF : ∀ C f, cF ad C f = true → Cls K C ∧ NoAttr K C f) (F : ClsAt K mg "Balance" "Balance.__init__" stC_Balance (ad "Balance")) : ClAt P w K mg base 1 "Balance" "Balance.__init__" stC_Balance (ad "Balance") psC_Balance [] (dC_Balance ad) :=
  mkCl (N := psC_Balance) (ps := psC_Balance) (own := false) (g := initB (cF ad) 1 ["plus", "minus", "times", "groups"]) (k := 0) F scC_Balance (fun _ _ _ _ _ _ us hl => match us, hl with | [_, _, _, _, _], _ => rfl) fun f cdv A outer s H E hr => ⟨_, (pss_cons (ps_fld (pv 0) (pv 1) rfl) (pss_cons (ps_fld (pv 0) (pv 2) rfl) (pss_cons (ps_fld (pv 0) (pv 3) rfl) (pss_one (ps_fld (pv 0) (pv 4) rfl))))), (ss_cons (ss_putf (f := "plus") (fun C => hF C "plus") se_var se_var) (ss_cons (ss_putf (f := "minus") (fun C => hF C "minus") se_var se_var) (ss_cons (ss_putf (f := "times") (fun C => hF C "times") se_var se_var) (ss_putf (f := "groups") (fun C => hF C "groups") se_var se_var))))⟩
abbrev stC_FewestGroups : Stmt := inClass (topS 38) 0
abbrev psC_FewestGroups : List Str := ["self", "groups", "first", "many"]
theorem scC_FewestGroups : FnScope psC_FewestGroups psC_FewestGroups (defScope stC_FewestGroups) := ⟨rfl, rfl, rfl, by decide +kernel, rfl, by decide +kernel, by decide +kernel⟩
noncomputable def dC_FewestGroups (ad : Str → Addr) : Den := dDef 4 false (initB (cF ad) 1 ["groups", "first", "many"])
theorem okC_FewestGroups (hF : ∀ C f, cF ad C f = true → Cls K C ∧ NoAttr K C f) (F : ClsAt K mg "FewestGroups" "FewestGroups.__init__" stC_FewestGroups (ad "FewestGroups")) : ClAt P w K mg base 1 "FewestGroups" "FewestGroups.__init__" stC_FewestGroups (ad "FewestGroups") psC_FewestGroups [] (dC_FewestGroups ad) :=
  mkCl (N := psC_FewestGroups) (ps := psC_FewestGroups) (own := false) (g := initB (cF ad) 1 ["groups", "first", "many"]) (k := 0) F scC_FewestGroups (fun _ _ _ _ _ _ us hl => match us, hl with | [_, _, _, _], _ => rfl) fun f cdv A outer s H E hr => ⟨_, (pss_cons (ps_fld (pv 0) (pv 1) rfl) (pss_cons (ps_fld (pv 0) (pv 2) rfl) (pss_one (ps_fld (pv 0) (pv 3) rfl)))), (ss_cons (ss_putf (f := "groups") (fun C => hF C "groups") se_var se_var) (ss_cons (ss_putf (f := "first") (fun C => hF C "first") se_var se_var) (ss_putf (f := "many") (fun C => hF C "many") se_var se_var)))⟩
abbrev stC_SideLot : Stmt := inClass (topS 40) 0
abbrev psC_SideLot : List Str := ["self", "points", "ties", "most"]
theorem scC_SideLot : FnScope psC_SideLot psC_SideLot (defScope stC_SideLot) := ⟨rfl, rfl, rfl, by decide +kernel, rfl, by decide +kernel, by decide +kernel⟩
noncomputable def dC_SideLot (ad : Str → Addr) : Den := dDef 4 false (initB (cF ad) 1 ["points", "ties", "most"])
theorem okC_SideLot (hF : ∀ C f, cF ad C f = true → Cls K C ∧ NoAttr K C f) (F : ClsAt K mg "SideLot" "SideLot.__init__" stC_SideLot (ad "SideLot")) : ClAt P w K mg base 1 "SideLot" "SideLot.__init__" stC_SideLot (ad "SideLot") psC_SideLot [] (dC_SideLot ad) :=
  mkCl (N := psC_SideLot) (ps := psC_SideLot) (own := false) (g := initB (cF ad) 1 ["points", "ties", "most"]) (k := 0) F scC_SideLot (fun _ _ _ _ _ _ us hl => match us, hl with | [_, _, _, _], _ => rfl) fun f cdv A outer s H E hr => ⟨_, (pss_cons (ps_fld (pv 0) (pv 1) rfl) (pss_cons (ps_fld (pv 0) (pv 2) rfl) (pss_one (ps_fld (pv 0) (pv 3) rfl)))), (ss_cons (ss_putf (f := "points") (fun C => hF C "points") se_var se_var) (ss_cons (ss_putf (f := "ties") (fun C => hF C "ties") se_var se_var) (ss_putf (f := "most") (fun C => hF C "most") se_var se_var)))⟩
abbrev stC_WebCore : Stmt := inClass (topS 41) 0
abbrev psC_WebCore : List Str := ["self", "strikes", "ties"]
theorem scC_WebCore : FnScope psC_WebCore psC_WebCore (defScope stC_WebCore) := ⟨rfl, rfl, rfl, by decide +kernel, rfl, by decide +kernel, by decide +kernel⟩
noncomputable def dC_WebCore (ad : Str → Addr) : Den := dDef 3 false (initB (cF ad) 1 ["strikes", "ties"])
theorem okC_WebCore (hF : ∀ C f, cF ad C f = true → Cls K C ∧ NoAttr K C f) (F : ClsAt K mg "WebCore" "WebCore.__init__" stC_WebCore (ad "WebCore")) : ClAt P w K mg base 1 "WebCore" "WebCore.__init__" stC_WebCore (ad "WebCore") psC_WebCore [] (dC_WebCore ad) :=
  mkCl (N := psC_WebCore) (ps := psC_WebCore) (own := false) (g := initB (cF ad) 1 ["strikes", "ties"]) (k := 0) F scC_WebCore (fun _ _ _ _ _ _ us hl => match us, hl with | [_, _, _], _ => rfl) fun f cdv A outer s H E hr => ⟨_, (pss_cons (ps_fld (pv 0) (pv 1) rfl) (pss_one (ps_fld (pv 0) (pv 2) rfl))), (ss_cons (ss_putf (f := "strikes") (fun C => hF C "strikes") se_var se_var) (ss_putf (f := "ties") (fun C => hF C "ties") se_var se_var))⟩
abbrev stC_Run : Stmt := inClass (topS 43) 0
abbrev psC_Run : List Str := ["self", "spots", "slopes", "answer", "products"]
theorem scC_Run : FnScope psC_Run psC_Run (defScope stC_Run) := ⟨rfl, rfl, rfl, by decide +kernel, rfl, by decide +kernel, by decide +kernel⟩
noncomputable def dC_Run (ad : Str → Addr) : Den := dDef 5 false (initB (cF ad) 1 ["spots", "slopes", "answer", "products"])
theorem okC_Run (hF : ∀ C f, cF ad C f = true → Cls K C ∧ NoAttr K C f) (F : ClsAt K mg "Run" "Run.__init__" stC_Run (ad "Run")) : ClAt P w K mg base 1 "Run" "Run.__init__" stC_Run (ad "Run") psC_Run [] (dC_Run ad) :=
  mkCl (N := psC_Run) (ps := psC_Run) (own := false) (g := initB (cF ad) 1 ["spots", "slopes", "answer", "products"]) (k := 0) F scC_Run (fun _ _ _ _ _ _ us hl => match us, hl with | [_, _, _, _, _], _ => rfl) fun f cdv A outer s H E hr => ⟨_, (pss_cons (ps_fld (pv 0) (pv 1) rfl) (pss_cons (ps_fld (pv 0) (pv 2) rfl) (pss_cons (ps_fld (pv 0) (pv 3) rfl) (pss_one (ps_fld (pv 0) (pv 4) rfl))))), (ss_cons (ss_putf (f := "spots") (fun C => hF C "spots") se_var se_var) (ss_cons (ss_putf (f := "slopes") (fun C => hF C "slopes") se_var se_var) (ss_cons (ss_putf (f := "answer") (fun C => hF C "answer") se_var se_var) (ss_putf (f := "products") (fun C => hF C "products") se_var se_var))))⟩
abbrev stC_RunTable : Stmt := inClass (topS 45) 0
abbrev psC_RunTable : List Str := ["self", "rows", "products"]
theorem scC_RunTable : FnScope psC_RunTable psC_RunTable (defScope stC_RunTable) := ⟨rfl, rfl, rfl, by decide +kernel, rfl, by decide +kernel, by decide +kernel⟩
noncomputable def dC_RunTable (ad : Str → Addr) : Den := dDef 3 false (initB (cF ad) 1 ["rows", "products"])
theorem okC_RunTable (hF : ∀ C f, cF ad C f = true → Cls K C ∧ NoAttr K C f) (F : ClsAt K mg "RunTable" "RunTable.__init__" stC_RunTable (ad "RunTable")) : ClAt P w K mg base 1 "RunTable" "RunTable.__init__" stC_RunTable (ad "RunTable") psC_RunTable [] (dC_RunTable ad) :=
  mkCl (N := psC_RunTable) (ps := psC_RunTable) (own := false) (g := initB (cF ad) 1 ["rows", "products"]) (k := 0) F scC_RunTable (fun _ _ _ _ _ _ us hl => match us, hl with | [_, _, _], _ => rfl) fun f cdv A outer s H E hr => ⟨_, (pss_cons (ps_fld (pv 0) (pv 1) rfl) (pss_one (ps_fld (pv 0) (pv 2) rfl))), (ss_cons (ss_putf (f := "rows") (fun C => hF C "rows") se_var se_var) (ss_putf (f := "products") (fun C => hF C "products") se_var se_var))⟩
abbrev stC_Apart : Stmt := inClass (topS 46) 0
abbrev psC_Apart : List Str := ["self", "terms"]
theorem scC_Apart : FnScope psC_Apart psC_Apart (defScope stC_Apart) := ⟨rfl, rfl, rfl, by decide +kernel, rfl, by decide +kernel, by decide +kernel⟩
noncomputable def dC_Apart (ad : Str → Addr) : Den := dDef 2 false (initB (cF ad) 1 ["terms"])
theorem okC_Apart (hF : ∀ C f, cF ad C f = true → Cls K C ∧ NoAttr K C f) (F : ClsAt K mg "Apart" "Apart.__init__" stC_Apart (ad "Apart")) : ClAt P w K mg base 1 "Apart" "Apart.__init__" stC_Apart (ad "Apart") psC_Apart [] (dC_Apart ad) :=
  mkCl (N := psC_Apart) (ps := psC_Apart) (own := false) (g := initB (cF ad) 1 ["terms"]) (k := 0) F scC_Apart (fun _ _ _ _ _ _ us hl => match us, hl with | [_, _], _ => rfl) fun f cdv A outer s H E hr => ⟨_, (pss_one (ps_fld (pv 0) (pv 1) rfl)), (ss_putf (f := "terms") (fun C => hF C "terms") se_var se_var)⟩
abbrev stC_Lost : Stmt := inClass (topS 48) 0
abbrev psC_Lost : List Str := ["self", "answers", "numbers"]
theorem scC_Lost : FnScope psC_Lost psC_Lost (defScope stC_Lost) := ⟨rfl, rfl, rfl, by decide +kernel, rfl, by decide +kernel, by decide +kernel⟩
noncomputable def dC_Lost (ad : Str → Addr) : Den := dDef 3 false (initB (cF ad) 1 ["answers", "numbers"])
theorem okC_Lost (hF : ∀ C f, cF ad C f = true → Cls K C ∧ NoAttr K C f) (F : ClsAt K mg "Lost" "Lost.__init__" stC_Lost (ad "Lost")) : ClAt P w K mg base 1 "Lost" "Lost.__init__" stC_Lost (ad "Lost") psC_Lost [] (dC_Lost ad) :=
  mkCl (N := psC_Lost) (ps := psC_Lost) (own := false) (g := initB (cF ad) 1 ["answers", "numbers"]) (k := 0) F scC_Lost (fun _ _ _ _ _ _ us hl => match us, hl with | [_, _, _], _ => rfl) fun f cdv A outer s H E hr => ⟨_, (pss_cons (ps_fld (pv 0) (pv 1) rfl) (pss_one (ps_fld (pv 0) (pv 2) rfl))), (ss_cons (ss_putf (f := "answers") (fun C => hF C "answers") se_var se_var) (ss_putf (f := "numbers") (fun C => hF C "numbers") se_var se_var))⟩
abbrev stC_Mended : Stmt := inClass (topS 49) 0
abbrev psC_Mended : List Str := ["self", "wrong", "answers", "numbers"]
theorem scC_Mended : FnScope psC_Mended psC_Mended (defScope stC_Mended) := ⟨rfl, rfl, rfl, by decide +kernel, rfl, by decide +kernel, by decide +kernel⟩
noncomputable def dC_Mended (ad : Str → Addr) : Den := dDef 4 false (initB (cF ad) 1 ["wrong", "answers", "numbers"])
theorem okC_Mended (hF : ∀ C f, cF ad C f = true → Cls K C ∧ NoAttr K C f) (F : ClsAt K mg "Mended" "Mended.__init__" stC_Mended (ad "Mended")) : ClAt P w K mg base 1 "Mended" "Mended.__init__" stC_Mended (ad "Mended") psC_Mended [] (dC_Mended ad) :=
  mkCl (N := psC_Mended) (ps := psC_Mended) (own := false) (g := initB (cF ad) 1 ["wrong", "answers", "numbers"]) (k := 0) F scC_Mended (fun _ _ _ _ _ _ us hl => match us, hl with | [_, _, _, _], _ => rfl) fun f cdv A outer s H E hr => ⟨_, (pss_cons (ps_fld (pv 0) (pv 1) rfl) (pss_cons (ps_fld (pv 0) (pv 2) rfl) (pss_one (ps_fld (pv 0) (pv 3) rfl)))), (ss_cons (ss_putf (f := "wrong") (fun C => hF C "wrong") se_var se_var) (ss_cons (ss_putf (f := "answers") (fun C => hF C "answers") se_var se_var) (ss_putf (f := "numbers") (fun C => hF C "numbers") se_var se_var)))⟩
abbrev stC_Worse : Stmt := inClass (topS 50) 0
abbrev psC_Worse : List Str := ["self", "most"]
theorem scC_Worse : FnScope psC_Worse psC_Worse (defScope stC_Worse) := ⟨rfl, rfl, rfl, by decide +kernel, rfl, by decide +kernel, by decide +kernel⟩
noncomputable def dC_Worse (ad : Str → Addr) : Den := dDef 2 false (initB (cF ad) 1 ["most"])
theorem okC_Worse (hF : ∀ C f, cF ad C f = true → Cls K C ∧ NoAttr K C f) (F : ClsAt K mg "Worse" "Worse.__init__" stC_Worse (ad "Worse")) : ClAt P w K mg base 1 "Worse" "Worse.__init__" stC_Worse (ad "Worse") psC_Worse [] (dC_Worse ad) :=
  mkCl (N := psC_Worse) (ps := psC_Worse) (own := false) (g := initB (cF ad) 1 ["most"]) (k := 0) F scC_Worse (fun _ _ _ _ _ _ us hl => match us, hl with | [_, _], _ => rfl) fun f cdv A outer s H E hr => ⟨_, (pss_one (ps_fld (pv 0) (pv 1) rfl)), (ss_putf (f := "most") (fun C => hF C "most") se_var se_var)⟩
abbrev stC_Whole : Stmt := inClass (topS 52) 0
abbrev psC_Whole : List Str := ["self", "bottom", "weights", "numbers"]
theorem scC_Whole : FnScope psC_Whole psC_Whole (defScope stC_Whole) := ⟨rfl, rfl, rfl, by decide +kernel, rfl, by decide +kernel, by decide +kernel⟩
noncomputable def dC_Whole (ad : Str → Addr) : Den := dDef 4 false (initB (cF ad) 1 ["bottom", "weights", "numbers"])
theorem okC_Whole (hF : ∀ C f, cF ad C f = true → Cls K C ∧ NoAttr K C f) (F : ClsAt K mg "Whole" "Whole.__init__" stC_Whole (ad "Whole")) : ClAt P w K mg base 1 "Whole" "Whole.__init__" stC_Whole (ad "Whole") psC_Whole [] (dC_Whole ad) :=
  mkCl (N := psC_Whole) (ps := psC_Whole) (own := false) (g := initB (cF ad) 1 ["bottom", "weights", "numbers"]) (k := 0) F scC_Whole (fun _ _ _ _ _ _ us hl => match us, hl with | [_, _, _, _], _ => rfl) fun f cdv A outer s H E hr => ⟨_, (pss_cons (ps_fld (pv 0) (pv 1) rfl) (pss_cons (ps_fld (pv 0) (pv 2) rfl) (pss_one (ps_fld (pv 0) (pv 3) rfl)))), (ss_cons (ss_putf (f := "bottom") (fun C => hF C "bottom") se_var se_var) (ss_cons (ss_putf (f := "weights") (fun C => hF C "weights") se_var se_var) (ss_putf (f := "numbers") (fun C => hF C "numbers") se_var se_var)))⟩
abbrev stC_RestWeights : Stmt := inClass (topS 54) 0
abbrev psC_RestWeights : List Str := ["self", "row"]
theorem scC_RestWeights : FnScope psC_RestWeights psC_RestWeights (defScope stC_RestWeights) := ⟨rfl, rfl, rfl, by decide +kernel, rfl, by decide +kernel, by decide +kernel⟩
noncomputable def dC_RestWeights (ad : Str → Addr) : Den := dDef 2 false (initB (cF ad) 1 ["row"])
theorem okC_RestWeights (hF : ∀ C f, cF ad C f = true → Cls K C ∧ NoAttr K C f) (F : ClsAt K mg "RestWeights" "RestWeights.__init__" stC_RestWeights (ad "RestWeights")) : ClAt P w K mg base 1 "RestWeights" "RestWeights.__init__" stC_RestWeights (ad "RestWeights") psC_RestWeights [] (dC_RestWeights ad) :=
  mkCl (N := psC_RestWeights) (ps := psC_RestWeights) (own := false) (g := initB (cF ad) 1 ["row"]) (k := 0) F scC_RestWeights (fun _ _ _ _ _ _ us hl => match us, hl with | [_, _], _ => rfl) fun f cdv A outer s H E hr => ⟨_, (pss_one (ps_fld (pv 0) (pv 1) rfl)), (ss_putf (f := "row") (fun C => hF C "row") se_var se_var)⟩
abbrev stC_RestHidden : Stmt := inClass (topS 55) 0
abbrev psC_RestHidden : List Str := ["self", "numbers"]
theorem scC_RestHidden : FnScope psC_RestHidden psC_RestHidden (defScope stC_RestHidden) := ⟨rfl, rfl, rfl, by decide +kernel, rfl, by decide +kernel, by decide +kernel⟩
noncomputable def dC_RestHidden (ad : Str → Addr) : Den := dDef 2 false (initB (cF ad) 1 ["numbers"])
theorem okC_RestHidden (hF : ∀ C f, cF ad C f = true → Cls K C ∧ NoAttr K C f) (F : ClsAt K mg "RestHidden" "RestHidden.__init__" stC_RestHidden (ad "RestHidden")) : ClAt P w K mg base 1 "RestHidden" "RestHidden.__init__" stC_RestHidden (ad "RestHidden") psC_RestHidden [] (dC_RestHidden ad) :=
  mkCl (N := psC_RestHidden) (ps := psC_RestHidden) (own := false) (g := initB (cF ad) 1 ["numbers"]) (k := 0) F scC_RestHidden (fun _ _ _ _ _ _ us hl => match us, hl with | [_, _], _ => rfl) fun f cdv A outer s H E hr => ⟨_, (pss_one (ps_fld (pv 0) (pv 1) rfl)), (ss_putf (f := "numbers") (fun C => hF C "numbers") se_var se_var)⟩
abbrev stC_Bent : Stmt := inClass (topS 57) 0
abbrev psC_Bent : List Str := ["self", "spots", "along", "back", "bends", "answer", "products"]
theorem scC_Bent : FnScope psC_Bent psC_Bent (defScope stC_Bent) := ⟨rfl, rfl, rfl, by decide +kernel, rfl, by decide +kernel, by decide +kernel⟩
noncomputable def dC_Bent (ad : Str → Addr) : Den := dDef 7 false (initB (cF ad) 1 ["spots", "along", "back", "bends", "answer", "products"])
theorem okC_Bent (hF : ∀ C f, cF ad C f = true → Cls K C ∧ NoAttr K C f) (F : ClsAt K mg "Bent" "Bent.__init__" stC_Bent (ad "Bent")) : ClAt P w K mg base 1 "Bent" "Bent.__init__" stC_Bent (ad "Bent") psC_Bent [] (dC_Bent ad) :=
  mkCl (N := psC_Bent) (ps := psC_Bent) (own := false) (g := initB (cF ad) 1 ["spots", "along", "back", "bends", "answer", "products"]) (k := 0) F scC_Bent (fun _ _ _ _ _ _ us hl => match us, hl with | [_, _, _, _, _, _, _], _ => rfl) fun f cdv A outer s H E hr => ⟨_, (pss_cons (ps_fld (pv 0) (pv 1) rfl) (pss_cons (ps_fld (pv 0) (pv 2) rfl) (pss_cons (ps_fld (pv 0) (pv 3) rfl) (pss_cons (ps_fld (pv 0) (pv 4) rfl) (pss_cons (ps_fld (pv 0) (pv 5) rfl) (pss_one (ps_fld (pv 0) (pv 6) rfl))))))), (ss_cons (ss_putf (f := "spots") (fun C => hF C "spots") se_var se_var) (ss_cons (ss_putf (f := "along") (fun C => hF C "along") se_var se_var) (ss_cons (ss_putf (f := "back") (fun C => hF C "back") se_var se_var) (ss_cons (ss_putf (f := "bends") (fun C => hF C "bends") se_var se_var) (ss_cons (ss_putf (f := "answer") (fun C => hF C "answer") se_var se_var) (ss_putf (f := "products") (fun C => hF C "products") se_var se_var))))))⟩
abbrev stC_Parts : Stmt := inClass (topS 58) 0
abbrev psC_Parts : List Str := ["self", "base", "lots"]
theorem scC_Parts : FnScope psC_Parts psC_Parts (defScope stC_Parts) := ⟨rfl, rfl, rfl, by decide +kernel, rfl, by decide +kernel, by decide +kernel⟩
noncomputable def dC_Parts (ad : Str → Addr) : Den := dDef 3 false (initB (cF ad) 1 ["base", "lots"])
theorem okC_Parts (hF : ∀ C f, cF ad C f = true → Cls K C ∧ NoAttr K C f) (F : ClsAt K mg "Parts" "Parts.__init__" stC_Parts (ad "Parts")) : ClAt P w K mg base 1 "Parts" "Parts.__init__" stC_Parts (ad "Parts") psC_Parts [] (dC_Parts ad) :=
  mkCl (N := psC_Parts) (ps := psC_Parts) (own := false) (g := initB (cF ad) 1 ["base", "lots"]) (k := 0) F scC_Parts (fun _ _ _ _ _ _ us hl => match us, hl with | [_, _, _], _ => rfl) fun f cdv A outer s H E hr => ⟨_, (pss_cons (ps_fld (pv 0) (pv 1) rfl) (pss_one (ps_fld (pv 0) (pv 2) rfl))), (ss_cons (ss_putf (f := "base") (fun C => hF C "base") se_var se_var) (ss_putf (f := "lots") (fun C => hF C "lots") se_var se_var))⟩
abbrev stC_SideBounds : Stmt := inClass (topS 60) 0
abbrev psC_SideBounds : List Str := ["self", "low", "bars", "high", "book"]
theorem scC_SideBounds : FnScope psC_SideBounds psC_SideBounds (defScope stC_SideBounds) := ⟨rfl, rfl, rfl, by decide +kernel, rfl, by decide +kernel, by decide +kernel⟩
noncomputable def dC_SideBounds (ad : Str → Addr) : Den := dDef 5 false (initB (cF ad) 1 ["low", "bars", "high", "book"])
theorem okC_SideBounds (hF : ∀ C f, cF ad C f = true → Cls K C ∧ NoAttr K C f) (F : ClsAt K mg "SideBounds" "SideBounds.__init__" stC_SideBounds (ad "SideBounds")) : ClAt P w K mg base 1 "SideBounds" "SideBounds.__init__" stC_SideBounds (ad "SideBounds") psC_SideBounds [] (dC_SideBounds ad) :=
  mkCl (N := psC_SideBounds) (ps := psC_SideBounds) (own := false) (g := initB (cF ad) 1 ["low", "bars", "high", "book"]) (k := 0) F scC_SideBounds (fun _ _ _ _ _ _ us hl => match us, hl with | [_, _, _, _, _], _ => rfl) fun f cdv A outer s H E hr => ⟨_, (pss_cons (ps_fld (pv 0) (pv 1) rfl) (pss_cons (ps_fld (pv 0) (pv 2) rfl) (pss_cons (ps_fld (pv 0) (pv 3) rfl) (pss_one (ps_fld (pv 0) (pv 4) rfl))))), (ss_cons (ss_putf (f := "low") (fun C => hF C "low") se_var se_var) (ss_cons (ss_putf (f := "bars") (fun C => hF C "bars") se_var se_var) (ss_cons (ss_putf (f := "high") (fun C => hF C "high") se_var se_var) (ss_putf (f := "book") (fun C => hF C "book") se_var se_var))))⟩
abbrev stC_Taken : Stmt := inClass (topS 62) 0
abbrev psC_Taken : List Str := ["self", "steps", "turns", "missing"]
theorem scC_Taken : FnScope psC_Taken psC_Taken (defScope stC_Taken) := ⟨rfl, rfl, rfl, by decide +kernel, rfl, by decide +kernel, by decide +kernel⟩
noncomputable def dC_Taken (ad : Str → Addr) : Den := dDef 4 false (initB (cF ad) 1 ["steps", "turns", "missing"])
theorem okC_Taken (hF : ∀ C f, cF ad C f = true → Cls K C ∧ NoAttr K C f) (F : ClsAt K mg "Taken" "Taken.__init__" stC_Taken (ad "Taken")) : ClAt P w K mg base 1 "Taken" "Taken.__init__" stC_Taken (ad "Taken") psC_Taken [] (dC_Taken ad) :=
  mkCl (N := psC_Taken) (ps := psC_Taken) (own := false) (g := initB (cF ad) 1 ["steps", "turns", "missing"]) (k := 0) F scC_Taken (fun _ _ _ _ _ _ us hl => match us, hl with | [_, _, _, _], _ => rfl) fun f cdv A outer s H E hr => ⟨_, (pss_cons (ps_fld (pv 0) (pv 1) rfl) (pss_cons (ps_fld (pv 0) (pv 2) rfl) (pss_one (ps_fld (pv 0) (pv 3) rfl)))), (ss_cons (ss_putf (f := "steps") (fun C => hF C "steps") se_var se_var) (ss_cons (ss_putf (f := "turns") (fun C => hF C "turns") se_var se_var) (ss_putf (f := "missing") (fun C => hF C "missing") se_var se_var)))⟩
abbrev stC_Solved : Stmt := inClass (topS 64) 0
abbrev psC_Solved : List Str := ["self", "steps", "letters"]
theorem scC_Solved : FnScope psC_Solved psC_Solved (defScope stC_Solved) := ⟨rfl, rfl, rfl, by decide +kernel, rfl, by decide +kernel, by decide +kernel⟩
noncomputable def dC_Solved (ad : Str → Addr) : Den := dDef 3 false (initB (cF ad) 1 ["steps", "letters"])
theorem okC_Solved (hF : ∀ C f, cF ad C f = true → Cls K C ∧ NoAttr K C f) (F : ClsAt K mg "Solved" "Solved.__init__" stC_Solved (ad "Solved")) : ClAt P w K mg base 1 "Solved" "Solved.__init__" stC_Solved (ad "Solved") psC_Solved [] (dC_Solved ad) :=
  mkCl (N := psC_Solved) (ps := psC_Solved) (own := false) (g := initB (cF ad) 1 ["steps", "letters"]) (k := 0) F scC_Solved (fun _ _ _ _ _ _ us hl => match us, hl with | [_, _, _], _ => rfl) fun f cdv A outer s H E hr => ⟨_, (pss_cons (ps_fld (pv 0) (pv 1) rfl) (pss_one (ps_fld (pv 0) (pv 2) rfl))), (ss_cons (ss_putf (f := "steps") (fun C => hF C "steps") se_var se_var) (ss_putf (f := "letters") (fun C => hF C "letters") se_var se_var))⟩
abbrev stC_Ladder : Stmt := inClass (topS 65) 0
abbrev psC_Ladder : List Str := ["self", "read", "taken", "solved", "told"]
theorem scC_Ladder : FnScope psC_Ladder psC_Ladder (defScope stC_Ladder) := ⟨rfl, rfl, rfl, by decide +kernel, rfl, by decide +kernel, by decide +kernel⟩
noncomputable def dC_Ladder (ad : Str → Addr) : Den := dDef 5 false (initB (cF ad) 1 ["read", "taken", "solved", "told"])
theorem okC_Ladder (hF : ∀ C f, cF ad C f = true → Cls K C ∧ NoAttr K C f) (F : ClsAt K mg "Ladder" "Ladder.__init__" stC_Ladder (ad "Ladder")) : ClAt P w K mg base 1 "Ladder" "Ladder.__init__" stC_Ladder (ad "Ladder") psC_Ladder [] (dC_Ladder ad) :=
  mkCl (N := psC_Ladder) (ps := psC_Ladder) (own := false) (g := initB (cF ad) 1 ["read", "taken", "solved", "told"]) (k := 0) F scC_Ladder (fun _ _ _ _ _ _ us hl => match us, hl with | [_, _, _, _, _], _ => rfl) fun f cdv A outer s H E hr => ⟨_, (pss_cons (ps_fld (pv 0) (pv 1) rfl) (pss_cons (ps_fld (pv 0) (pv 2) rfl) (pss_cons (ps_fld (pv 0) (pv 3) rfl) (pss_one (ps_fld (pv 0) (pv 4) rfl))))), (ss_cons (ss_putf (f := "read") (fun C => hF C "read") se_var se_var) (ss_cons (ss_putf (f := "taken") (fun C => hF C "taken") se_var se_var) (ss_cons (ss_putf (f := "solved") (fun C => hF C "solved") se_var se_var) (ss_putf (f := "told") (fun C => hF C "told") se_var se_var))))⟩
abbrev stC_Ring : Stmt := inClass (topS 66) 0
abbrev psC_Ring : List Str := ["self", "points"]
theorem scC_Ring : FnScope psC_Ring psC_Ring (defScope stC_Ring) := ⟨rfl, rfl, rfl, by decide +kernel, rfl, by decide +kernel, by decide +kernel⟩
noncomputable def dC_Ring (ad : Str → Addr) : Den := dDef 2 false (initB (cF ad) 1 ["points"])
theorem okC_Ring (hF : ∀ C f, cF ad C f = true → Cls K C ∧ NoAttr K C f) (F : ClsAt K mg "Ring" "Ring.__init__" stC_Ring (ad "Ring")) : ClAt P w K mg base 1 "Ring" "Ring.__init__" stC_Ring (ad "Ring") psC_Ring [] (dC_Ring ad) :=
  mkCl (N := psC_Ring) (ps := psC_Ring) (own := false) (g := initB (cF ad) 1 ["points"]) (k := 0) F scC_Ring (fun _ _ _ _ _ _ us hl => match us, hl with | [_, _], _ => rfl) fun f cdv A outer s H E hr => ⟨_, (pss_one (ps_fld (pv 0) (pv 1) rfl)), (ss_putf (f := "points") (fun C => hF C "points") se_var se_var)⟩
abbrev stC_Unseen : Stmt := inClass (topS 68) 0
abbrev psC_Unseen : List Str := ["self", "numbers", "strangers"]
theorem scC_Unseen : FnScope psC_Unseen psC_Unseen (defScope stC_Unseen) := ⟨rfl, rfl, rfl, by decide +kernel, rfl, by decide +kernel, by decide +kernel⟩
noncomputable def dC_Unseen (ad : Str → Addr) : Den := dDef 3 false (initB (cF ad) 1 ["numbers", "strangers"])
theorem okC_Unseen (hF : ∀ C f, cF ad C f = true → Cls K C ∧ NoAttr K C f) (F : ClsAt K mg "Unseen" "Unseen.__init__" stC_Unseen (ad "Unseen")) : ClAt P w K mg base 1 "Unseen" "Unseen.__init__" stC_Unseen (ad "Unseen") psC_Unseen [] (dC_Unseen ad) :=
  mkCl (N := psC_Unseen) (ps := psC_Unseen) (own := false) (g := initB (cF ad) 1 ["numbers", "strangers"]) (k := 0) F scC_Unseen (fun _ _ _ _ _ _ us hl => match us, hl with | [_, _, _], _ => rfl) fun f cdv A outer s H E hr => ⟨_, (pss_cons (ps_fld (pv 0) (pv 1) rfl) (pss_one (ps_fld (pv 0) (pv 2) rfl))), (ss_cons (ss_putf (f := "numbers") (fun C => hF C "numbers") se_var se_var) (ss_putf (f := "strangers") (fun C => hF C "strangers") se_var se_var))⟩
abbrev stC_Filled : Stmt := inClass (topS 69) 0
abbrev psC_Filled : List Str := ["self", "numbers", "strangers"]
theorem scC_Filled : FnScope psC_Filled psC_Filled (defScope stC_Filled) := ⟨rfl, rfl, rfl, by decide +kernel, rfl, by decide +kernel, by decide +kernel⟩
noncomputable def dC_Filled (ad : Str → Addr) : Den := dDef 3 false (initB (cF ad) 1 ["numbers", "strangers"])
theorem okC_Filled (hF : ∀ C f, cF ad C f = true → Cls K C ∧ NoAttr K C f) (F : ClsAt K mg "Filled" "Filled.__init__" stC_Filled (ad "Filled")) : ClAt P w K mg base 1 "Filled" "Filled.__init__" stC_Filled (ad "Filled") psC_Filled [] (dC_Filled ad) :=
  mkCl (N := psC_Filled) (ps := psC_Filled) (own := false) (g := initB (cF ad) 1 ["numbers", "strangers"]) (k := 0) F scC_Filled (fun _ _ _ _ _ _ us hl => match us, hl with | [_, _, _], _ => rfl) fun f cdv A outer s H E hr => ⟨_, (pss_cons (ps_fld (pv 0) (pv 1) rfl) (pss_one (ps_fld (pv 0) (pv 2) rfl))), (ss_cons (ss_putf (f := "numbers") (fun C => hF C "numbers") se_var se_var) (ss_putf (f := "strangers") (fun C => hF C "strangers") se_var se_var))⟩
abbrev stC_Twice : Stmt := inClass (topS 70) 0
abbrev psC_Twice : List Str := ["self", "first", "second"]
theorem scC_Twice : FnScope psC_Twice psC_Twice (defScope stC_Twice) := ⟨rfl, rfl, rfl, by decide +kernel, rfl, by decide +kernel, by decide +kernel⟩
noncomputable def dC_Twice (ad : Str → Addr) : Den := dDef 3 false (initB (cF ad) 1 ["first", "second"])
theorem okC_Twice (hF : ∀ C f, cF ad C f = true → Cls K C ∧ NoAttr K C f) (F : ClsAt K mg "Twice" "Twice.__init__" stC_Twice (ad "Twice")) : ClAt P w K mg base 1 "Twice" "Twice.__init__" stC_Twice (ad "Twice") psC_Twice [] (dC_Twice ad) :=
  mkCl (N := psC_Twice) (ps := psC_Twice) (own := false) (g := initB (cF ad) 1 ["first", "second"]) (k := 0) F scC_Twice (fun _ _ _ _ _ _ us hl => match us, hl with | [_, _, _], _ => rfl) fun f cdv A outer s H E hr => ⟨_, (pss_cons (ps_fld (pv 0) (pv 1) rfl) (pss_one (ps_fld (pv 0) (pv 2) rfl))), (ss_cons (ss_putf (f := "first") (fun C => hF C "first") se_var se_var) (ss_putf (f := "second") (fun C => hF C "second") se_var se_var))⟩
abbrev stC_Explained : Stmt := inClass (topS 71) 0
abbrev psC_Explained : List Str := ["self", "strangers", "numbers"]
theorem scC_Explained : FnScope psC_Explained psC_Explained (defScope stC_Explained) := ⟨rfl, rfl, rfl, by decide +kernel, rfl, by decide +kernel, by decide +kernel⟩
noncomputable def dC_Explained (ad : Str → Addr) : Den := dDef 3 false (initB (cF ad) 1 ["strangers", "numbers"])
theorem okC_Explained (hF : ∀ C f, cF ad C f = true → Cls K C ∧ NoAttr K C f) (F : ClsAt K mg "Explained" "Explained.__init__" stC_Explained (ad "Explained")) : ClAt P w K mg base 1 "Explained" "Explained.__init__" stC_Explained (ad "Explained") psC_Explained [] (dC_Explained ad) :=
  mkCl (N := psC_Explained) (ps := psC_Explained) (own := false) (g := initB (cF ad) 1 ["strangers", "numbers"]) (k := 0) F scC_Explained (fun _ _ _ _ _ _ us hl => match us, hl with | [_, _, _], _ => rfl) fun f cdv A outer s H E hr => ⟨_, (pss_cons (ps_fld (pv 0) (pv 1) rfl) (pss_one (ps_fld (pv 0) (pv 2) rfl))), (ss_cons (ss_putf (f := "strangers") (fun C => hF C "strangers") se_var se_var) (ss_putf (f := "numbers") (fun C => hF C "numbers") se_var se_var))⟩
abbrev st__law_hand : Stmt := topS 73
abbrev N__law_hand : List Str := ["_law_script", "_law_total", "_law_cells", "_law_cell"]
abbrev ps__law_hand : List Str := ["_law_script"]
theorem sc__law_hand : FnScope N__law_hand ps__law_hand (defScope st__law_hand) := ⟨rfl, rfl, rfl, by decide +kernel, rfl, by decide +kernel, by decide +kernel⟩
noncomputable def b__law_hand : DSn := (dSeq (dAsg (dOp fPlus (dCB (f1 fLen) (dCons (dVar 0) dNil)) (dC (.int 37))) (dgName 1))
  (dSeq (dAsg (dLst dNil) (dgName 2))
  (dSeq (dFor (dSeqI (dVar 0)) (dgName 3) (dSeq (dAsg (dOp fMod (dCB (f1 fInt) (dCons (dOp fPlus (dOp fTimes (dVar 1) (dC (.int 1709))) (dCB (f1 fInt) (dCons (dVar 3) dNil))) dNil)) (dC (.int 2147483549))) (dgName 1))
  (dDrop (dAppend (dVar 2) (dCons (dCB (f1 fAbs) (dCons (dCB (f1 fInt) (dCons (dVar 3) dNil)) dNil)) dNil)))))
  (dRet (dLst (dCons (dVar 2) (dCons (dC (.int 0)) (dCons (dC (.int 0)) (dCons (dVar 1) dNil)))))))))
noncomputable def d__law_hand : Den := dDef 4 true b__law_hand
theorem ok__law_hand (F : DefAt K mg "_law_hand" st__law_hand) (T : TB mg)  : FnAt P w K mg base 1 "_law_hand" 1 [] d__law_hand :=
  mkFn (N := N__law_hand) (ps := ps__law_hand) (own := true) (g := b__law_hand) (k := 0) F sc__law_hand (fun _ _ _ _ _ _ us hl => match us, hl with | [_], _ => rfl) fun f cdv A outer s H E hr => ⟨_, (pss_cons (ps_set (i := 1) sc__law_hand.nd rfl (.inl rfl) (pe_op op_plus (pe_callB call_len (by rfl) T.len boot_len (pa_cons (pv 0) pa_nil)) pe_int))
      (pss_cons (ps_set (i := 2) sc__law_hand.nd rfl (.inl rfl) (pe_lst pa_nil))
      (pss_cons (ps_for (passes_of rfl) rfl (pi_seqS (pv 0)) (pg_name (i := 3) sc__law_hand.nd rfl (.inl rfl)) (pss_cons (ps_set (i := 1) sc__law_hand.nd rfl (.inl rfl) (pe_op op_modN (pe_callTy call_int1 (by rfl) T.int boot_int (pa_cons (pe_op op_plus (pe_op op_times (pv 1) pe_int) (pe_callTy call_int1 (by rfl) T.int boot_int (pa_cons (pv 3) pa_nil))) pa_nil)) pe_int))
      (pss_one (ps_expr (pe_bm PySem.F.plainAttrs_list PySem.F.slot_list_append PySem.F.type_list_append mt_append (pv 2) (pa_cons (pe_callB call_abs (by rfl) T.abs (by decide +kernel) (pa_cons (pe_callTy call_int1 (by rfl) T.int boot_int (pa_cons (pv 3) pa_nil)) pa_nil)) pa_nil))))))
      (pss_one (ps_ret (pe_lst (pa_cons (pv 2) (pa_cons pe_int (pa_cons pe_int (pa_cons (pv 1) pa_nil)))))))))), (ss_cons (ss_asg (se_op od_plus (se_cb cd_len (sa_cons se_var sa_nil)) se_int) tg_name)
      (ss_cons (ss_asg (se_lst sa_nil) tg_name)
      (ss_cons (ss_for (si_seq se_var) tg_name (ss_cons (ss_asg (se_op od_mod (se_cb cd_int (sa_cons (se_op od_plus (se_op od_times se_var se_int) (se_cb cd_int (sa_cons se_var sa_nil))) sa_nil)) se_int) tg_name)
      (ss_drop (se_append se_var (sa_cons (se_cb cd_abs (sa_cons (se_cb cd_int (sa_cons se_var sa_nil)) sa_nil)) sa_nil)))))
      (ss_ret (se_lst (sa_cons se_var (sa_cons se_int (sa_cons se_int (sa_cons se_var sa_nil)))))))))⟩
abbrev st__law_mixed : Stmt := topS 74
abbrev N__law_mixed : List Str := ["_law_number", "_law_turn", "_law_once", "_law_twice"]
abbrev ps__law_mixed : List Str := ["_law_number", "_law_turn"]
theorem sc__law_mixed : FnScope N__law_mixed ps__law_mixed (defScope st__law_mixed) := ⟨rfl, rfl, rfl, by decide +kernel, rfl, by decide +kernel, by decide +kernel⟩
noncomputable def b__law_mixed : DSn := (dSeq (dAsg (dOp fMod (dCB (f1 fInt) (dCons (dOp fPlus (dOp fPlus (dOp fTimes (dVar 0) (dC (.int 48271))) (dOp fTimes (dVar 1) (dC (.int 7919)))) (dC (.int 30011))) dNil)) (dC (.int 2147483399))) (dgName 2))
  (dSeq (dAsg (dOp fMod (dCB (f1 fInt) (dCons (dOp fPlus (dOp fPlus (dOp fTimes (dVar 2) (dVar 2)) (dOp fTimes (dVar 1) (dC (.int 92821)))) (dOp fDiv (dVar 2) (dC (.int 131)))) dNil)) (dC (.int 2147483629))) (dgName 3))
  (dRet (dOp fDiv (dCB (f1 fInt) (dCons (dOp fMod (dCB (f1 fInt) (dCons (dOp fPlus (dOp fTimes (dVar 3) (dC (.int 69621))) (dOp fDiv (dVar 2) (dC (.int 13)))) dNil)) (dC (.int 2147483587))) dNil)) (dC (.int 32))))))
noncomputable def d__law_mixed : Den := dDef 4 false b__law_mixed
theorem ok__law_mixed (F : DefAt K mg "_law_mixed" st__law_mixed) (T : TB mg)  : FnAt P w K mg base 1 "_law_mixed" 2 [] d__law_mixed :=
  mkFn (N := N__law_mixed) (ps := ps__law_mixed) (own := false) (g := b__law_mixed) (k := 0) F sc__law_mixed (fun _ _ _ _ _ _ us hl => match us, hl with | [_, _], _ => rfl) fun f cdv A outer s H E hr => ⟨_, (pss_cons (ps_set (i := 2) sc__law_mixed.nd rfl (.inl rfl) (pe_op op_modN (pe_callTy call_int1 (by rfl) T.int boot_int (pa_cons (pe_op op_plus (pe_op op_plus (pe_op op_times (pv 0) pe_int) (pe_op op_times (pv 1) pe_int)) pe_int) pa_nil)) pe_int))
      (pss_cons (ps_set (i := 3) sc__law_mixed.nd rfl (.inl rfl) (pe_op op_modN (pe_callTy call_int1 (by rfl) T.int boot_int (pa_cons (pe_op op_plus (pe_op op_plus (pe_op op_times (pv 2) (pv 2)) (pe_op op_times (pv 1) pe_int)) (pe_op op_fdivX (pv 2) pe_int)) pa_nil)) pe_int))
      (pss_one (ps_ret (pe_op op_fdivX (pe_callTy call_int1 (by rfl) T.int boot_int (pa_cons (pe_op op_modN (pe_callTy call_int1 (by rfl) T.int boot_int (pa_cons (pe_op op_plus (pe_op op_times (pv 3) pe_int) (pe_op op_fdivX (pv 2) pe_int)) pa_nil)) pe_int) pa_nil)) pe_int))))), (ss_cons (ss_asg (se_op od_mod (se_cb cd_int (sa_cons (se_op od_plus (se_op od_plus (se_op od_times se_var se_int) (se_op od_times se_var se_int)) se_int) sa_nil)) se_int) tg_name)
      (ss_cons (ss_asg (se_op od_mod (se_cb cd_int (sa_cons (se_op od_plus (se_op od_plus (se_op od_times se_var se_var) (se_op od_times se_var se_int)) (se_op od_div se_var se_int)) sa_nil)) se_int) tg_name)
      (ss_ret (se_op od_div (se_cb cd_int (sa_cons (se_op od_mod (se_cb cd_int (sa_cons (se_op od_plus (se_op od_times se_var se_int) (se_op od_div se_var se_int)) sa_nil)) se_int) sa_nil)) se_int))))⟩
abbrev st__law_take : Stmt := topS 75
abbrev N__law_take : List Str := ["_law_hand_here", "_law_many", "_law_cell", "_law_rest"]
abbrev ps__law_take : List Str := ["_law_hand_here", "_law_many"]
theorem sc__law_take : FnScope N__law_take ps__law_take (defScope st__law_take) := ⟨rfl, rfl, rfl, by decide +kernel, rfl, by decide +kernel, by decide +kernel⟩
noncomputable def b__law_take : DSn := (dSeq (dIfS (dAnd (dTest (dOp (fEq false) (dOp fIx (dVar 0) (dC (.int 2))) (dC (.int 0)))) (dTest (dOp (fI (fun _ _ => true) fun i j => .bl (decide (i < j))) (dOp fIx (dVar 0) (dC (.int 1))) (dCB (f1 fLen) (dCons (dOp fIx (dVar 0) (dC (.int 0))) dNil))))) (dSeq (dAsg (dOp fIx (dOp fIx (dVar 0) (dC (.int 0))) (dOp fIx (dVar 0) (dC (.int 1)))) (dgName 2))
  (dSeq (dAsg (dOp fPlus (dOp fIx (dVar 0) (dC (.int 1))) (dC (.int 1))) (dgSub (dVar 0) (dC (.int 1))))
  (dSeq (dIfS (dTest (dOp (fI (fun _ _ => true) fun i j => .bl (decide (i < j))) (dVar 2) (dOp fPow (dC (.int 10)) (dC (.int 18))))) (dRet (dOp fMod (dCB (f1 fInt) (dCons (dCall d__law_mixed 2 [] (dCons (dOp fMod (dCB (f1 fInt) (dCons (dVar 2) dNil)) (dC (.int 2147483399))) (dCons (dOp fIx (dVar 0) (dC (.int 1))) dNil))) dNil)) (dVar 1))) dNext)
  (dAsg (dVar 2) (dgSub (dVar 0) (dC (.int 2))))))) dNext)
  (dSeq (dIfS (dTest (dOp (fI (fun _ _ => true) fun i j => .bl (decide (j < i))) (dOp fIx (dVar 0) (dC (.int 2))) (dC (.int 0)))) (dSeq (dAsg (dOp fIx (dVar 0) (dC (.int 2))) (dgName 3))
  (dSeq (dAsg (dOp fDiv (dCB (f1 fInt) (dCons (dVar 3) dNil)) (dVar 1)) (dgSub (dVar 0) (dC (.int 2))))
  (dRet (dOp fMod (dCB (f1 fInt) (dCons (dVar 3) dNil)) (dVar 1))))) dNext)
  (dSeq (dAsg (dOp fMod (dCB (f1 fInt) (dCons (dOp fPlus (dOp fIx (dVar 0) (dC (.int 3))) (dC (.int 1))) dNil)) (dC (.int 2147483549))) (dgSub (dVar 0) (dC (.int 3))))
  (dRet (dOp fMod (dCB (f1 fInt) (dCons (dCall d__law_mixed 2 [] (dCons (dOp fIx (dVar 0) (dC (.int 3))) (dCons (dOp fIx (dVar 0) (dC (.int 1))) dNil))) dNil)) (dVar 1))))))
noncomputable def d__law_take : Den := dDef 4 false b__law_take
theorem ok__law_take (F : DefAt K mg "_law_take" st__law_take) (T : TB mg) (h__law_mixed : FnAt P w K mg base 1 "_law_mixed" 2 [] d__law_mixed)  : FnAt P w K mg base 2 "_law_take" 2 [] d__law_take :=
  mkFn (N := N__law_take) (ps := ps__law_take) (own := false) (g := b__law_take) (k := 1) F sc__law_take (fun _ _ _ _ _ _ us hl => match us, hl with | [_, _], _ => rfl) fun f cdv A outer s H E hr => ⟨_, (pss_cons (ps_if (PW.pt (pw_and (pt_cmpR (op_eqP (Room.units hr)) (pe_ix ix_seq (pv 0) pe_int (fun _ _ => rfl)) pe_int (nomark _)) (pw_and1 (pt_cmpR op_lt (pe_ix ix_seq (pv 0) pe_int (fun _ _ => rfl)) (pe_callB call_len (by rfl) T.len boot_len (pa_cons (pe_ix ix_seq (pv 0) pe_int (fun _ _ => rfl)) pa_nil)) (nomark _))))) (pss_cons (ps_set (i := 2) sc__law_take.nd rfl (.inl rfl) (pe_ix ix_seq (pe_ix ix_seq (pv 0) pe_int (fun _ _ => rfl)) (pe_ix ix_seq (pv 0) pe_int (fun _ _ => rfl)) (fun _ _ => rfl)))
      (pss_cons (ps_asg (pe_op op_plus (pe_ix ix_seq (pv 0) pe_int (fun _ _ => rfl)) pe_int) (pg_sub (pv 0) pe_int set_list))
      (pss_cons (ps_if (pt_cmpR op_lt (pv 2) (pe_op op_pow pe_int pe_int) (nomark _)) (pss_one (ps_ret (pe_op op_modN (pe_callTy call_int1 (by rfl) T.int boot_int (pa_cons (pe_at (dd := []) h__law_mixed 0 (by decide) (hr.mono (by decide)) (by rfl) (takes_of rfl rfl rfl rfl) (pa_cons (pe_op op_modN (pe_callTy call_int1 (by rfl) T.int boot_int (pa_cons (pv 2) pa_nil)) pe_int) (pa_cons (pe_ix ix_seq (pv 0) pe_int (fun _ _ => rfl)) pa_nil))) pa_nil)) (pv 1)))) pss_nil)
      (pss_one (ps_asg (pv 2) (pg_sub (pv 0) pe_int set_list)))))) pss_nil)
      (pss_cons (ps_if (pt_cmpR op_gt (pe_ix ix_seq (pv 0) pe_int (fun _ _ => rfl)) pe_int (nomark _)) (pss_cons (ps_set (i := 3) sc__law_take.nd rfl (.inl rfl) (pe_ix ix_seq (pv 0) pe_int (fun _ _ => rfl)))
      (pss_cons (ps_asg (pe_op op_fdivX (pe_callTy call_int1 (by rfl) T.int boot_int (pa_cons (pv 3) pa_nil)) (pv 1)) (pg_sub (pv 0) pe_int set_list))
      (pss_one (ps_ret (pe_op op_modN (pe_callTy call_int1 (by rfl) T.int boot_int (pa_cons (pv 3) pa_nil)) (pv 1)))))) pss_nil)
      (pss_cons (ps_asg (pe_op op_modN (pe_callTy call_int1 (by rfl) T.int boot_int (pa_cons (pe_op op_plus (pe_ix ix_seq (pv 0) pe_int (fun _ _ => rfl)) pe_int) pa_nil)) pe_int) (pg_sub (pv 0) pe_int set_list))
      (pss_one (ps_ret (pe_op op_modN (pe_callTy call_int1 (by rfl) T.int boot_int (pa_cons (pe_at (dd := []) h__law_mixed 0 (by decide) (hr.mono (by decide)) (by rfl) (takes_of rfl rfl rfl rfl) (pa_cons (pe_ix ix_seq (pv 0) pe_int (fun _ _ => rfl)) (pa_cons (pe_ix ix_seq (pv 0) pe_int (fun _ _ => rfl)) pa_nil))) pa_nil)) (pv 1))))))), (ss_cons (ss_if (st_and (st_test (se_op od_eq (se_op od_ix se_var se_int) se_int)) (st_test (se_op od_bl0 (se_op od_ix se_var se_int) (se_cb cd_len (sa_cons (se_op od_ix se_var se_int) sa_nil))))) (ss_cons (ss_asg (se_op od_ix (se_op od_ix se_var se_int) (se_op od_ix se_var se_int)) tg_name)
      (ss_cons (ss_asg (se_op od_plus (se_op od_ix se_var se_int) se_int) (tg_sub se_var se_int))
      (ss_cons (ss_if (st_test (se_op od_bl0 se_var (se_op od_pow se_int se_int))) (ss_ret (se_op od_mod (se_cb cd_int (sa_cons (se_call (fun _ _ => .nil) (sa_cons (se_op od_mod (se_cb cd_int (sa_cons se_var sa_nil)) se_int) (sa_cons (se_op od_ix se_var se_int) sa_nil))) sa_nil)) se_var)) ss_nil)
      (ss_asg se_var (tg_sub se_var se_int))))) ss_nil)
      (ss_cons (ss_if (st_test (se_op od_bl0 (se_op od_ix se_var se_int) se_int)) (ss_cons (ss_asg (se_op od_ix se_var se_int) tg_name)
      (ss_cons (ss_asg (se_op od_div (se_cb cd_int (sa_cons se_var sa_nil)) se_var) (tg_sub se_var se_int))
      (ss_ret (se_op od_mod (se_cb cd_int (sa_cons se_var sa_nil)) se_var)))) ss_nil)
      (ss_cons (ss_asg (se_op od_mod (se_cb cd_int (sa_cons (se_op od_plus (se_op od_ix se_var se_int) se_int) sa_nil)) se_int) (tg_sub se_var se_int))
      (ss_ret (se_op od_mod (se_cb cd_int (sa_cons (se_call (fun _ _ => .nil) (sa_cons (se_op od_ix se_var se_int) (sa_cons (se_op od_ix se_var se_int) sa_nil))) sa_nil)) se_var)))))⟩
abbrev st__law_all : Stmt := topS 76
abbrev N__law_all : List Str := ["_law_rows", "_law_things", "_law_row"]
abbrev ps__law_all : List Str := ["_law_rows", "_law_things"]
theorem sc__law_all : FnScope N__law_all ps__law_all (defScope st__law_all) := ⟨rfl, rfl, rfl, by decide +kernel, rfl, by decide +kernel, by decide +kernel⟩
noncomputable def b__law_all : DSn := (dRet (dOp (fEq false) (dComp (dSeqI (dVar 0)) (dgName 2) (dTest (dOp (fEq true) (dCB (f1 fRepr) (dCons (dVar 2) dNil)) (dCB (f1 fRepr) (dCons (dSl (dVar 1) dNoPart (dPart (dCB (f1 fLen) (dCons (dVar 2) dNil)))) dNil)))) (dVar 2) [2]) (dLst dNil)))
noncomputable def d__law_all : Den := dDef 3 false b__law_all
theorem ok__law_all (F : DefAt K mg "_law_all" st__law_all) (T : TB mg) (Sy : SysK K)  : GnAt P w K mg base 1 "_law_all" 2 d__law_all :=
  mkGn (N := N__law_all) (ps := ps__law_all) (own := false) (g := b__law_all) (k := 0) F sc__law_all (fun _ _ _ _ _ _ us hl => match us, hl with | [_, _], _ => rfl) fun f cdv A outer s H E qa hr => ⟨_, (pss_one (ps_ret (pe_cmpR (op_eqP (Room.units hr)) (pe_lc (own := [("_law_row", 2)]) (tt := (tTest (tOp (rEqP K true) (tCB (rReprD K) (tCons (tVar 2) tNil)) (tCB (rReprD K) (tCons (tSl (rSl2 K) (tVar 1) tNoPart (tPart (tCB (rLenV K) (tCons (tVar 2) tNil)))) tNil))))) (te := (tVar 2)) rfl sc__law_all.nd (pi_seqS (pv 0)) (blkOk_by (N := N__law_all) (sc := defScope st__law_all) (by decide +kernel)) (fun _ _ _ _ _ => by exact (pg_name (i := 2) sc__law_all.nd rfl (.inl rfl))) (fun _ _ _ _ _ => by exact (pts_one (pt_cmpR (op_neP (Room.units hr)) (pe_callB (call_reprD Sy qa.dp (Room.units hr)) (by rfl) T.repr (by decide +kernel) (pa_cons (pv 2) pa_nil)) (pe_callB (call_reprD Sy qa.dp (Room.units hr)) (by rfl) T.repr (by decide +kernel) (pa_cons (pe_slice sl_two (pv 1) po_none (po_some (pe_callB call_len (by rfl) T.len boot_len (pa_cons (pv 2) pa_nil)))) pa_nil)) (nomark _)))) (fun _ _ _ _ _ => by exact (pv 2))) (pe_lst pa_nil) (nomark _)))), (ss_ret (se_op od_eq (se_comp (vs := [2]) (si_seq se_var) (tw_name (by decide)) (st_test (se_op od_eq (se_cb cd_repr (sa_cons se_var sa_nil)) (se_cb cd_repr (sa_cons (se_sl se_var sp_none (sp_some (se_cb cd_len (sa_cons se_var sa_nil)))) sa_nil)))) se_var) (se_lst sa_nil)))⟩
abbrev st__law_answers : Stmt := topS 77
abbrev N__law_answers : List Str := ["_law_a", "_law_b", "_law_c", "_law_things", "_law_rows", "_law_e"]
abbrev ps__law_answers : List Str := ["_law_a", "_law_b", "_law_c", "_law_things"]
theorem sc__law_answers : FnScope N__law_answers ps__law_answers (defScope st__law_answers) := ⟨rfl, rfl, rfl, by decide +kernel, rfl, by decide +kernel, by decide +kernel⟩
noncomputable def b__law_answers (ad : Str → Addr) : DSn := (dSeq (dAsg (dLst (dCons (dLst (dCons (dFld (cF ad) (dMake (ad "Weights") (dC_Weights ad) 2 [] (dCons (dVar 0) dNil)) "row") dNil)) (dCons (dLst (dCons (dFld (cF ad) (dMake (ad "Hidden") (dC_Hidden ad) 2 [] (dCons (dVar 0) dNil)) "numbers") dNil)) (dCons (dLst (dCons (dFld (cF ad) (dMake (ad "Clash") (dC_Clash ad) 2 [] (dCons (dVar 0) dNil)) "weights") dNil)) (dCons (dLst (dCons (dFld (cF ad) (dMake (ad "Given") (dC_Given ad) 2 [] (dCons (dVar 0) dNil)) "rows") dNil)) (dCons (dLst (dCons (dFld (cF ad) (dMake (ad "RestWeights") (dC_RestWeights ad) 2 [] (dCons (dVar 0) dNil)) "row") dNil)) dNil)))))) (dgName 4))
  (dSeq (dAsg (dOp fPlus (dVar 4) (dLst (dCons (dLst (dCons (dFld (cF ad) (dMake (ad "RestHidden") (dC_RestHidden ad) 2 [] (dCons (dVar 0) dNil)) "numbers") dNil)) (dCons (dLst (dCons (dFld (cF ad) (dMake (ad "Missing") (dC_Missing ad) 2 [] (dCons (dVar 0) dNil)) "column") dNil)) dNil)))) (dgName 4))
  (dSeq (dAsg (dOp fPlus (dVar 4) (dComp (dSeqI (dLst (dCons (dMake (ad "Recovered") (dC_Recovered ad) 3 [] (dCons (dVar 0) (dCons (dVar 1) dNil))) (dCons (dMakeK (ad "Recovered") (dC_Recovered ad) 3 2 [1, 0] (dCons (dVar 1) (dCons (dVar 0) dNil))) dNil)))) (dgName 5) dYes (dLst (dCons (dFld (cF ad) (dVar 5) "numbers") (dCons (dFld (cF ad) (dVar 5) "filling") dNil))) [5])) (dgName 4))
  (dSeq (dAsg (dOp fPlus (dVar 4) (dComp (dSeqI (dLst (dCons (dMake (ad "Parted") (dC_Parted ad) 3 [] (dCons (dVar 0) (dCons (dVar 1) dNil))) (dCons (dMakeK (ad "Parted") (dC_Parted ad) 3 2 [1, 0] (dCons (dVar 1) (dCons (dVar 0) dNil))) dNil)))) (dgName 5) dYes (dLst (dCons (dFld (cF ad) (dVar 5) "answer") (dCons (dFld (cF ad) (dVar 5) "numbers") dNil))) [5])) (dgName 4))
  (dSeq (dAsg (dOp fPlus (dVar 4) (dComp (dSeqI (dLst (dCons (dMake (ad "Whole") (dC_Whole ad) 4 [] (dCons (dVar 0) (dCons (dVar 1) (dCons (dVar 2) dNil)))) (dCons (dMakeK (ad "Whole") (dC_Whole ad) 4 3 [2, 1, 0] (dCons (dVar 2) (dCons (dVar 1) (dCons (dVar 0) dNil)))) dNil)))) (dgName 5) dYes (dLst (dCons (dFld (cF ad) (dVar 5) "bottom") (dCons (dFld (cF ad) (dVar 5) "weights") (dCons (dFld (cF ad) (dVar 5) "numbers") dNil)))) [5])) (dgName 4))
  (dSeq (dAsg (dOp fPlus (dVar 4) (dComp (dSeqI (dLst (dCons (dMake (ad "Meeting") (dC_Meeting ad) 4 [] (dCons (dVar 0) (dCons (dVar 1) (dCons (dVar 2) dNil)))) (dCons (dMakeK (ad "Meeting") (dC_Meeting ad) 4 3 [2, 1, 0] (dCons (dVar 2) (dCons (dVar 1) (dCons (dVar 0) dNil)))) dNil)))) (dgName 5) dYes (dLst (dCons (dFld (cF ad) (dVar 5) "row") (dCons (dFld (cF ad) (dVar 5) "first") (dCons (dFld (cF ad) (dVar 5) "second") dNil)))) [5])) (dgName 4))
  (dSeq (dAsg (dOp fPlus (dVar 4) (dComp (dSeqI (dLst (dCons (dMake (ad "Fewest") (dC_Fewest ad) 3 [] (dCons (dVar 0) (dCons (dVar 1) dNil))) (dCons (dMakeK (ad "Fewest") (dC_Fewest ad) 3 2 [1, 0] (dCons (dVar 1) (dCons (dVar 0) dNil))) dNil)))) (dgName 5) dYes (dLst (dCons (dFld (cF ad) (dVar 5) "count") (dCons (dFld (cF ad) (dVar 5) "row") dNil))) [5])) (dgName 4))
  (dSeq (dAsg (dOp fPlus (dVar 4) (dComp (dSeqI (dLst (dCons (dMake (ad "Dependent") (dC_Dependent ad) 3 [] (dCons (dVar 0) (dCons (dVar 1) dNil))) (dCons (dMakeK (ad "Dependent") (dC_Dependent ad) 3 2 [1, 0] (dCons (dVar 1) (dCons (dVar 0) dNil))) dNil)))) (dgName 5) dYes (dLst (dCons (dFld (cF ad) (dVar 5) "row") (dCons (dFld (cF ad) (dVar 5) "numbers") dNil))) [5])) (dgName 4))
  (dRet (dCall d__law_all 2 [] (dCons (dVar 4) (dCons (dVar 3) dNil))))))))))))
noncomputable def d__law_answers (ad : Str → Addr) : Den := dDef 6 false (b__law_answers ad)
theorem ok__law_answers (F : DefAt K mg "_law_answers" st__law_answers) (T : TB mg) (Sy : SysK K) (h__law_all : GnAt P w K mg base 1 "_law_all" 2 d__law_all)  (hF : ∀ C f, cF ad C f = true → Cls K C ∧ NoAttr K C f) (h_Clash : ClAt P w K mg base 1 "Clash" "Clash.__init__" stC_Clash (ad "Clash") psC_Clash [] (dC_Clash ad)) (h_Dependent : ClAt P w K mg base 1 "Dependent" "Dependent.__init__" stC_Dependent (ad "Dependent") psC_Dependent [] (dC_Dependent ad)) (h_Fewest : ClAt P w K mg base 1 "Fewest" "Fewest.__init__" stC_Fewest (ad "Fewest") psC_Fewest [] (dC_Fewest ad)) (h_Given : ClAt P w K mg base 1 "Given" "Given.__init__" stC_Given (ad "Given") psC_Given [] (dC_Given ad)) (h_Hidden : ClAt P w K mg base 1 "Hidden" "Hidden.__init__" stC_Hidden (ad "Hidden") psC_Hidden [] (dC_Hidden ad)) (h_Meeting : ClAt P w K mg base 1 "Meeting" "Meeting.__init__" stC_Meeting (ad "Meeting") psC_Meeting [] (dC_Meeting ad)) (h_Missing : ClAt P w K mg base 1 "Missing" "Missing.__init__" stC_Missing (ad "Missing") psC_Missing [] (dC_Missing ad)) (h_Parted : ClAt P w K mg base 1 "Parted" "Parted.__init__" stC_Parted (ad "Parted") psC_Parted [] (dC_Parted ad)) (h_Recovered : ClAt P w K mg base 1 "Recovered" "Recovered.__init__" stC_Recovered (ad "Recovered") psC_Recovered [] (dC_Recovered ad)) (h_RestHidden : ClAt P w K mg base 1 "RestHidden" "RestHidden.__init__" stC_RestHidden (ad "RestHidden") psC_RestHidden [] (dC_RestHidden ad)) (h_RestWeights : ClAt P w K mg base 1 "RestWeights" "RestWeights.__init__" stC_RestWeights (ad "RestWeights") psC_RestWeights [] (dC_RestWeights ad)) (h_Weights : ClAt P w K mg base 1 "Weights" "Weights.__init__" stC_Weights (ad "Weights") psC_Weights [] (dC_Weights ad)) (h_Whole : ClAt P w K mg base 1 "Whole" "Whole.__init__" stC_Whole (ad "Whole") psC_Whole [] (dC_Whole ad)) : GnAt P w K mg base 3 "_law_answers" 4 (d__law_answers ad) :=
  mkGn (N := N__law_answers) (ps := ps__law_answers) (own := false) (g := b__law_answers ad) (k := 2) F sc__law_answers (fun _ _ _ _ _ _ us hl => match us, hl with | [_, _, _, _], _ => rfl) fun f cdv A outer s H E qa hr => ⟨_, (pss_cons (ps_set (i := 4) sc__law_answers.nd rfl (.inl rfl) (pe_lst (pa_cons (pe_lst (pa_cons (pe_fld (pe_mkat h_Weights 0 (by decide) (hr.mono (by decide)) (by rfl) (takes_of rfl rfl rfl rfl) (pa_cons (pv 0) pa_nil)) rfl) pa_nil)) (pa_cons (pe_lst (pa_cons (pe_fld (pe_mkat h_Hidden 0 (by decide) (hr.mono (by decide)) (by rfl) (takes_of rfl rfl rfl rfl) (pa_cons (pv 0) pa_nil)) rfl) pa_nil)) (pa_cons (pe_lst (pa_cons (pe_fld (pe_mkat h_Clash 0 (by decide) (hr.mono (by decide)) (by rfl) (takes_of rfl rfl rfl rfl) (pa_cons (pv 0) pa_nil)) rfl) pa_nil)) (pa_cons (pe_lst (pa_cons (pe_fld (pe_mkat h_Given 0 (by decide) (hr.mono (by decide)) (by rfl) (takes_of rfl rfl rfl rfl) (pa_cons (pv 0) pa_nil)) rfl) pa_nil)) (pa_cons (pe_lst (pa_cons (pe_fld (pe_mkat h_RestWeights 0 (by decide) (hr.mono (by decide)) (by rfl) (takes_of rfl rfl rfl rfl) (pa_cons (pv 0) pa_nil)) rfl) pa_nil)) pa_nil)))))))
      (pss_cons (ps_set (i := 4) sc__law_answers.nd rfl (.inl rfl) (pe_op op_plus (pv 4) (pe_lst (pa_cons (pe_lst (pa_cons (pe_fld (pe_mkat h_RestHidden 0 (by decide) (hr.mono (by decide)) (by rfl) (takes_of rfl rfl rfl rfl) (pa_cons (pv 0) pa_nil)) rfl) pa_nil)) (pa_cons (pe_lst (pa_cons (pe_fld (pe_mkat h_Missing 0 (by decide) (hr.mono (by decide)) (by rfl) (takes_of rfl rfl rfl rfl) (pa_cons (pv 0) pa_nil)) rfl) pa_nil)) pa_nil)))))
      (pss_cons (ps_set (i := 4) sc__law_answers.nd rfl (.inl rfl) (pe_op op_plus (pv 4) (pe_lc (own := [("_law_e", 5)]) (tt := tYes) (te := (tLst (tCons (tFld K (tVar 5) "numbers") (tCons (tFld K (tVar 5) "filling") tNil)))) rfl sc__law_answers.nd (pi_seqS (pe_lst (pa_cons (pe_mkat h_Recovered 0 (by decide) (hr.mono (by decide)) (by rfl) (takes_of rfl rfl rfl rfl) (pa_cons (pv 0) (pa_cons (pv 1) pa_nil))) (pa_cons (pe_mkkw h_Recovered ["filling", "numbers"] [1, 0] (hr.mono (by decide)) (by rfl) (takes_of rfl rfl rfl rfl) (pk_cons (pv 1) (pk_cons (pv 0) pk_nil)) (fun _ _ _ _ _ _ us ws l1 l2 => match us, ws, l1, l2 with | [_], [_, _], _, _ => rfl)) pa_nil)))) (blkOk_by (N := N__law_answers) (sc := defScope st__law_answers) (by decide +kernel)) (fun _ _ _ _ _ => by exact (pg_name (i := 5) sc__law_answers.nd rfl (.inl rfl))) (fun _ _ _ _ _ => by exact pts_nil) (fun _ _ _ _ _ => by exact (pe_lst (pa_cons (pe_fld (pv 5) rfl) (pa_cons (pe_fld (pv 5) rfl) pa_nil)))))))
      (pss_cons (ps_set (i := 4) sc__law_answers.nd rfl (.inl rfl) (pe_op op_plus (pv 4) (pe_lc (own := [("_law_e", 5)]) (tt := tYes) (te := (tLst (tCons (tFld K (tVar 5) "answer") (tCons (tFld K (tVar 5) "numbers") tNil)))) rfl sc__law_answers.nd (pi_seqS (pe_lst (pa_cons (pe_mkat h_Parted 0 (by decide) (hr.mono (by decide)) (by rfl) (takes_of rfl rfl rfl rfl) (pa_cons (pv 0) (pa_cons (pv 1) pa_nil))) (pa_cons (pe_mkkw h_Parted ["numbers", "answer"] [1, 0] (hr.mono (by decide)) (by rfl) (takes_of rfl rfl rfl rfl) (pk_cons (pv 1) (pk_cons (pv 0) pk_nil)) (fun _ _ _ _ _ _ us ws l1 l2 => match us, ws, l1, l2 with | [_], [_, _], _, _ => rfl)) pa_nil)))) (blkOk_by (N := N__law_answers) (sc := defScope st__law_answers) (by decide +kernel)) (fun _ _ _ _ _ => by exact (pg_name (i := 5) sc__law_answers.nd rfl (.inl rfl))) (fun _ _ _ _ _ => by exact pts_nil) (fun _ _ _ _ _ => by exact (pe_lst (pa_cons (pe_fld (pv 5) rfl) (pa_cons (pe_fld (pv 5) rfl) pa_nil)))))))
      (pss_cons (ps_set (i := 4) sc__law_answers.nd rfl (.inl rfl) (pe_op op_plus (pv 4) (pe_lc (own := [("_law_e", 5)]) (tt := tYes) (te := (tLst (tCons (tFld K (tVar 5) "bottom") (tCons (tFld K (tVar 5) "weights") (tCons (tFld K (tVar 5) "numbers") tNil))))) rfl sc__law_answers.nd (pi_seqS (pe_lst (pa_cons (pe_mkat h_Whole 0 (by decide) (hr.mono (by decide)) (by rfl) (takes_of rfl rfl rfl rfl) (pa_cons (pv 0) (pa_cons (pv 1) (pa_cons (pv 2) pa_nil)))) (pa_cons (pe_mkkw h_Whole ["numbers", "weights", "bottom"] [2, 1, 0] (hr.mono (by decide)) (by rfl) (takes_of rfl rfl rfl rfl) (pk_cons (pv 2) (pk_cons (pv 1) (pk_cons (pv 0) pk_nil))) (fun _ _ _ _ _ _ us ws l1 l2 => match us, ws, l1, l2 with | [_], [_, _, _], _, _ => rfl)) pa_nil)))) (blkOk_by (N := N__law_answers) (sc := defScope st__law_answers) (by decide +kernel)) (fun _ _ _ _ _ => by exact (pg_name (i := 5) sc__law_answers.nd rfl (.inl rfl))) (fun _ _ _ _ _ => by exact pts_nil) (fun _ _ _ _ _ => by exact (pe_lst (pa_cons (pe_fld (pv 5) rfl) (pa_cons (pe_fld (pv 5) rfl) (pa_cons (pe_fld (pv 5) rfl) pa_nil))))))))
      (pss_cons (ps_set (i := 4) sc__law_answers.nd rfl (.inl rfl) (pe_op op_plus (pv 4) (pe_lc (own := [("_law_e", 5)]) (tt := tYes) (te := (tLst (tCons (tFld K (tVar 5) "row") (tCons (tFld K (tVar 5) "first") (tCons (tFld K (tVar 5) "second") tNil))))) rfl sc__law_answers.nd (pi_seqS (pe_lst (pa_cons (pe_mkat h_Meeting 0 (by decide) (hr.mono (by decide)) (by rfl) (takes_of rfl rfl rfl rfl) (pa_cons (pv 0) (pa_cons (pv 1) (pa_cons (pv 2) pa_nil)))) (pa_cons (pe_mkkw h_Meeting ["second", "first", "row"] [2, 1, 0] (hr.mono (by decide)) (by rfl) (takes_of rfl rfl rfl rfl) (pk_cons (pv 2) (pk_cons (pv 1) (pk_cons (pv 0) pk_nil))) (fun _ _ _ _ _ _ us ws l1 l2 => match us, ws, l1, l2 with | [_], [_, _, _], _, _ => rfl)) pa_nil)))) (blkOk_by (N := N__law_answers) (sc := defScope st__law_answers) (by decide +kernel)) (fun _ _ _ _ _ => by exact (pg_name (i := 5) sc__law_answers.nd rfl (.inl rfl))) (fun _ _ _ _ _ => by exact pts_nil) (fun _ _ _ _ _ => by exact (pe_lst (pa_cons (pe_fld (pv 5) rfl) (pa_cons (pe_fld (pv 5) rfl) (pa_cons (pe_fld (pv 5) rfl) pa_nil))))))))
      (pss_cons (ps_set (i := 4) sc__law_answers.nd rfl (.inl rfl) (pe_op op_plus (pv 4) (pe_lc (own := [("_law_e", 5)]) (tt := tYes) (te := (tLst (tCons (tFld K (tVar 5) "count") (tCons (tFld K (tVar 5) "row") tNil)))) rfl sc__law_answers.nd (pi_seqS (pe_lst (pa_cons (pe_mkat h_Fewest 0 (by decide) (hr.mono (by decide)) (by rfl) (takes_of rfl rfl rfl rfl) (pa_cons (pv 0) (pa_cons (pv 1) pa_nil))) (pa_cons (pe_mkkw h_Fewest ["row", "count"] [1, 0] (hr.mono (by decide)) (by rfl) (takes_of rfl rfl rfl rfl) (pk_cons (pv 1) (pk_cons (pv 0) pk_nil)) (fun _ _ _ _ _ _ us ws l1 l2 => match us, ws, l1, l2 with | [_], [_, _], _, _ => rfl)) pa_nil)))) (blkOk_by (N := N__law_answers) (sc := defScope st__law_answers) (by decide +kernel)) (fun _ _ _ _ _ => by exact (pg_name (i := 5) sc__law_answers.nd rfl (.inl rfl))) (fun _ _ _ _ _ => by exact pts_nil) (fun _ _ _ _ _ => by exact (pe_lst (pa_cons (pe_fld (pv 5) rfl) (pa_cons (pe_fld (pv 5) rfl) pa_nil)))))))
      (pss_cons (ps_set (i := 4) sc__law_answers.nd rfl (.inl rfl) (pe_op op_plus (pv 4) (pe_lc (own := [("_law_e", 5)]) (tt := tYes) (te := (tLst (tCons (tFld K (tVar 5) "row") (tCons (tFld K (tVar 5) "numbers") tNil)))) rfl sc__law_answers.nd (pi_seqS (pe_lst (pa_cons (pe_mkat h_Dependent 0 (by decide) (hr.mono (by decide)) (by rfl) (takes_of rfl rfl rfl rfl) (pa_cons (pv 0) (pa_cons (pv 1) pa_nil))) (pa_cons (pe_mkkw h_Dependent ["numbers", "row"] [1, 0] (hr.mono (by decide)) (by rfl) (takes_of rfl rfl rfl rfl) (pk_cons (pv 1) (pk_cons (pv 0) pk_nil)) (fun _ _ _ _ _ _ us ws l1 l2 => match us, ws, l1, l2 with | [_], [_, _], _, _ => rfl)) pa_nil)))) (blkOk_by (N := N__law_answers) (sc := defScope st__law_answers) (by decide +kernel)) (fun _ _ _ _ _ => by exact (pg_name (i := 5) sc__law_answers.nd rfl (.inl rfl))) (fun _ _ _ _ _ => by exact pts_nil) (fun _ _ _ _ _ => by exact (pe_lst (pa_cons (pe_fld (pv 5) rfl) (pa_cons (pe_fld (pv 5) rfl) pa_nil)))))))
      (pss_one (ps_ret (pe_gat h__law_all qa.dp (hr.mono (by decide)) (by rfl) (takes_of rfl rfl rfl rfl) (pa_cons (pv 4) (pa_cons (pv 3) pa_nil))))))))))))), (ss_cons (ss_asg (se_lst (sa_cons (se_lst (sa_cons (se_fld (f := "row") (fun C => hF C "row") (se_make (fun _ _ => .nil) (sa_cons se_var sa_nil))) sa_nil)) (sa_cons (se_lst (sa_cons (se_fld (f := "numbers") (fun C => hF C "numbers") (se_make (fun _ _ => .nil) (sa_cons se_var sa_nil))) sa_nil)) (sa_cons (se_lst (sa_cons (se_fld (f := "weights") (fun C => hF C "weights") (se_make (fun _ _ => .nil) (sa_cons se_var sa_nil))) sa_nil)) (sa_cons (se_lst (sa_cons (se_fld (f := "rows") (fun C => hF C "rows") (se_make (fun _ _ => .nil) (sa_cons se_var sa_nil))) sa_nil)) (sa_cons (se_lst (sa_cons (se_fld (f := "row") (fun C => hF C "row") (se_make (fun _ _ => .nil) (sa_cons se_var sa_nil))) sa_nil)) sa_nil)))))) tg_name)
      (ss_cons (ss_asg (se_op od_plus se_var (se_lst (sa_cons (se_lst (sa_cons (se_fld (f := "numbers") (fun C => hF C "numbers") (se_make (fun _ _ => .nil) (sa_cons se_var sa_nil))) sa_nil)) (sa_cons (se_lst (sa_cons (se_fld (f := "column") (fun C => hF C "column") (se_make (fun _ _ => .nil) (sa_cons se_var sa_nil))) sa_nil)) sa_nil)))) tg_name)
      (ss_cons (ss_asg (se_op od_plus se_var (se_comp (vs := [5]) (si_seq (se_lst (sa_cons (se_make (fun _ _ => .nil) (sa_cons se_var (sa_cons se_var sa_nil))) (sa_cons (se_makeK (sa_cons se_var (sa_cons se_var sa_nil))) sa_nil)))) (tw_name (by decide)) st_yes (se_lst (sa_cons (se_fld (f := "numbers") (fun C => hF C "numbers") se_var) (sa_cons (se_fld (f := "filling") (fun C => hF C "filling") se_var) sa_nil))))) tg_name)
      (ss_cons (ss_asg (se_op od_plus se_var (se_comp (vs := [5]) (si_seq (se_lst (sa_cons (se_make (fun _ _ => .nil) (sa_cons se_var (sa_cons se_var sa_nil))) (sa_cons (se_makeK (sa_cons se_var (sa_cons se_var sa_nil))) sa_nil)))) (tw_name (by decide)) st_yes (se_lst (sa_cons (se_fld (f := "answer") (fun C => hF C "answer") se_var) (sa_cons (se_fld (f := "numbers") (fun C => hF C "numbers") se_var) sa_nil))))) tg_name)
      (ss_cons (ss_asg (se_op od_plus se_var (se_comp (vs := [5]) (si_seq (se_lst (sa_cons (se_make (fun _ _ => .nil) (sa_cons se_var (sa_cons se_var (sa_cons se_var sa_nil)))) (sa_cons (se_makeK (sa_cons se_var (sa_cons se_var (sa_cons se_var sa_nil)))) sa_nil)))) (tw_name (by decide)) st_yes (se_lst (sa_cons (se_fld (f := "bottom") (fun C => hF C "bottom") se_var) (sa_cons (se_fld (f := "weights") (fun C => hF C "weights") se_var) (sa_cons (se_fld (f := "numbers") (fun C => hF C "numbers") se_var) sa_nil)))))) tg_name)
      (ss_cons (ss_asg (se_op od_plus se_var (se_comp (vs := [5]) (si_seq (se_lst (sa_cons (se_make (fun _ _ => .nil) (sa_cons se_var (sa_cons se_var (sa_cons se_var sa_nil)))) (sa_cons (se_makeK (sa_cons se_var (sa_cons se_var (sa_cons se_var sa_nil)))) sa_nil)))) (tw_name (by decide)) st_yes (se_lst (sa_cons (se_fld (f := "row") (fun C => hF C "row") se_var) (sa_cons (se_fld (f := "first") (fun C => hF C "first") se_var) (sa_cons (se_fld (f := "second") (fun C => hF C "second") se_var) sa_nil)))))) tg_name)
      (ss_cons (ss_asg (se_op od_plus se_var (se_comp (vs := [5]) (si_seq (se_lst (sa_cons (se_make (fun _ _ => .nil) (sa_cons se_var (sa_cons se_var sa_nil))) (sa_cons (se_makeK (sa_cons se_var (sa_cons se_var sa_nil))) sa_nil)))) (tw_name (by decide)) st_yes (se_lst (sa_cons (se_fld (f := "count") (fun C => hF C "count") se_var) (sa_cons (se_fld (f := "row") (fun C => hF C "row") se_var) sa_nil))))) tg_name)
      (ss_cons (ss_asg (se_op od_plus se_var (se_comp (vs := [5]) (si_seq (se_lst (sa_cons (se_make (fun _ _ => .nil) (sa_cons se_var (sa_cons se_var sa_nil))) (sa_cons (se_makeK (sa_cons se_var (sa_cons se_var sa_nil))) sa_nil)))) (tw_name (by decide)) st_yes (se_lst (sa_cons (se_fld (f := "row") (fun C => hF C "row") se_var) (sa_cons (se_fld (f := "numbers") (fun C => hF C "numbers") se_var) sa_nil))))) tg_name)
      (ss_ret (se_call (fun _ _ => .nil) (sa_cons se_var (sa_cons se_var sa_nil))))))))))))⟩
abbrev st__law_groups : Stmt := topS 78
abbrev N__law_groups : List Str := ["_law_a", "_law_b", "_law_c", "_law_d", "_law_things", "_law_rows", "_law_e"]
abbrev ps__law_groups : List Str := ["_law_a", "_law_b", "_law_c", "_law_d", "_law_things"]
theorem sc__law_groups : FnScope N__law_groups ps__law_groups (defScope st__law_groups) := ⟨rfl, rfl, rfl, by decide +kernel, rfl, by decide +kernel, by decide +kernel⟩
noncomputable def b__law_groups (ad : Str → Addr) : DSn := (dSeq (dAsg (dLst (dCons (dLst (dCons (dFld (cF ad) (dMake (ad "Ring") (dC_Ring ad) 2 [] (dCons (dVar 0) dNil)) "points") dNil)) (dCons (dLst (dCons (dFld (cF ad) (dMake (ad "Chain") (dC_Chain ad) 2 [] (dCons (dVar 0) dNil)) "cells") dNil)) dNil))) (dgName 5))
  (dSeq (dAsg (dOp fPlus (dVar 5) (dComp (dSeqI (dLst (dCons (dMake (ad "Piece") (dC_Piece ad) 4 [] (dCons (dVar 0) (dCons (dVar 1) (dCons (dVar 2) dNil)))) (dCons (dMakeK (ad "Piece") (dC_Piece ad) 4 3 [2, 1, 0] (dCons (dVar 2) (dCons (dVar 1) (dCons (dVar 0) dNil)))) dNil)))) (dgName 6) dYes (dLst (dCons (dFld (cF ad) (dVar 6) "points") (dCons (dFld (cF ad) (dVar 6) "ties") (dCons (dFld (cF ad) (dVar 6) "groups") dNil)))) [6])) (dgName 5))
  (dSeq (dAsg (dOp fPlus (dVar 5) (dComp (dSeqI (dLst (dCons (dMake (ad "Walk") (dC_Walk ad) 3 [] (dCons (dVar 0) (dCons (dVar 1) dNil))) (dCons (dMakeK (ad "Walk") (dC_Walk ad) 3 2 [1, 0] (dCons (dVar 1) (dCons (dVar 0) dNil))) dNil)))) (dgName 6) dYes (dLst (dCons (dFld (cF ad) (dVar 6) "points") (dCons (dFld (cF ad) (dVar 6) "groups") dNil))) [6])) (dgName 5))
  (dSeq (dAsg (dMake (ad "Balance") (dC_Balance ad) 5 [] (dCons (dVar 0) (dCons (dVar 1) (dCons (dVar 2) (dCons (dVar 3) dNil))))) (dgName 6))
  (dSeq (dDrop (dAppend (dVar 5) (dCons (dLst (dCons (dFld (cF ad) (dVar 6) "plus") (dCons (dFld (cF ad) (dVar 6) "minus") (dCons (dFld (cF ad) (dVar 6) "times") (dCons (dFld (cF ad) (dVar 6) "groups") dNil))))) dNil)))
  (dSeq (dAsg (dMakeK (ad "Balance") (dC_Balance ad) 5 4 [3, 2, 1, 0] (dCons (dVar 3) (dCons (dVar 2) (dCons (dVar 1) (dCons (dVar 0) dNil))))) (dgName 6))
  (dSeq (dDrop (dAppend (dVar 5) (dCons (dLst (dCons (dFld (cF ad) (dVar 6) "plus") (dCons (dFld (cF ad) (dVar 6) "minus") (dCons (dFld (cF ad) (dVar 6) "times") (dCons (dFld (cF ad) (dVar 6) "groups") dNil))))) dNil)))
  (dSeq (dAsg (dOp fPlus (dVar 5) (dComp (dSeqI (dLst (dCons (dMake (ad "Taken") (dC_Taken ad) 4 [] (dCons (dVar 0) (dCons (dVar 1) (dCons (dVar 2) dNil)))) (dCons (dMakeK (ad "Taken") (dC_Taken ad) 4 3 [2, 1, 0] (dCons (dVar 2) (dCons (dVar 1) (dCons (dVar 0) dNil)))) dNil)))) (dgName 6) dYes (dLst (dCons (dFld (cF ad) (dVar 6) "steps") (dCons (dFld (cF ad) (dVar 6) "turns") (dCons (dFld (cF ad) (dVar 6) "missing") dNil)))) [6])) (dgName 5))
  (dSeq (dAsg (dOp fPlus (dVar 5) (dComp (dSeqI (dLst (dCons (dMake (ad "Solved") (dC_Solved ad) 3 [] (dCons (dVar 0) (dCons (dVar 1) dNil))) (dCons (dMakeK (ad "Solved") (dC_Solved ad) 3 2 [1, 0] (dCons (dVar 1) (dCons (dVar 0) dNil))) dNil)))) (dgName 6) dYes (dLst (dCons (dFld (cF ad) (dVar 6) "steps") (dCons (dFld (cF ad) (dVar 6) "letters") dNil))) [6])) (dgName 5))
  (dSeq (dAsg (dOp fPlus (dVar 5) (dComp (dSeqI (dLst (dCons (dMake (ad "Ladder") (dC_Ladder ad) 5 [] (dCons (dVar 0) (dCons (dVar 1) (dCons (dVar 2) (dCons (dVar 3) dNil))))) (dCons (dMakeK (ad "Ladder") (dC_Ladder ad) 5 4 [3, 2, 1, 0] (dCons (dVar 3) (dCons (dVar 2) (dCons (dVar 1) (dCons (dVar 0) dNil))))) dNil)))) (dgName 6) dYes (dLst (dCons (dFld (cF ad) (dVar 6) "read") (dCons (dFld (cF ad) (dVar 6) "taken") (dCons (dFld (cF ad) (dVar 6) "solved") (dCons (dFld (cF ad) (dVar 6) "told") dNil))))) [6])) (dgName 5))
  (dSeq (dAsg (dOp fPlus (dVar 5) (dComp (dSeqI (dLst (dCons (dMake (ad "Core") (dC_Core ad) 3 [] (dCons (dVar 0) (dCons (dVar 1) dNil))) (dCons (dMakeK (ad "Core") (dC_Core ad) 3 2 [1, 0] (dCons (dVar 1) (dCons (dVar 0) dNil))) dNil)))) (dgName 6) dYes (dLst (dCons (dFld (cF ad) (dVar 6) "strikes") (dCons (dFld (cF ad) (dVar 6) "cells") dNil))) [6])) (dgName 5))
  (dSeq (dAsg (dMake (ad "Block") (dC_Block ad) 5 [] (dCons (dVar 0) (dCons (dVar 1) (dCons (dVar 2) (dCons (dVar 3) dNil))))) (dgName 6))
  (dSeq (dDrop (dAppend (dVar 5) (dCons (dLst (dCons (dFld (cF ad) (dVar 6) "rows") (dCons (dFld (cF ad) (dVar 6) "columns") (dCons (dFld (cF ad) (dVar 6) "places") (dCons (dFld (cF ad) (dVar 6) "most") dNil))))) dNil)))
  (dSeq (dAsg (dMakeK (ad "Block") (dC_Block ad) 5 4 [3, 2, 1, 0] (dCons (dVar 3) (dCons (dVar 2) (dCons (dVar 1) (dCons (dVar 0) dNil))))) (dgName 6))
  (dSeq (dDrop (dAppend (dVar 5) (dCons (dLst (dCons (dFld (cF ad) (dVar 6) "rows") (dCons (dFld (cF ad) (dVar 6) "columns") (dCons (dFld (cF ad) (dVar 6) "places") (dCons (dFld (cF ad) (dVar 6) "most") dNil))))) dNil)))
  (dSeq (dAsg (dMake (ad "LeastBoth") (dC_LeastBoth ad) 4 [] (dCons (dVar 0) (dCons (dVar 1) (dCons (dVar 2) dNil)))) (dgName 6))
  (dSeq (dDrop (dAppend (dVar 5) (dCons (dLst (dCons (dFld (cF ad) (dVar 6) "row_groups") (dCons (dFld (cF ad) (dVar 6) "column_groups") (dCons (dFld (cF ad) (dVar 6) "many") dNil)))) dNil)))
  (dRet (dCall d__law_all 2 [] (dCons (dVar 5) (dCons (dVar 4) dNil)))))))))))))))))))))
noncomputable def d__law_groups (ad : Str → Addr) : Den := dDef 7 false (b__law_groups ad)
theorem ok__law_groups (F : DefAt K mg "_law_groups" st__law_groups) (T : TB mg) (Sy : SysK K) (h__law_all : GnAt P w K mg base 1 "_law_all" 2 d__law_all)  (hF : ∀ C f, cF ad C f = true → Cls K C ∧ NoAttr K C f) (h_Balance : ClAt P w K mg base 1 "Balance" "Balance.__init__" stC_Balance (ad "Balance") psC_Balance [] (dC_Balance ad)) (h_Block : ClAt P w K mg base 1 "Block" "Block.__init__" stC_Block (ad "Block") psC_Block [] (dC_Block ad)) (h_Chain : ClAt P w K mg base 1 "Chain" "Chain.__init__" stC_Chain (ad "Chain") psC_Chain [] (dC_Chain ad)) (h_Core : ClAt P w K mg base 1 "Core" "Core.__init__" stC_Core (ad "Core") psC_Core [] (dC_Core ad)) (h_Ladder : ClAt P w K mg base 1 "Ladder" "Ladder.__init__" stC_Ladder (ad "Ladder") psC_Ladder [] (dC_Ladder ad)) (h_LeastBoth : ClAt P w K mg base 1 "LeastBoth" "LeastBoth.__init__" stC_LeastBoth (ad "LeastBoth") psC_LeastBoth [] (dC_LeastBoth ad)) (h_Piece : ClAt P w K mg base 1 "Piece" "Piece.__init__" stC_Piece (ad "Piece") psC_Piece [] (dC_Piece ad)) (h_Ring : ClAt P w K mg base 1 "Ring" "Ring.__init__" stC_Ring (ad "Ring") psC_Ring [] (dC_Ring ad)) (h_Solved : ClAt P w K mg base 1 "Solved" "Solved.__init__" stC_Solved (ad "Solved") psC_Solved [] (dC_Solved ad)) (h_Taken : ClAt P w K mg base 1 "Taken" "Taken.__init__" stC_Taken (ad "Taken") psC_Taken [] (dC_Taken ad)) (h_Walk : ClAt P w K mg base 1 "Walk" "Walk.__init__" stC_Walk (ad "Walk") psC_Walk [] (dC_Walk ad)) : GnAt P w K mg base 3 "_law_groups" 5 (d__law_groups ad) :=
  mkGn (N := N__law_groups) (ps := ps__law_groups) (own := false) (g := b__law_groups ad) (k := 2) F sc__law_groups (fun _ _ _ _ _ _ us hl => match us, hl with | [_, _, _, _, _], _ => rfl) fun f cdv A outer s H E qa hr => ⟨_, (pss_cons (ps_set (i := 5) sc__law_groups.nd rfl (.inl rfl) (pe_lst (pa_cons (pe_lst (pa_cons (pe_fld (pe_mkat h_Ring 0 (by decide) (hr.mono (by decide)) (by rfl) (takes_of rfl rfl rfl rfl) (pa_cons (pv 0) pa_nil)) rfl) pa_nil)) (pa_cons (pe_lst (pa_cons (pe_fld (pe_mkat h_Chain 0 (by decide) (hr.mono (by decide)) (by rfl) (takes_of rfl rfl rfl rfl) (pa_cons (pv 0) pa_nil)) rfl) pa_nil)) pa_nil))))
      (pss_cons (ps_set (i := 5) sc__law_groups.nd rfl (.inl rfl) (pe_op op_plus (pv 5) (pe_lc (own := [("_law_e", 6)]) (tt := tYes) (te := (tLst (tCons (tFld K (tVar 6) "points") (tCons (tFld K (tVar 6) "ties") (tCons (tFld K (tVar 6) "groups") tNil))))) rfl sc__law_groups.nd (pi_seqS (pe_lst (pa_cons (pe_mkat h_Piece 0 (by decide) (hr.mono (by decide)) (by rfl) (takes_of rfl rfl rfl rfl) (pa_cons (pv 0) (pa_cons (pv 1) (pa_cons (pv 2) pa_nil)))) (pa_cons (pe_mkkw h_Piece ["groups", "ties", "points"] [2, 1, 0] (hr.mono (by decide)) (by rfl) (takes_of rfl rfl rfl rfl) (pk_cons (pv 2) (pk_cons (pv 1) (pk_cons (pv 0) pk_nil))) (fun _ _ _ _ _ _ us ws l1 l2 => match us, ws, l1, l2 with | [_], [_, _, _], _, _ => rfl)) pa_nil)))) (blkOk_by (N := N__law_groups) (sc := defScope st__law_groups) (by decide +kernel)) (fun _ _ _ _ _ => by exact (pg_name (i := 6) sc__law_groups.nd rfl (.inl rfl))) (fun _ _ _ _ _ => by exact pts_nil) (fun _ _ _ _ _ => by exact (pe_lst (pa_cons (pe_fld (pv 6) rfl) (pa_cons (pe_fld (pv 6) rfl) (pa_cons (pe_fld (pv 6) rfl) pa_nil))))))))
      (pss_cons (ps_set (i := 5) sc__law_groups.nd rfl (.inl rfl) (pe_op op_plus (pv 5) (pe_lc (own := [("_law_e", 6)]) (tt := tYes) (te := (tLst (tCons (tFld K (tVar 6) "points") (tCons (tFld K (tVar 6) "groups") tNil)))) rfl sc__law_groups.nd (pi_seqS (pe_lst (pa_cons (pe_mkat h_Walk 0 (by decide) (hr.mono (by decide)) (by rfl) (takes_of rfl rfl rfl rfl) (pa_cons (pv 0) (pa_cons (pv 1) pa_nil))) (pa_cons (pe_mkkw h_Walk ["groups", "points"] [1, 0] (hr.mono (by decide)) (by rfl) (takes_of rfl rfl rfl rfl) (pk_cons (pv 1) (pk_cons (pv 0) pk_nil)) (fun _ _ _ _ _ _ us ws l1 l2 => match us, ws, l1, l2 with | [_], [_, _], _, _ => rfl)) pa_nil)))) (blkOk_by (N := N__law_groups) (sc := defScope st__law_groups) (by decide +kernel)) (fun _ _ _ _ _ => by exact (pg_name (i := 6) sc__law_groups.nd rfl (.inl rfl))) (fun _ _ _ _ _ => by exact pts_nil) (fun _ _ _ _ _ => by exact (pe_lst (pa_cons (pe_fld (pv 6) rfl) (pa_cons (pe_fld (pv 6) rfl) pa_nil)))))))
      (pss_cons (ps_set (i := 6) sc__law_groups.nd rfl (.inl rfl) (pe_mkat h_Balance 0 (by decide) (hr.mono (by decide)) (by rfl) (takes_of rfl rfl rfl rfl) (pa_cons (pv 0) (pa_cons (pv 1) (pa_cons (pv 2) (pa_cons (pv 3) pa_nil))))))
      (pss_cons (ps_expr (pe_bm PySem.F.plainAttrs_list PySem.F.slot_list_append PySem.F.type_list_append mt_append (pv 5) (pa_cons (pe_lst (pa_cons (pe_fld (pv 6) rfl) (pa_cons (pe_fld (pv 6) rfl) (pa_cons (pe_fld (pv 6) rfl) (pa_cons (pe_fld (pv 6) rfl) pa_nil))))) pa_nil)))
      (pss_cons (ps_set (i := 6) sc__law_groups.nd rfl (.inl rfl) (pe_mkkw h_Balance ["groups", "times", "minus", "plus"] [3, 2, 1, 0] (hr.mono (by decide)) (by rfl) (takes_of rfl rfl rfl rfl) (pk_cons (pv 3) (pk_cons (pv 2) (pk_cons (pv 1) (pk_cons (pv 0) pk_nil)))) (fun _ _ _ _ _ _ us ws l1 l2 => match us, ws, l1, l2 with | [_], [_, _, _, _], _, _ => rfl)))
      (pss_cons (ps_expr (pe_bm PySem.F.plainAttrs_list PySem.F.slot_list_append PySem.F.type_list_append mt_append (pv 5) (pa_cons (pe_lst (pa_cons (pe_fld (pv 6) rfl) (pa_cons (pe_fld (pv 6) rfl) (pa_cons (pe_fld (pv 6) rfl) (pa_cons (pe_fld (pv 6) rfl) pa_nil))))) pa_nil)))
      (pss_cons (ps_set (i := 5) sc__law_groups.nd rfl (.inl rfl) (pe_op op_plus (pv 5) (pe_lc (own := [("_law_e", 6)]) (tt := tYes) (te := (tLst (tCons (tFld K (tVar 6) "steps") (tCons (tFld K (tVar 6) "turns") (tCons (tFld K (tVar 6) "missing") tNil))))) rfl sc__law_groups.nd (pi_seqS (pe_lst (pa_cons (pe_mkat h_Taken 0 (by decide) (hr.mono (by decide)) (by rfl) (takes_of rfl rfl rfl rfl) (pa_cons (pv 0) (pa_cons (pv 1) (pa_cons (pv 2) pa_nil)))) (pa_cons (pe_mkkw h_Taken ["missing", "turns", "steps"] [2, 1, 0] (hr.mono (by decide)) (by rfl) (takes_of rfl rfl rfl rfl) (pk_cons (pv 2) (pk_cons (pv 1) (pk_cons (pv 0) pk_nil))) (fun _ _ _ _ _ _ us ws l1 l2 => match us, ws, l1, l2 with | [_], [_, _, _], _, _ => rfl)) pa_nil)))) (blkOk_by (N := N__law_groups) (sc := defScope st__law_groups) (by decide +kernel)) (fun _ _ _ _ _ => by exact (pg_name (i := 6) sc__law_groups.nd rfl (.inl rfl))) (fun _ _ _ _ _ => by exact pts_nil) (fun _ _ _ _ _ => by exact (pe_lst (pa_cons (pe_fld (pv 6) rfl) (pa_cons (pe_fld (pv 6) rfl) (pa_cons (pe_fld (pv 6) rfl) pa_nil))))))))
      (pss_cons (ps_set (i := 5) sc__law_groups.nd rfl (.inl rfl) (pe_op op_plus (pv 5) (pe_lc (own := [("_law_e", 6)]) (tt := tYes) (te := (tLst (tCons (tFld K (tVar 6) "steps") (tCons (tFld K (tVar 6) "letters") tNil)))) rfl sc__law_groups.nd (pi_seqS (pe_lst (pa_cons (pe_mkat h_Solved 0 (by decide) (hr.mono (by decide)) (by rfl) (takes_of rfl rfl rfl rfl) (pa_cons (pv 0) (pa_cons (pv 1) pa_nil))) (pa_cons (pe_mkkw h_Solved ["letters", "steps"] [1, 0] (hr.mono (by decide)) (by rfl) (takes_of rfl rfl rfl rfl) (pk_cons (pv 1) (pk_cons (pv 0) pk_nil)) (fun _ _ _ _ _ _ us ws l1 l2 => match us, ws, l1, l2 with | [_], [_, _], _, _ => rfl)) pa_nil)))) (blkOk_by (N := N__law_groups) (sc := defScope st__law_groups) (by decide +kernel)) (fun _ _ _ _ _ => by exact (pg_name (i := 6) sc__law_groups.nd rfl (.inl rfl))) (fun _ _ _ _ _ => by exact pts_nil) (fun _ _ _ _ _ => by exact (pe_lst (pa_cons (pe_fld (pv 6) rfl) (pa_cons (pe_fld (pv 6) rfl) pa_nil)))))))
      (pss_cons (ps_set (i := 5) sc__law_groups.nd rfl (.inl rfl) (pe_op op_plus (pv 5) (pe_lc (own := [("_law_e", 6)]) (tt := tYes) (te := (tLst (tCons (tFld K (tVar 6) "read") (tCons (tFld K (tVar 6) "taken") (tCons (tFld K (tVar 6) "solved") (tCons (tFld K (tVar 6) "told") tNil)))))) rfl sc__law_groups.nd (pi_seqS (pe_lst (pa_cons (pe_mkat h_Ladder 0 (by decide) (hr.mono (by decide)) (by rfl) (takes_of rfl rfl rfl rfl) (pa_cons (pv 0) (pa_cons (pv 1) (pa_cons (pv 2) (pa_cons (pv 3) pa_nil))))) (pa_cons (pe_mkkw h_Ladder ["told", "solved", "taken", "read"] [3, 2, 1, 0] (hr.mono (by decide)) (by rfl) (takes_of rfl rfl rfl rfl) (pk_cons (pv 3) (pk_cons (pv 2) (pk_cons (pv 1) (pk_cons (pv 0) pk_nil)))) (fun _ _ _ _ _ _ us ws l1 l2 => match us, ws, l1, l2 with | [_], [_, _, _, _], _, _ => rfl)) pa_nil)))) (blkOk_by (N := N__law_groups) (sc := defScope st__law_groups) (by decide +kernel)) (fun _ _ _ _ _ => by exact (pg_name (i := 6) sc__law_groups.nd rfl (.inl rfl))) (fun _ _ _ _ _ => by exact pts_nil) (fun _ _ _ _ _ => by exact (pe_lst (pa_cons (pe_fld (pv 6) rfl) (pa_cons (pe_fld (pv 6) rfl) (pa_cons (pe_fld (pv 6) rfl) (pa_cons (pe_fld (pv 6) rfl) pa_nil)))))))))
      (pss_cons (ps_set (i := 5) sc__law_groups.nd rfl (.inl rfl) (pe_op op_plus (pv 5) (pe_lc (own := [("_law_e", 6)]) (tt := tYes) (te := (tLst (tCons (tFld K (tVar 6) "strikes") (tCons (tFld K (tVar 6) "cells") tNil)))) rfl sc__law_groups.nd (pi_seqS (pe_lst (pa_cons (pe_mkat h_Core 0 (by decide) (hr.mono (by decide)) (by rfl) (takes_of rfl rfl rfl rfl) (pa_cons (pv 0) (pa_cons (pv 1) pa_nil))) (pa_cons (pe_mkkw h_Core ["cells", "strikes"] [1, 0] (hr.mono (by decide)) (by rfl) (takes_of rfl rfl rfl rfl) (pk_cons (pv 1) (pk_cons (pv 0) pk_nil)) (fun _ _ _ _ _ _ us ws l1 l2 => match us, ws, l1, l2 with | [_], [_, _], _, _ => rfl)) pa_nil)))) (blkOk_by (N := N__law_groups) (sc := defScope st__law_groups) (by decide +kernel)) (fun _ _ _ _ _ => by exact (pg_name (i := 6) sc__law_groups.nd rfl (.inl rfl))) (fun _ _ _ _ _ => by exact pts_nil) (fun _ _ _ _ _ => by exact (pe_lst (pa_cons (pe_fld (pv 6) rfl) (pa_cons (pe_fld (pv 6) rfl) pa_nil)))))))
      (pss_cons (ps_set (i := 6) sc__law_groups.nd rfl (.inl rfl) (pe_mkat h_Block 0 (by decide) (hr.mono (by decide)) (by rfl) (takes_of rfl rfl rfl rfl) (pa_cons (pv 0) (pa_cons (pv 1) (pa_cons (pv 2) (pa_cons (pv 3) pa_nil))))))
      (pss_cons (ps_expr (pe_bm PySem.F.plainAttrs_list PySem.F.slot_list_append PySem.F.type_list_append mt_append (pv 5) (pa_cons (pe_lst (pa_cons (pe_fld (pv 6) rfl) (pa_cons (pe_fld (pv 6) rfl) (pa_cons (pe_fld (pv 6) rfl) (pa_cons (pe_fld (pv 6) rfl) pa_nil))))) pa_nil)))
      (pss_cons (ps_set (i := 6) sc__law_groups.nd rfl (.inl rfl) (pe_mkkw h_Block ["most", "places", "columns", "rows"] [3, 2, 1, 0] (hr.mono (by decide)) (by rfl) (takes_of rfl rfl rfl rfl) (pk_cons (pv 3) (pk_cons (pv 2) (pk_cons (pv 1) (pk_cons (pv 0) pk_nil)))) (fun _ _ _ _ _ _ us ws l1 l2 => match us, ws, l1, l2 with | [_], [_, _, _, _], _, _ => rfl)))
      (pss_cons (ps_expr (pe_bm PySem.F.plainAttrs_list PySem.F.slot_list_append PySem.F.type_list_append mt_append (pv 5) (pa_cons (pe_lst (pa_cons (pe_fld (pv 6) rfl) (pa_cons (pe_fld (pv 6) rfl) (pa_cons (pe_fld (pv 6) rfl) (pa_cons (pe_fld (pv 6) rfl) pa_nil))))) pa_nil)))
      (pss_cons (ps_set (i := 6) sc__law_groups.nd rfl (.inl rfl) (pe_mkat h_LeastBoth 0 (by decide) (hr.mono (by decide)) (by rfl) (takes_of rfl rfl rfl rfl) (pa_cons (pv 0) (pa_cons (pv 1) (pa_cons (pv 2) pa_nil)))))
      (pss_cons (ps_expr (pe_bm PySem.F.plainAttrs_list PySem.F.slot_list_append PySem.F.type_list_append mt_append (pv 5) (pa_cons (pe_lst (pa_cons (pe_fld (pv 6) rfl) (pa_cons (pe_fld (pv 6) rfl) (pa_cons (pe_fld (pv 6) rfl) pa_nil)))) pa_nil)))
      (pss_one (ps_ret (pe_gat h__law_all qa.dp (hr.mono (by decide)) (by rfl) (takes_of rfl rfl rfl rfl) (pa_cons (pv 5) (pa_cons (pv 4) pa_nil)))))))))))))))))))))), (ss_cons (ss_asg (se_lst (sa_cons (se_lst (sa_cons (se_fld (f := "points") (fun C => hF C "points") (se_make (fun _ _ => .nil) (sa_cons se_var sa_nil))) sa_nil)) (sa_cons (se_lst (sa_cons (se_fld (f := "cells") (fun C => hF C "cells") (se_make (fun _ _ => .nil) (sa_cons se_var sa_nil))) sa_nil)) sa_nil))) tg_name)
      (ss_cons (ss_asg (se_op od_plus se_var (se_comp (vs := [6]) (si_seq (se_lst (sa_cons (se_make (fun _ _ => .nil) (sa_cons se_var (sa_cons se_var (sa_cons se_var sa_nil)))) (sa_cons (se_makeK (sa_cons se_var (sa_cons se_var (sa_cons se_var sa_nil)))) sa_nil)))) (tw_name (by decide)) st_yes (se_lst (sa_cons (se_fld (f := "points") (fun C => hF C "points") se_var) (sa_cons (se_fld (f := "ties") (fun C => hF C "ties") se_var) (sa_cons (se_fld (f := "groups") (fun C => hF C "groups") se_var) sa_nil)))))) tg_name)
      (ss_cons (ss_asg (se_op od_plus se_var (se_comp (vs := [6]) (si_seq (se_lst (sa_cons (se_make (fun _ _ => .nil) (sa_cons se_var (sa_cons se_var sa_nil))) (sa_cons (se_makeK (sa_cons se_var (sa_cons se_var sa_nil))) sa_nil)))) (tw_name (by decide)) st_yes (se_lst (sa_cons (se_fld (f := "points") (fun C => hF C "points") se_var) (sa_cons (se_fld (f := "groups") (fun C => hF C "groups") se_var) sa_nil))))) tg_name)
      (ss_cons (ss_asg (se_make (fun _ _ => .nil) (sa_cons se_var (sa_cons se_var (sa_cons se_var (sa_cons se_var sa_nil))))) tg_name)
      (ss_cons (ss_drop (se_append se_var (sa_cons (se_lst (sa_cons (se_fld (f := "plus") (fun C => hF C "plus") se_var) (sa_cons (se_fld (f := "minus") (fun C => hF C "minus") se_var) (sa_cons (se_fld (f := "times") (fun C => hF C "times") se_var) (sa_cons (se_fld (f := "groups") (fun C => hF C "groups") se_var) sa_nil))))) sa_nil)))
      (ss_cons (ss_asg (se_makeK (sa_cons se_var (sa_cons se_var (sa_cons se_var (sa_cons se_var sa_nil))))) tg_name)
      (ss_cons (ss_drop (se_append se_var (sa_cons (se_lst (sa_cons (se_fld (f := "plus") (fun C => hF C "plus") se_var) (sa_cons (se_fld (f := "minus") (fun C => hF C "minus") se_var) (sa_cons (se_fld (f := "times") (fun C => hF C "times") se_var) (sa_cons (se_fld (f := "groups") (fun C => hF C "groups") se_var) sa_nil))))) sa_nil)))
      (ss_cons (ss_asg (se_op od_plus se_var (se_comp (vs := [6]) (si_seq (se_lst (sa_cons (se_make (fun _ _ => .nil) (sa_cons se_var (sa_cons se_var (sa_cons se_var sa_nil)))) (sa_cons (se_makeK (sa_cons se_var (sa_cons se_var (sa_cons se_var sa_nil)))) sa_nil)))) (tw_name (by decide)) st_yes (se_lst (sa_cons (se_fld (f := "steps") (fun C => hF C "steps") se_var) (sa_cons (se_fld (f := "turns") (fun C => hF C "turns") se_var) (sa_cons (se_fld (f := "missing") (fun C => hF C "missing") se_var) sa_nil)))))) tg_name)
      (ss_cons (ss_asg (se_op od_plus se_var (se_comp (vs := [6]) (si_seq (se_lst (sa_cons (se_make (fun _ _ => .nil) (sa_cons se_var (sa_cons se_var sa_nil))) (sa_cons (se_makeK (sa_cons se_var (sa_cons se_var sa_nil))) sa_nil)))) (tw_name (by decide)) st_yes (se_lst (sa_cons (se_fld (f := "steps") (fun C => hF C "steps") se_var) (sa_cons (se_fld (f := "letters") (fun C => hF C "letters") se_var) sa_nil))))) tg_name)
      (ss_cons (ss_asg (se_op od_plus se_var (se_comp (vs := [6]) (si_seq (se_lst (sa_cons (se_make (fun _ _ => .nil) (sa_cons se_var (sa_cons se_var (sa_cons se_var (sa_cons se_var sa_nil))))) (sa_cons (se_makeK (sa_cons se_var (sa_cons se_var (sa_cons se_var (sa_cons se_var sa_nil))))) sa_nil)))) (tw_name (by decide)) st_yes (se_lst (sa_cons (se_fld (f := "read") (fun C => hF C "read") se_var) (sa_cons (se_fld (f := "taken") (fun C => hF C "taken") se_var) (sa_cons (se_fld (f := "solved") (fun C => hF C "solved") se_var) (sa_cons (se_fld (f := "told") (fun C => hF C "told") se_var) sa_nil))))))) tg_name)
      (ss_cons (ss_asg (se_op od_plus se_var (se_comp (vs := [6]) (si_seq (se_lst (sa_cons (se_make (fun _ _ => .nil) (sa_cons se_var (sa_cons se_var sa_nil))) (sa_cons (se_makeK (sa_cons se_var (sa_cons se_var sa_nil))) sa_nil)))) (tw_name (by decide)) st_yes (se_lst (sa_cons (se_fld (f := "strikes") (fun C => hF C "strikes") se_var) (sa_cons (se_fld (f := "cells") (fun C => hF C "cells") se_var) sa_nil))))) tg_name)
      (ss_cons (ss_asg (se_make (fun _ _ => .nil) (sa_cons se_var (sa_cons se_var (sa_cons se_var (sa_cons se_var sa_nil))))) tg_name)
      (ss_cons (ss_drop (se_append se_var (sa_cons (se_lst (sa_cons (se_fld (f := "rows") (fun C => hF C "rows") se_var) (sa_cons (se_fld (f := "columns") (fun C => hF C "columns") se_var) (sa_cons (se_fld (f := "places") (fun C => hF C "places") se_var) (sa_cons (se_fld (f := "most") (fun C => hF C "most") se_var) sa_nil))))) sa_nil)))
      (ss_cons (ss_asg (se_makeK (sa_cons se_var (sa_cons se_var (sa_cons se_var (sa_cons se_var sa_nil))))) tg_name)
      (ss_cons (ss_drop (se_append se_var (sa_cons (se_lst (sa_cons (se_fld (f := "rows") (fun C => hF C "rows") se_var) (sa_cons (se_fld (f := "columns") (fun C => hF C "columns") se_var) (sa_cons (se_fld (f := "places") (fun C => hF C "places") se_var) (sa_cons (se_fld (f := "most") (fun C => hF C "most") se_var) sa_nil))))) sa_nil)))
      (ss_cons (ss_asg (se_make (fun _ _ => .nil) (sa_cons se_var (sa_cons se_var (sa_cons se_var sa_nil)))) tg_name)
      (ss_cons (ss_drop (se_append se_var (sa_cons (se_lst (sa_cons (se_fld (f := "row_groups") (fun C => hF C "row_groups") se_var) (sa_cons (se_fld (f := "column_groups") (fun C => hF C "column_groups") se_var) (sa_cons (se_fld (f := "many") (fun C => hF C "many") se_var) sa_nil)))) sa_nil)))
      (ss_ret (se_call (fun _ _ => .nil) (sa_cons se_var (sa_cons se_var sa_nil)))))))))))))))))))))⟩
abbrev st__law_bounds : Stmt := topS 79
abbrev N__law_bounds : List Str := ["_law_a", "_law_b", "_law_c", "_law_d", "_law_things", "_law_made", "_law_e", "_law_rows"]
abbrev ps__law_bounds : List Str := ["_law_a", "_law_b", "_law_c", "_law_d", "_law_things"]
theorem sc__law_bounds : FnScope N__law_bounds ps__law_bounds (defScope st__law_bounds) := ⟨rfl, rfl, rfl, by decide +kernel, rfl, by decide +kernel, by decide +kernel⟩
noncomputable def b__law_bounds (ad : Str → Addr) : DSn := (dSeq (dAsg (dLst (dCons (dMake (ad "Bounds") (dC_Bounds ad) 8 [] (dCons (dVar 0) (dCons (dVar 1) (dCons (dVar 2) (dCons (dVar 3) (dCons (dVar 0) (dCons (dVar 1) (dCons (dVar 2) dNil)))))))) (dCons (dMakeK (ad "Bounds") (dC_Bounds ad) 8 7 [6, 5, 4, 3, 2, 1, 0] (dCons (dVar 2) (dCons (dVar 1) (dCons (dVar 0) (dCons (dVar 3) (dCons (dVar 2) (dCons (dVar 1) (dCons (dVar 0) dNil)))))))) dNil))) (dgName 5))
  (dSeq (dFor (dSeqI (dVar 5)) (dgName 6) (dIfS (dTest (dOp (fEq true) (dCB (f1 fRepr) (dCons (dLst (dCons (dFld (cF ad) (dVar 6) "low") (dCons (dFld (cF ad) (dVar 6) "low_budget") (dCons (dFld (cF ad) (dVar 6) "blocks") (dCons (dFld (cF ad) (dVar 6) "high") (dCons (dFld (cF ad) (dVar 6) "high_budget") (dCons (dFld (cF ad) (dVar 6) "cored") (dCons (dFld (cF ad) (dVar 6) "cored_budget") dNil)))))))) dNil)) (dCB (f1 fRepr) (dCons (dLst (dCons (dVar 0) (dCons (dVar 1) (dCons (dVar 2) (dCons (dVar 3) (dCons (dVar 0) (dCons (dVar 1) (dCons (dVar 2) dNil)))))))) dNil)))) (dRet (dC (.bl false))) dNext))
  (dSeq (dAsg (dLst (dCons (dMake (ad "Bent") (dC_Bent ad) 7 [] (dCons (dVar 0) (dCons (dVar 1) (dCons (dVar 2) (dCons (dVar 3) (dCons (dVar 0) (dCons (dVar 1) dNil))))))) (dCons (dMakeK (ad "Bent") (dC_Bent ad) 7 6 [5, 4, 3, 2, 1, 0] (dCons (dVar 1) (dCons (dVar 0) (dCons (dVar 3) (dCons (dVar 2) (dCons (dVar 1) (dCons (dVar 0) dNil))))))) dNil))) (dgName 5))
  (dSeq (dFor (dSeqI (dVar 5)) (dgName 6) (dIfS (dTest (dOp (fEq true) (dCB (f1 fRepr) (dCons (dLst (dCons (dFld (cF ad) (dVar 6) "spots") (dCons (dFld (cF ad) (dVar 6) "along") (dCons (dFld (cF ad) (dVar 6) "back") (dCons (dFld (cF ad) (dVar 6) "bends") (dCons (dFld (cF ad) (dVar 6) "answer") (dCons (dFld (cF ad) (dVar 6) "products") dNil))))))) dNil)) (dCB (f1 fRepr) (dCons (dLst (dCons (dVar 0) (dCons (dVar 1) (dCons (dVar 2) (dCons (dVar 3) (dCons (dVar 0) (dCons (dVar 1) dNil))))))) dNil)))) (dRet (dC (.bl false))) dNext))
  (dSeq (dAsg (dComp (dSeqI (dLst (dCons (dMake (ad "Run") (dC_Run ad) 5 [] (dCons (dVar 0) (dCons (dVar 1) (dCons (dVar 2) (dCons (dVar 3) dNil))))) (dCons (dMakeK (ad "Run") (dC_Run ad) 5 4 [3, 2, 1, 0] (dCons (dVar 3) (dCons (dVar 2) (dCons (dVar 1) (dCons (dVar 0) dNil))))) dNil)))) (dgName 6) dYes (dLst (dCons (dFld (cF ad) (dVar 6) "spots") (dCons (dFld (cF ad) (dVar 6) "slopes") (dCons (dFld (cF ad) (dVar 6) "answer") (dCons (dFld (cF ad) (dVar 6) "products") dNil))))) [6]) (dgName 7))
  (dSeq (dAsg (dOp fPlus (dVar 7) (dComp (dSeqI (dLst (dCons (dMake (ad "RunTable") (dC_RunTable ad) 3 [] (dCons (dVar 0) (dCons (dVar 1) dNil))) (dCons (dMakeK (ad "RunTable") (dC_RunTable ad) 3 2 [1, 0] (dCons (dVar 1) (dCons (dVar 0) dNil))) dNil)))) (dgName 6) dYes (dLst (dCons (dFld (cF ad) (dVar 6) "rows") (dCons (dFld (cF ad) (dVar 6) "products") dNil))) [6])) (dgName 7))
  (dSeq (dAsg (dOp fPlus (dVar 7) (dComp (dSeqI (dLst (dCons (dMake (ad "Parts") (dC_Parts ad) 3 [] (dCons (dVar 0) (dCons (dVar 1) dNil))) (dCons (dMakeK (ad "Parts") (dC_Parts ad) 3 2 [1, 0] (dCons (dVar 1) (dCons (dVar 0) dNil))) dNil)))) (dgName 6) dYes (dLst (dCons (dFld (cF ad) (dVar 6) "base") (dCons (dFld (cF ad) (dVar 6) "lots") dNil))) [6])) (dgName 7))
  (dRet (dCall d__law_all 2 [] (dCons (dOp fPlus (dVar 7) (dLst (dCons (dLst (dCons (dFld (cF ad) (dMake (ad "Apart") (dC_Apart ad) 2 [] (dCons (dVar 0) dNil)) "terms") dNil)) dNil))) (dCons (dVar 4) dNil)))))))))))
noncomputable def d__law_bounds (ad : Str → Addr) : Den := dDef 8 false (b__law_bounds ad)
theorem ok__law_bounds (F : DefAt K mg "_law_bounds" st__law_bounds) (T : TB mg) (Sy : SysK K) (h__law_all : GnAt P w K mg base 1 "_law_all" 2 d__law_all)  (hF : ∀ C f, cF ad C f = true → Cls K C ∧ NoAttr K C f) (h_Apart : ClAt P w K mg base 1 "Apart" "Apart.__init__" stC_Apart (ad "Apart") psC_Apart [] (dC_Apart ad)) (h_Bent : ClAt P w K mg base 1 "Bent" "Bent.__init__" stC_Bent (ad "Bent") psC_Bent [] (dC_Bent ad)) (h_Bounds : ClAt P w K mg base 1 "Bounds" "Bounds.__init__" stC_Bounds (ad "Bounds") psC_Bounds [] (dC_Bounds ad)) (h_Parts : ClAt P w K mg base 1 "Parts" "Parts.__init__" stC_Parts (ad "Parts") psC_Parts [] (dC_Parts ad)) (h_Run : ClAt P w K mg base 1 "Run" "Run.__init__" stC_Run (ad "Run") psC_Run [] (dC_Run ad)) (h_RunTable : ClAt P w K mg base 1 "RunTable" "RunTable.__init__" stC_RunTable (ad "RunTable") psC_RunTable [] (dC_RunTable ad)) : GnAt P w K mg base 3 "_law_bounds" 5 (d__law_bounds ad) :=
  mkGn (N := N__law_bounds) (ps := ps__law_bounds) (own := false) (g := b__law_bounds ad) (k := 2) F sc__law_bounds (fun _ _ _ _ _ _ us hl => match us, hl with | [_, _, _, _, _], _ => rfl) fun f cdv A outer s H E qa hr => ⟨_, (pss_cons (ps_set (i := 5) sc__law_bounds.nd rfl (.inl rfl) (pe_lst (pa_cons (pe_mkat h_Bounds 0 (by decide) (hr.mono (by decide)) (by rfl) (takes_of rfl rfl rfl rfl) (pa_cons (pv 0) (pa_cons (pv 1) (pa_cons (pv 2) (pa_cons (pv 3) (pa_cons (pv 0) (pa_cons (pv 1) (pa_cons (pv 2) pa_nil)))))))) (pa_cons (pe_mkkw h_Bounds ["cored_budget", "cored", "high_budget", "high", "blocks", "low_budget", "low"] [6, 5, 4, 3, 2, 1, 0] (hr.mono (by decide)) (by rfl) (takes_of rfl rfl rfl rfl) (pk_cons (pv 2) (pk_cons (pv 1) (pk_cons (pv 0) (pk_cons (pv 3) (pk_cons (pv 2) (pk_cons (pv 1) (pk_cons (pv 0) pk_nil))))))) (fun _ _ _ _ _ _ us ws l1 l2 => match us, ws, l1, l2 with | [_], [_, _, _, _, _, _, _], _, _ => rfl)) pa_nil))))
      (pss_cons (ps_for (passes_of rfl) rfl (pi_seqS (pv 5)) (pg_name (i := 6) sc__law_bounds.nd rfl (.inl rfl)) (pss_one (ps_if (pt_cmpR (op_neP (Room.units hr)) (pe_callB (call_reprD Sy qa.dp (Room.units hr)) (by rfl) T.repr (by decide +kernel) (pa_cons (pe_lst (pa_cons (pe_fld (pv 6) rfl) (pa_cons (pe_fld (pv 6) rfl) (pa_cons (pe_fld (pv 6) rfl) (pa_cons (pe_fld (pv 6) rfl) (pa_cons (pe_fld (pv 6) rfl) (pa_cons (pe_fld (pv 6) rfl) (pa_cons (pe_fld (pv 6) rfl) pa_nil)))))))) pa_nil)) (pe_callB (call_reprD Sy qa.dp (Room.units hr)) (by rfl) T.repr (by decide +kernel) (pa_cons (pe_lst (pa_cons (pv 0) (pa_cons (pv 1) (pa_cons (pv 2) (pa_cons (pv 3) (pa_cons (pv 0) (pa_cons (pv 1) (pa_cons (pv 2) pa_nil)))))))) pa_nil)) (nomark _)) (pss_one (ps_ret pe_bl)) pss_nil)))
      (pss_cons (ps_set (i := 5) sc__law_bounds.nd rfl (.inl rfl) (pe_lst (pa_cons (pe_mkat h_Bent 0 (by decide) (hr.mono (by decide)) (by rfl) (takes_of rfl rfl rfl rfl) (pa_cons (pv 0) (pa_cons (pv 1) (pa_cons (pv 2) (pa_cons (pv 3) (pa_cons (pv 0) (pa_cons (pv 1) pa_nil))))))) (pa_cons (pe_mkkw h_Bent ["products", "answer", "bends", "back", "along", "spots"] [5, 4, 3, 2, 1, 0] (hr.mono (by decide)) (by rfl) (takes_of rfl rfl rfl rfl) (pk_cons (pv 1) (pk_cons (pv 0) (pk_cons (pv 3) (pk_cons (pv 2) (pk_cons (pv 1) (pk_cons (pv 0) pk_nil)))))) (fun _ _ _ _ _ _ us ws l1 l2 => match us, ws, l1, l2 with | [_], [_, _, _, _, _, _], _, _ => rfl)) pa_nil))))
      (pss_cons (ps_for (passes_of rfl) rfl (pi_seqS (pv 5)) (pg_name (i := 6) sc__law_bounds.nd rfl (.inl rfl)) (pss_one (ps_if (pt_cmpR (op_neP (Room.units hr)) (pe_callB (call_reprD Sy qa.dp (Room.units hr)) (by rfl) T.repr (by decide +kernel) (pa_cons (pe_lst (pa_cons (pe_fld (pv 6) rfl) (pa_cons (pe_fld (pv 6) rfl) (pa_cons (pe_fld (pv 6) rfl) (pa_cons (pe_fld (pv 6) rfl) (pa_cons (pe_fld (pv 6) rfl) (pa_cons (pe_fld (pv 6) rfl) pa_nil))))))) pa_nil)) (pe_callB (call_reprD Sy qa.dp (Room.units hr)) (by rfl) T.repr (by decide +kernel) (pa_cons (pe_lst (pa_cons (pv 0) (pa_cons (pv 1) (pa_cons (pv 2) (pa_cons (pv 3) (pa_cons (pv 0) (pa_cons (pv 1) pa_nil))))))) pa_nil)) (nomark _)) (pss_one (ps_ret pe_bl)) pss_nil)))
      (pss_cons (ps_setLc (i := 7) (own := [("_law_e", 6)]) (tt := tYes) (te := (tLst (tCons (tFld K (tVar 6) "spots") (tCons (tFld K (tVar 6) "slopes") (tCons (tFld K (tVar 6) "answer") (tCons (tFld K (tVar 6) "products") tNil)))))) rfl sc__law_bounds.nd rfl rfl (sw_true rfl rfl rfl (by decide +kernel)) (pi_seqS (pe_lst (pa_cons (pe_mkat h_Run 0 (by decide) (hr.mono (by decide)) (by rfl) (takes_of rfl rfl rfl rfl) (pa_cons (pv 0) (pa_cons (pv 1) (pa_cons (pv 2) (pa_cons (pv 3) pa_nil))))) (pa_cons (pe_mkkw h_Run ["products", "answer", "slopes", "spots"] [3, 2, 1, 0] (hr.mono (by decide)) (by rfl) (takes_of rfl rfl rfl rfl) (pk_cons (pv 3) (pk_cons (pv 2) (pk_cons (pv 1) (pk_cons (pv 0) pk_nil)))) (fun _ _ _ _ _ _ us ws l1 l2 => match us, ws, l1, l2 with | [_], [_, _, _, _], _, _ => rfl)) pa_nil)))) (blkOk_by (N := N__law_bounds) (sc := defScope st__law_bounds) (by decide +kernel)) (fun _ _ _ _ _ => by exact (pg_name (i := 6) sc__law_bounds.nd rfl (.inl rfl))) (fun _ _ _ _ _ => by exact pts_nil) (fun _ _ _ _ _ => by exact (pe_lst (pa_cons (pe_fld (pv 6) rfl) (pa_cons (pe_fld (pv 6) rfl) (pa_cons (pe_fld (pv 6) rfl) (pa_cons (pe_fld (pv 6) rfl) pa_nil)))))))
      (pss_cons (ps_set (i := 7) sc__law_bounds.nd rfl (.inl rfl) (pe_op op_plus (pv 7) (pe_lc (own := [("_law_e", 6)]) (tt := tYes) (te := (tLst (tCons (tFld K (tVar 6) "rows") (tCons (tFld K (tVar 6) "products") tNil)))) rfl sc__law_bounds.nd (pi_seqS (pe_lst (pa_cons (pe_mkat h_RunTable 0 (by decide) (hr.mono (by decide)) (by rfl) (takes_of rfl rfl rfl rfl) (pa_cons (pv 0) (pa_cons (pv 1) pa_nil))) (pa_cons (pe_mkkw h_RunTable ["products", "rows"] [1, 0] (hr.mono (by decide)) (by rfl) (takes_of rfl rfl rfl rfl) (pk_cons (pv 1) (pk_cons (pv 0) pk_nil)) (fun _ _ _ _ _ _ us ws l1 l2 => match us, ws, l1, l2 with | [_], [_, _], _, _ => rfl)) pa_nil)))) (blkOk_by (N := N__law_bounds) (sc := defScope st__law_bounds) (by decide +kernel)) (fun _ _ _ _ _ => by exact (pg_name (i := 6) sc__law_bounds.nd rfl (.inl rfl))) (fun _ _ _ _ _ => by exact pts_nil) (fun _ _ _ _ _ => by exact (pe_lst (pa_cons (pe_fld (pv 6) rfl) (pa_cons (pe_fld (pv 6) rfl) pa_nil)))))))
      (pss_cons (ps_set (i := 7) sc__law_bounds.nd rfl (.inl rfl) (pe_op op_plus (pv 7) (pe_lc (own := [("_law_e", 6)]) (tt := tYes) (te := (tLst (tCons (tFld K (tVar 6) "base") (tCons (tFld K (tVar 6) "lots") tNil)))) rfl sc__law_bounds.nd (pi_seqS (pe_lst (pa_cons (pe_mkat h_Parts 0 (by decide) (hr.mono (by decide)) (by rfl) (takes_of rfl rfl rfl rfl) (pa_cons (pv 0) (pa_cons (pv 1) pa_nil))) (pa_cons (pe_mkkw h_Parts ["lots", "base"] [1, 0] (hr.mono (by decide)) (by rfl) (takes_of rfl rfl rfl rfl) (pk_cons (pv 1) (pk_cons (pv 0) pk_nil)) (fun _ _ _ _ _ _ us ws l1 l2 => match us, ws, l1, l2 with | [_], [_, _], _, _ => rfl)) pa_nil)))) (blkOk_by (N := N__law_bounds) (sc := defScope st__law_bounds) (by decide +kernel)) (fun _ _ _ _ _ => by exact (pg_name (i := 6) sc__law_bounds.nd rfl (.inl rfl))) (fun _ _ _ _ _ => by exact pts_nil) (fun _ _ _ _ _ => by exact (pe_lst (pa_cons (pe_fld (pv 6) rfl) (pa_cons (pe_fld (pv 6) rfl) pa_nil)))))))
      (pss_one (ps_ret (pe_gat h__law_all qa.dp (hr.mono (by decide)) (by rfl) (takes_of rfl rfl rfl rfl) (pa_cons (pe_op op_plus (pv 7) (pe_lst (pa_cons (pe_lst (pa_cons (pe_fld (pe_mkat h_Apart 0 (by decide) (hr.mono (by decide)) (by rfl) (takes_of rfl rfl rfl rfl) (pa_cons (pv 0) pa_nil)) rfl) pa_nil)) pa_nil))) (pa_cons (pv 4) pa_nil)))))))))))), (ss_cons (ss_asg (se_lst (sa_cons (se_make (fun _ _ => .nil) (sa_cons se_var (sa_cons se_var (sa_cons se_var (sa_cons se_var (sa_cons se_var (sa_cons se_var (sa_cons se_var sa_nil)))))))) (sa_cons (se_makeK (sa_cons se_var (sa_cons se_var (sa_cons se_var (sa_cons se_var (sa_cons se_var (sa_cons se_var (sa_cons se_var sa_nil)))))))) sa_nil))) tg_name)
      (ss_cons (ss_for (si_seq se_var) tg_name (ss_if (st_test (se_op od_eq (se_cb cd_repr (sa_cons (se_lst (sa_cons (se_fld (f := "low") (fun C => hF C "low") se_var) (sa_cons (se_fld (f := "low_budget") (fun C => hF C "low_budget") se_var) (sa_cons (se_fld (f := "blocks") (fun C => hF C "blocks") se_var) (sa_cons (se_fld (f := "high") (fun C => hF C "high") se_var) (sa_cons (se_fld (f := "high_budget") (fun C => hF C "high_budget") se_var) (sa_cons (se_fld (f := "cored") (fun C => hF C "cored") se_var) (sa_cons (se_fld (f := "cored_budget") (fun C => hF C "cored_budget") se_var) sa_nil)))))))) sa_nil)) (se_cb cd_repr (sa_cons (se_lst (sa_cons se_var (sa_cons se_var (sa_cons se_var (sa_cons se_var (sa_cons se_var (sa_cons se_var (sa_cons se_var sa_nil)))))))) sa_nil)))) (ss_ret se_bl) ss_nil))
      (ss_cons (ss_asg (se_lst (sa_cons (se_make (fun _ _ => .nil) (sa_cons se_var (sa_cons se_var (sa_cons se_var (sa_cons se_var (sa_cons se_var (sa_cons se_var sa_nil))))))) (sa_cons (se_makeK (sa_cons se_var (sa_cons se_var (sa_cons se_var (sa_cons se_var (sa_cons se_var (sa_cons se_var sa_nil))))))) sa_nil))) tg_name)
      (ss_cons (ss_for (si_seq se_var) tg_name (ss_if (st_test (se_op od_eq (se_cb cd_repr (sa_cons (se_lst (sa_cons (se_fld (f := "spots") (fun C => hF C "spots") se_var) (sa_cons (se_fld (f := "along") (fun C => hF C "along") se_var) (sa_cons (se_fld (f := "back") (fun C => hF C "back") se_var) (sa_cons (se_fld (f := "bends") (fun C => hF C "bends") se_var) (sa_cons (se_fld (f := "answer") (fun C => hF C "answer") se_var) (sa_cons (se_fld (f := "products") (fun C => hF C "products") se_var) sa_nil))))))) sa_nil)) (se_cb cd_repr (sa_cons (se_lst (sa_cons se_var (sa_cons se_var (sa_cons se_var (sa_cons se_var (sa_cons se_var (sa_cons se_var sa_nil))))))) sa_nil)))) (ss_ret se_bl) ss_nil))
      (ss_cons (ss_asg (se_comp (vs := [6]) (si_seq (se_lst (sa_cons (se_make (fun _ _ => .nil) (sa_cons se_var (sa_cons se_var (sa_cons se_var (sa_cons se_var sa_nil))))) (sa_cons (se_makeK (sa_cons se_var (sa_cons se_var (sa_cons se_var (sa_cons se_var sa_nil))))) sa_nil)))) (tw_name (by decide)) st_yes (se_lst (sa_cons (se_fld (f := "spots") (fun C => hF C "spots") se_var) (sa_cons (se_fld (f := "slopes") (fun C => hF C "slopes") se_var) (sa_cons (se_fld (f := "answer") (fun C => hF C "answer") se_var) (sa_cons (se_fld (f := "products") (fun C => hF C "products") se_var) sa_nil)))))) tg_name)
      (ss_cons (ss_asg (se_op od_plus se_var (se_comp (vs := [6]) (si_seq (se_lst (sa_cons (se_make (fun _ _ => .nil) (sa_cons se_var (sa_cons se_var sa_nil))) (sa_cons (se_makeK (sa_cons se_var (sa_cons se_var sa_nil))) sa_nil)))) (tw_name (by decide)) st_yes (se_lst (sa_cons (se_fld (f := "rows") (fun C => hF C "rows") se_var) (sa_cons (se_fld (f := "products") (fun C => hF C "products") se_var) sa_nil))))) tg_name)
      (ss_cons (ss_asg (se_op od_plus se_var (se_comp (vs := [6]) (si_seq (se_lst (sa_cons (se_make (fun _ _ => .nil) (sa_cons se_var (sa_cons se_var sa_nil))) (sa_cons (se_makeK (sa_cons se_var (sa_cons se_var sa_nil))) sa_nil)))) (tw_name (by decide)) st_yes (se_lst (sa_cons (se_fld (f := "base") (fun C => hF C "base") se_var) (sa_cons (se_fld (f := "lots") (fun C => hF C "lots") se_var) sa_nil))))) tg_name)
      (ss_ret (se_call (fun _ _ => .nil) (sa_cons (se_op od_plus se_var (se_lst (sa_cons (se_lst (sa_cons (se_fld (f := "terms") (fun C => hF C "terms") (se_make (fun _ _ => .nil) (sa_cons se_var sa_nil))) sa_nil)) sa_nil))) (sa_cons se_var sa_nil)))))))))))⟩
abbrev st__law_plans : Stmt := topS 80
abbrev N__law_plans : List Str := ["_law_a", "_law_b", "_law_c", "_law_d", "_law_things", "_law_rows", "_law_e"]
abbrev ps__law_plans : List Str := ["_law_a", "_law_b", "_law_c", "_law_d", "_law_things"]
theorem sc__law_plans : FnScope N__law_plans ps__law_plans (defScope st__law_plans) := ⟨rfl, rfl, rfl, by decide +kernel, rfl, by decide +kernel, by decide +kernel⟩
noncomputable def b__law_plans (ad : Str → Addr) : DSn := (dSeq (dAsg (dComp (dSeqI (dLst (dCons (dMake (ad "FewestGroups") (dC_FewestGroups ad) 4 [] (dCons (dVar 0) (dCons (dVar 1) (dCons (dVar 2) dNil)))) (dCons (dMakeK (ad "FewestGroups") (dC_FewestGroups ad) 4 3 [2, 1, 0] (dCons (dVar 2) (dCons (dVar 1) (dCons (dVar 0) dNil)))) dNil)))) (dgName 6) dYes (dLst (dCons (dFld (cF ad) (dVar 6) "groups") (dCons (dFld (cF ad) (dVar 6) "first") (dCons (dFld (cF ad) (dVar 6) "many") dNil)))) [6]) (dgName 5))
  (dSeq (dAsg (dOp fPlus (dVar 5) (dComp (dSeqI (dLst (dCons (dMake (ad "SideLot") (dC_SideLot ad) 4 [] (dCons (dVar 0) (dCons (dVar 1) (dCons (dVar 2) dNil)))) (dCons (dMakeK (ad "SideLot") (dC_SideLot ad) 4 3 [2, 1, 0] (dCons (dVar 2) (dCons (dVar 1) (dCons (dVar 0) dNil)))) dNil)))) (dgName 6) dYes (dLst (dCons (dFld (cF ad) (dVar 6) "points") (dCons (dFld (cF ad) (dVar 6) "ties") (dCons (dFld (cF ad) (dVar 6) "most") dNil)))) [6])) (dgName 5))
  (dSeq (dAsg (dOp fPlus (dVar 5) (dComp (dSeqI (dLst (dCons (dMake (ad "WebCore") (dC_WebCore ad) 3 [] (dCons (dVar 0) (dCons (dVar 1) dNil))) (dCons (dMakeK (ad "WebCore") (dC_WebCore ad) 3 2 [1, 0] (dCons (dVar 1) (dCons (dVar 0) dNil))) dNil)))) (dgName 6) dYes (dLst (dCons (dFld (cF ad) (dVar 6) "strikes") (dCons (dFld (cF ad) (dVar 6) "ties") dNil))) [6])) (dgName 5))
  (dSeq (dAsg (dOp fPlus (dVar 5) (dComp (dSeqI (dLst (dCons (dMake (ad "SideBounds") (dC_SideBounds ad) 5 [] (dCons (dVar 0) (dCons (dVar 1) (dCons (dVar 2) (dCons (dVar 3) dNil))))) (dCons (dMakeK (ad "SideBounds") (dC_SideBounds ad) 5 4 [3, 2, 1, 0] (dCons (dVar 3) (dCons (dVar 2) (dCons (dVar 1) (dCons (dVar 0) dNil))))) dNil)))) (dgName 6) dYes (dLst (dCons (dFld (cF ad) (dVar 6) "low") (dCons (dFld (cF ad) (dVar 6) "bars") (dCons (dFld (cF ad) (dVar 6) "high") (dCons (dFld (cF ad) (dVar 6) "book") dNil))))) [6])) (dgName 5))
  (dSeq (dAsg (dOp fPlus (dVar 5) (dComp (dSeqI (dLst (dCons (dMake (ad "Played") (dC_Played ad) 3 [] (dCons (dVar 0) (dCons (dVar 1) dNil))) (dCons (dMakeK (ad "Played") (dC_Played ad) 3 2 [1, 0] (dCons (dVar 1) (dCons (dVar 0) dNil))) dNil)))) (dgName 6) dYes (dLst (dCons (dFld (cF ad) (dVar 6) "path") (dCons (dFld (cF ad) (dVar 6) "answers") dNil))) [6])) (dgName 5))
  (dSeq (dAsg (dOp fPlus (dVar 5) (dComp (dSeqI (dLst (dCons (dMake (ad "Come") (dC_Come ad) 4 [] (dCons (dVar 0) (dCons (dVar 1) (dCons (dVar 2) dNil)))) (dCons (dMakeK (ad "Come") (dC_Come ad) 4 3 [2, 1, 0] (dCons (dVar 2) (dCons (dVar 1) (dCons (dVar 0) dNil)))) dNil)))) (dgName 6) dYes (dLst (dCons (dFld (cF ad) (dVar 6) "path") (dCons (dFld (cF ad) (dVar 6) "book") (dCons (dFld (cF ad) (dVar 6) "filling") dNil)))) [6])) (dgName 5))
  (dSeq (dAsg (dOp fPlus (dVar 5) (dComp (dSeqI (dLst (dCons (dMake (ad "Never") (dC_Never ad) 4 [] (dCons (dVar 0) (dCons (dVar 1) (dCons (dVar 2) dNil)))) (dCons (dMakeK (ad "Never") (dC_Never ad) 4 3 [2, 1, 0] (dCons (dVar 2) (dCons (dVar 1) (dCons (dVar 0) dNil)))) dNil)))) (dgName 6) dYes (dLst (dCons (dFld (cF ad) (dVar 6) "path") (dCons (dFld (cF ad) (dVar 6) "answer") (dCons (dFld (cF ad) (dVar 6) "weights") dNil)))) [6])) (dgName 5))
  (dSeq (dAsg (dOp fPlus (dVar 5) (dComp (dSeqI (dLst (dCons (dMake (ad "Untold") (dC_Untold ad) 4 [] (dCons (dVar 0) (dCons (dVar 1) (dCons (dVar 2) dNil)))) (dCons (dMakeK (ad "Untold") (dC_Untold ad) 4 3 [2, 1, 0] (dCons (dVar 2) (dCons (dVar 1) (dCons (dVar 0) dNil)))) dNil)))) (dgName 6) dYes (dLst (dCons (dFld (cF ad) (dVar 6) "path") (dCons (dFld (cF ad) (dVar 6) "filling") (dCons (dFld (cF ad) (dVar 6) "hidden") dNil)))) [6])) (dgName 5))
  (dSeq (dAsg (dOp fPlus (dVar 5) (dComp (dSeqI (dLst (dCons (dMake (ad "Lost") (dC_Lost ad) 3 [] (dCons (dVar 0) (dCons (dVar 1) dNil))) (dCons (dMakeK (ad "Lost") (dC_Lost ad) 3 2 [1, 0] (dCons (dVar 1) (dCons (dVar 0) dNil))) dNil)))) (dgName 6) dYes (dLst (dCons (dFld (cF ad) (dVar 6) "answers") (dCons (dFld (cF ad) (dVar 6) "numbers") dNil))) [6])) (dgName 5))
  (dSeq (dAsg (dOp fPlus (dVar 5) (dComp (dSeqI (dLst (dCons (dMake (ad "Mended") (dC_Mended ad) 4 [] (dCons (dVar 0) (dCons (dVar 1) (dCons (dVar 2) dNil)))) (dCons (dMakeK (ad "Mended") (dC_Mended ad) 4 3 [2, 1, 0] (dCons (dVar 2) (dCons (dVar 1) (dCons (dVar 0) dNil)))) dNil)))) (dgName 6) dYes (dLst (dCons (dFld (cF ad) (dVar 6) "wrong") (dCons (dFld (cF ad) (dVar 6) "answers") (dCons (dFld (cF ad) (dVar 6) "numbers") dNil)))) [6])) (dgName 5))
  (dSeq (dAsg (dOp fPlus (dVar 5) (dComp (dSeqI (dLst (dCons (dMake (ad "Unseen") (dC_Unseen ad) 3 [] (dCons (dVar 0) (dCons (dVar 1) dNil))) (dCons (dMakeK (ad "Unseen") (dC_Unseen ad) 3 2 [1, 0] (dCons (dVar 1) (dCons (dVar 0) dNil))) dNil)))) (dgName 6) dYes (dLst (dCons (dFld (cF ad) (dVar 6) "numbers") (dCons (dFld (cF ad) (dVar 6) "strangers") dNil))) [6])) (dgName 5))
  (dSeq (dAsg (dOp fPlus (dVar 5) (dComp (dSeqI (dLst (dCons (dMake (ad "Filled") (dC_Filled ad) 3 [] (dCons (dVar 0) (dCons (dVar 1) dNil))) (dCons (dMakeK (ad "Filled") (dC_Filled ad) 3 2 [1, 0] (dCons (dVar 1) (dCons (dVar 0) dNil))) dNil)))) (dgName 6) dYes (dLst (dCons (dFld (cF ad) (dVar 6) "numbers") (dCons (dFld (cF ad) (dVar 6) "strangers") dNil))) [6])) (dgName 5))
  (dSeq (dAsg (dOp fPlus (dVar 5) (dComp (dSeqI (dLst (dCons (dMake (ad "Twice") (dC_Twice ad) 3 [] (dCons (dVar 0) (dCons (dVar 1) dNil))) (dCons (dMakeK (ad "Twice") (dC_Twice ad) 3 2 [1, 0] (dCons (dVar 1) (dCons (dVar 0) dNil))) dNil)))) (dgName 6) dYes (dLst (dCons (dFld (cF ad) (dVar 6) "first") (dCons (dFld (cF ad) (dVar 6) "second") dNil))) [6])) (dgName 5))
  (dSeq (dAsg (dOp fPlus (dVar 5) (dComp (dSeqI (dLst (dCons (dMake (ad "Explained") (dC_Explained ad) 3 [] (dCons (dVar 0) (dCons (dVar 1) dNil))) (dCons (dMakeK (ad "Explained") (dC_Explained ad) 3 2 [1, 0] (dCons (dVar 1) (dCons (dVar 0) dNil))) dNil)))) (dgName 6) dYes (dLst (dCons (dFld (cF ad) (dVar 6) "strangers") (dCons (dFld (cF ad) (dVar 6) "numbers") dNil))) [6])) (dgName 5))
  (dRet (dCall d__law_all 2 [] (dCons (dOp fPlus (dVar 5) (dLst (dCons (dLst (dCons (dFld (cF ad) (dMake (ad "Worse") (dC_Worse ad) 2 [] (dCons (dVar 0) dNil)) "most") dNil)) dNil))) (dCons (dVar 4) dNil))))))))))))))))))
noncomputable def d__law_plans (ad : Str → Addr) : Den := dDef 7 false (b__law_plans ad)
theorem ok__law_plans (F : DefAt K mg "_law_plans" st__law_plans) (T : TB mg) (Sy : SysK K) (h__law_all : GnAt P w K mg base 1 "_law_all" 2 d__law_all)  (hF : ∀ C f, cF ad C f = true → Cls K C ∧ NoAttr K C f) (h_Come : ClAt P w K mg base 1 "Come" "Come.__init__" stC_Come (ad "Come") psC_Come [] (dC_Come ad)) (h_Explained : ClAt P w K mg base 1 "Explained" "Explained.__init__" stC_Explained (ad "Explained") psC_Explained [] (dC_Explained ad)) (h_FewestGroups : ClAt P w K mg base 1 "FewestGroups" "FewestGroups.__init__" stC_FewestGroups (ad "FewestGroups") psC_FewestGroups [] (dC_FewestGroups ad)) (h_Filled : ClAt P w K mg base 1 "Filled" "Filled.__init__" stC_Filled (ad "Filled") psC_Filled [] (dC_Filled ad)) (h_Lost : ClAt P w K mg base 1 "Lost" "Lost.__init__" stC_Lost (ad "Lost") psC_Lost [] (dC_Lost ad)) (h_Mended : ClAt P w K mg base 1 "Mended" "Mended.__init__" stC_Mended (ad "Mended") psC_Mended [] (dC_Mended ad)) (h_Never : ClAt P w K mg base 1 "Never" "Never.__init__" stC_Never (ad "Never") psC_Never [] (dC_Never ad)) (h_Played : ClAt P w K mg base 1 "Played" "Played.__init__" stC_Played (ad "Played") psC_Played [] (dC_Played ad)) (h_SideBounds : ClAt P w K mg base 1 "SideBounds" "SideBounds.__init__" stC_SideBounds (ad "SideBounds") psC_SideBounds [] (dC_SideBounds ad)) (h_SideLot : ClAt P w K mg base 1 "SideLot" "SideLot.__init__" stC_SideLot (ad "SideLot") psC_SideLot [] (dC_SideLot ad)) (h_Twice : ClAt P w K mg base 1 "Twice" "Twice.__init__" stC_Twice (ad "Twice") psC_Twice [] (dC_Twice ad)) (h_Unseen : ClAt P w K mg base 1 "Unseen" "Unseen.__init__" stC_Unseen (ad "Unseen") psC_Unseen [] (dC_Unseen ad)) (h_Untold : ClAt P w K mg base 1 "Untold" "Untold.__init__" stC_Untold (ad "Untold") psC_Untold [] (dC_Untold ad)) (h_WebCore : ClAt P w K mg base 1 "WebCore" "WebCore.__init__" stC_WebCore (ad "WebCore") psC_WebCore [] (dC_WebCore ad)) (h_Worse : ClAt P w K mg base 1 "Worse" "Worse.__init__" stC_Worse (ad "Worse") psC_Worse [] (dC_Worse ad)) : GnAt P w K mg base 3 "_law_plans" 5 (d__law_plans ad) :=
  mkGn (N := N__law_plans) (ps := ps__law_plans) (own := false) (g := b__law_plans ad) (k := 2) F sc__law_plans (fun _ _ _ _ _ _ us hl => match us, hl with | [_, _, _, _, _], _ => rfl) fun f cdv A outer s H E qa hr => ⟨_, (pss_cons (ps_setLc (i := 5) (own := [("_law_e", 6)]) (tt := tYes) (te := (tLst (tCons (tFld K (tVar 6) "groups") (tCons (tFld K (tVar 6) "first") (tCons (tFld K (tVar 6) "many") tNil))))) rfl sc__law_plans.nd rfl rfl (sw_true rfl rfl rfl (by decide +kernel)) (pi_seqS (pe_lst (pa_cons (pe_mkat h_FewestGroups 0 (by decide) (hr.mono (by decide)) (by rfl) (takes_of rfl rfl rfl rfl) (pa_cons (pv 0) (pa_cons (pv 1) (pa_cons (pv 2) pa_nil)))) (pa_cons (pe_mkkw h_FewestGroups ["many", "first", "groups"] [2, 1, 0] (hr.mono (by decide)) (by rfl) (takes_of rfl rfl rfl rfl) (pk_cons (pv 2) (pk_cons (pv 1) (pk_cons (pv 0) pk_nil))) (fun _ _ _ _ _ _ us ws l1 l2 => match us, ws, l1, l2 with | [_], [_, _, _], _, _ => rfl)) pa_nil)))) (blkOk_by (N := N__law_plans) (sc := defScope st__law_plans) (by decide +kernel)) (fun _ _ _ _ _ => by exact (pg_name (i := 6) sc__law_plans.nd rfl (.inl rfl))) (fun _ _ _ _ _ => by exact pts_nil) (fun _ _ _ _ _ => by exact (pe_lst (pa_cons (pe_fld (pv 6) rfl) (pa_cons (pe_fld (pv 6) rfl) (pa_cons (pe_fld (pv 6) rfl) pa_nil))))))
      (pss_cons (ps_set (i := 5) sc__law_plans.nd rfl (.inl rfl) (pe_op op_plus (pv 5) (pe_lc (own := [("_law_e", 6)]) (tt := tYes) (te := (tLst (tCons (tFld K (tVar 6) "points") (tCons (tFld K (tVar 6) "ties") (tCons (tFld K (tVar 6) "most") tNil))))) rfl sc__law_plans.nd (pi_seqS (pe_lst (pa_cons (pe_mkat h_SideLot 0 (by decide) (hr.mono (by decide)) (by rfl) (takes_of rfl rfl rfl rfl) (pa_cons (pv 0) (pa_cons (pv 1) (pa_cons (pv 2) pa_nil)))) (pa_cons (pe_mkkw h_SideLot ["most", "ties", "points"] [2, 1, 0] (hr.mono (by decide)) (by rfl) (takes_of rfl rfl rfl rfl) (pk_cons (pv 2) (pk_cons (pv 1) (pk_cons (pv 0) pk_nil))) (fun _ _ _ _ _ _ us ws l1 l2 => match us, ws, l1, l2 with | [_], [_, _, _], _, _ => rfl)) pa_nil)))) (blkOk_by (N := N__law_plans) (sc := defScope st__law_plans) (by decide +kernel)) (fun _ _ _ _ _ => by exact (pg_name (i := 6) sc__law_plans.nd rfl (.inl rfl))) (fun _ _ _ _ _ => by exact pts_nil) (fun _ _ _ _ _ => by exact (pe_lst (pa_cons (pe_fld (pv 6) rfl) (pa_cons (pe_fld (pv 6) rfl) (pa_cons (pe_fld (pv 6) rfl) pa_nil))))))))
      (pss_cons (ps_set (i := 5) sc__law_plans.nd rfl (.inl rfl) (pe_op op_plus (pv 5) (pe_lc (own := [("_law_e", 6)]) (tt := tYes) (te := (tLst (tCons (tFld K (tVar 6) "strikes") (tCons (tFld K (tVar 6) "ties") tNil)))) rfl sc__law_plans.nd (pi_seqS (pe_lst (pa_cons (pe_mkat h_WebCore 0 (by decide) (hr.mono (by decide)) (by rfl) (takes_of rfl rfl rfl rfl) (pa_cons (pv 0) (pa_cons (pv 1) pa_nil))) (pa_cons (pe_mkkw h_WebCore ["ties", "strikes"] [1, 0] (hr.mono (by decide)) (by rfl) (takes_of rfl rfl rfl rfl) (pk_cons (pv 1) (pk_cons (pv 0) pk_nil)) (fun _ _ _ _ _ _ us ws l1 l2 => match us, ws, l1, l2 with | [_], [_, _], _, _ => rfl)) pa_nil)))) (blkOk_by (N := N__law_plans) (sc := defScope st__law_plans) (by decide +kernel)) (fun _ _ _ _ _ => by exact (pg_name (i := 6) sc__law_plans.nd rfl (.inl rfl))) (fun _ _ _ _ _ => by exact pts_nil) (fun _ _ _ _ _ => by exact (pe_lst (pa_cons (pe_fld (pv 6) rfl) (pa_cons (pe_fld (pv 6) rfl) pa_nil)))))))
      (pss_cons (ps_set (i := 5) sc__law_plans.nd rfl (.inl rfl) (pe_op op_plus (pv 5) (pe_lc (own := [("_law_e", 6)]) (tt := tYes) (te := (tLst (tCons (tFld K (tVar 6) "low") (tCons (tFld K (tVar 6) "bars") (tCons (tFld K (tVar 6) "high") (tCons (tFld K (tVar 6) "book") tNil)))))) rfl sc__law_plans.nd (pi_seqS (pe_lst (pa_cons (pe_mkat h_SideBounds 0 (by decide) (hr.mono (by decide)) (by rfl) (takes_of rfl rfl rfl rfl) (pa_cons (pv 0) (pa_cons (pv 1) (pa_cons (pv 2) (pa_cons (pv 3) pa_nil))))) (pa_cons (pe_mkkw h_SideBounds ["book", "high", "bars", "low"] [3, 2, 1, 0] (hr.mono (by decide)) (by rfl) (takes_of rfl rfl rfl rfl) (pk_cons (pv 3) (pk_cons (pv 2) (pk_cons (pv 1) (pk_cons (pv 0) pk_nil)))) (fun _ _ _ _ _ _ us ws l1 l2 => match us, ws, l1, l2 with | [_], [_, _, _, _], _, _ => rfl)) pa_nil)))) (blkOk_by (N := N__law_plans) (sc := defScope st__law_plans) (by decide +kernel)) (fun _ _ _ _ _ => by exact (pg_name (i := 6) sc__law_plans.nd rfl (.inl rfl))) (fun _ _ _ _ _ => by exact pts_nil) (fun _ _ _ _ _ => by exact (pe_lst (pa_cons (pe_fld (pv 6) rfl) (pa_cons (pe_fld (pv 6) rfl) (pa_cons (pe_fld (pv 6) rfl) (pa_cons (pe_fld (pv 6) rfl) pa_nil)))))))))
      (pss_cons (ps_set (i := 5) sc__law_plans.nd rfl (.inl rfl) (pe_op op_plus (pv 5) (pe_lc (own := [("_law_e", 6)]) (tt := tYes) (te := (tLst (tCons (tFld K (tVar 6) "path") (tCons (tFld K (tVar 6) "answers") tNil)))) rfl sc__law_plans.nd (pi_seqS (pe_lst (pa_cons (pe_mkat h_Played 0 (by decide) (hr.mono (by decide)) (by rfl) (takes_of rfl rfl rfl rfl) (pa_cons (pv 0) (pa_cons (pv 1) pa_nil))) (pa_cons (pe_mkkw h_Played ["answers", "path"] [1, 0] (hr.mono (by decide)) (by rfl) (takes_of rfl rfl rfl rfl) (pk_cons (pv 1) (pk_cons (pv 0) pk_nil)) (fun _ _ _ _ _ _ us ws l1 l2 => match us, ws, l1, l2 with | [_], [_, _], _, _ => rfl)) pa_nil)))) (blkOk_by (N := N__law_plans) (sc := defScope st__law_plans) (by decide +kernel)) (fun _ _ _ _ _ => by exact (pg_name (i := 6) sc__law_plans.nd rfl (.inl rfl))) (fun _ _ _ _ _ => by exact pts_nil) (fun _ _ _ _ _ => by exact (pe_lst (pa_cons (pe_fld (pv 6) rfl) (pa_cons (pe_fld (pv 6) rfl) pa_nil)))))))
      (pss_cons (ps_set (i := 5) sc__law_plans.nd rfl (.inl rfl) (pe_op op_plus (pv 5) (pe_lc (own := [("_law_e", 6)]) (tt := tYes) (te := (tLst (tCons (tFld K (tVar 6) "path") (tCons (tFld K (tVar 6) "book") (tCons (tFld K (tVar 6) "filling") tNil))))) rfl sc__law_plans.nd (pi_seqS (pe_lst (pa_cons (pe_mkat h_Come 0 (by decide) (hr.mono (by decide)) (by rfl) (takes_of rfl rfl rfl rfl) (pa_cons (pv 0) (pa_cons (pv 1) (pa_cons (pv 2) pa_nil)))) (pa_cons (pe_mkkw h_Come ["filling", "book", "path"] [2, 1, 0] (hr.mono (by decide)) (by rfl) (takes_of rfl rfl rfl rfl) (pk_cons (pv 2) (pk_cons (pv 1) (pk_cons (pv 0) pk_nil))) (fun _ _ _ _ _ _ us ws l1 l2 => match us, ws, l1, l2 with | [_], [_, _, _], _, _ => rfl)) pa_nil)))) (blkOk_by (N := N__law_plans) (sc := defScope st__law_plans) (by decide +kernel)) (fun _ _ _ _ _ => by exact (pg_name (i := 6) sc__law_plans.nd rfl (.inl rfl))) (fun _ _ _ _ _ => by exact pts_nil) (fun _ _ _ _ _ => by exact (pe_lst (pa_cons (pe_fld (pv 6) rfl) (pa_cons (pe_fld (pv 6) rfl) (pa_cons (pe_fld (pv 6) rfl) pa_nil))))))))
      (pss_cons (ps_set (i := 5) sc__law_plans.nd rfl (.inl rfl) (pe_op op_plus (pv 5) (pe_lc (own := [("_law_e", 6)]) (tt := tYes) (te := (tLst (tCons (tFld K (tVar 6) "path") (tCons (tFld K (tVar 6) "answer") (tCons (tFld K (tVar 6) "weights") tNil))))) rfl sc__law_plans.nd (pi_seqS (pe_lst (pa_cons (pe_mkat h_Never 0 (by decide) (hr.mono (by decide)) (by rfl) (takes_of rfl rfl rfl rfl) (pa_cons (pv 0) (pa_cons (pv 1) (pa_cons (pv 2) pa_nil)))) (pa_cons (pe_mkkw h_Never ["weights", "answer", "path"] [2, 1, 0] (hr.mono (by decide)) (by rfl) (takes_of rfl rfl rfl rfl) (pk_cons (pv 2) (pk_cons (pv 1) (pk_cons (pv 0) pk_nil))) (fun _ _ _ _ _ _ us ws l1 l2 => match us, ws, l1, l2 with | [_], [_, _, _], _, _ => rfl)) pa_nil)))) (blkOk_by (N := N__law_plans) (sc := defScope st__law_plans) (by decide +kernel)) (fun _ _ _ _ _ => by exact (pg_name (i := 6) sc__law_plans.nd rfl (.inl rfl))) (fun _ _ _ _ _ => by exact pts_nil) (fun _ _ _ _ _ => by exact (pe_lst (pa_cons (pe_fld (pv 6) rfl) (pa_cons (pe_fld (pv 6) rfl) (pa_cons (pe_fld (pv 6) rfl) pa_nil))))))))
      (pss_cons (ps_set (i := 5) sc__law_plans.nd rfl (.inl rfl) (pe_op op_plus (pv 5) (pe_lc (own := [("_law_e", 6)]) (tt := tYes) (te := (tLst (tCons (tFld K (tVar 6) "path") (tCons (tFld K (tVar 6) "filling") (tCons (tFld K (tVar 6) "hidden") tNil))))) rfl sc__law_plans.nd (pi_seqS (pe_lst (pa_cons (pe_mkat h_Untold 0 (by decide) (hr.mono (by decide)) (by rfl) (takes_of rfl rfl rfl rfl) (pa_cons (pv 0) (pa_cons (pv 1) (pa_cons (pv 2) pa_nil)))) (pa_cons (pe_mkkw h_Untold ["hidden", "filling", "path"] [2, 1, 0] (hr.mono (by decide)) (by rfl) (takes_of rfl rfl rfl rfl) (pk_cons (pv 2) (pk_cons (pv 1) (pk_cons (pv 0) pk_nil))) (fun _ _ _ _ _ _ us ws l1 l2 => match us, ws, l1, l2 with | [_], [_, _, _], _, _ => rfl)) pa_nil)))) (blkOk_by (N := N__law_plans) (sc := defScope st__law_plans) (by decide +kernel)) (fun _ _ _ _ _ => by exact (pg_name (i := 6) sc__law_plans.nd rfl (.inl rfl))) (fun _ _ _ _ _ => by exact pts_nil) (fun _ _ _ _ _ => by exact (pe_lst (pa_cons (pe_fld (pv 6) rfl) (pa_cons (pe_fld (pv 6) rfl) (pa_cons (pe_fld (pv 6) rfl) pa_nil))))))))
      (pss_cons (ps_set (i := 5) sc__law_plans.nd rfl (.inl rfl) (pe_op op_plus (pv 5) (pe_lc (own := [("_law_e", 6)]) (tt := tYes) (te := (tLst (tCons (tFld K (tVar 6) "answers") (tCons (tFld K (tVar 6) "numbers") tNil)))) rfl sc__law_plans.nd (pi_seqS (pe_lst (pa_cons (pe_mkat h_Lost 0 (by decide) (hr.mono (by decide)) (by rfl) (takes_of rfl rfl rfl rfl) (pa_cons (pv 0) (pa_cons (pv 1) pa_nil))) (pa_cons (pe_mkkw h_Lost ["numbers", "answers"] [1, 0] (hr.mono (by decide)) (by rfl) (takes_of rfl rfl rfl rfl) (pk_cons (pv 1) (pk_cons (pv 0) pk_nil)) (fun _ _ _ _ _ _ us ws l1 l2 => match us, ws, l1, l2 with | [_], [_, _], _, _ => rfl)) pa_nil)))) (blkOk_by (N := N__law_plans) (sc := defScope st__law_plans) (by decide +kernel)) (fun _ _ _ _ _ => by exact (pg_name (i := 6) sc__law_plans.nd rfl (.inl rfl))) (fun _ _ _ _ _ => by exact pts_nil) (fun _ _ _ _ _ => by exact (pe_lst (pa_cons (pe_fld (pv 6) rfl) (pa_cons (pe_fld (pv 6) rfl) pa_nil)))))))
      (pss_cons (ps_set (i := 5) sc__law_plans.nd rfl (.inl rfl) (pe_op op_plus (pv 5) (pe_lc (own := [("_law_e", 6)]) (tt := tYes) (te := (tLst (tCons (tFld K (tVar 6) "wrong") (tCons (tFld K (tVar 6) "answers") (tCons (tFld K (tVar 6) "numbers") tNil))))) rfl sc__law_plans.nd (pi_seqS (pe_lst (pa_cons (pe_mkat h_Mended 0 (by decide) (hr.mono (by decide)) (by rfl) (takes_of rfl rfl rfl rfl) (pa_cons (pv 0) (pa_cons (pv 1) (pa_cons (pv 2) pa_nil)))) (pa_cons (pe_mkkw h_Mended ["numbers", "answers", "wrong"] [2, 1, 0] (hr.mono (by decide)) (by rfl) (takes_of rfl rfl rfl rfl) (pk_cons (pv 2) (pk_cons (pv 1) (pk_cons (pv 0) pk_nil))) (fun _ _ _ _ _ _ us ws l1 l2 => match us, ws, l1, l2 with | [_], [_, _, _], _, _ => rfl)) pa_nil)))) (blkOk_by (N := N__law_plans) (sc := defScope st__law_plans) (by decide +kernel)) (fun _ _ _ _ _ => by exact (pg_name (i := 6) sc__law_plans.nd rfl (.inl rfl))) (fun _ _ _ _ _ => by exact pts_nil) (fun _ _ _ _ _ => by exact (pe_lst (pa_cons (pe_fld (pv 6) rfl) (pa_cons (pe_fld (pv 6) rfl) (pa_cons (pe_fld (pv 6) rfl) pa_nil))))))))
      (pss_cons (ps_set (i := 5) sc__law_plans.nd rfl (.inl rfl) (pe_op op_plus (pv 5) (pe_lc (own := [("_law_e", 6)]) (tt := tYes) (te := (tLst (tCons (tFld K (tVar 6) "numbers") (tCons (tFld K (tVar 6) "strangers") tNil)))) rfl sc__law_plans.nd (pi_seqS (pe_lst (pa_cons (pe_mkat h_Unseen 0 (by decide) (hr.mono (by decide)) (by rfl) (takes_of rfl rfl rfl rfl) (pa_cons (pv 0) (pa_cons (pv 1) pa_nil))) (pa_cons (pe_mkkw h_Unseen ["strangers", "numbers"] [1, 0] (hr.mono (by decide)) (by rfl) (takes_of rfl rfl rfl rfl) (pk_cons (pv 1) (pk_cons (pv 0) pk_nil)) (fun _ _ _ _ _ _ us ws l1 l2 => match us, ws, l1, l2 with | [_], [_, _], _, _ => rfl)) pa_nil)))) (blkOk_by (N := N__law_plans) (sc := defScope st__law_plans) (by decide +kernel)) (fun _ _ _ _ _ => by exact (pg_name (i := 6) sc__law_plans.nd rfl (.inl rfl))) (fun _ _ _ _ _ => by exact pts_nil) (fun _ _ _ _ _ => by exact (pe_lst (pa_cons (pe_fld (pv 6) rfl) (pa_cons (pe_fld (pv 6) rfl) pa_nil)))))))
      (pss_cons (ps_set (i := 5) sc__law_plans.nd rfl (.inl rfl) (pe_op op_plus (pv 5) (pe_lc (own := [("_law_e", 6)]) (tt := tYes) (te := (tLst (tCons (tFld K (tVar 6) "numbers") (tCons (tFld K (tVar 6) "strangers") tNil)))) rfl sc__law_plans.nd (pi_seqS (pe_lst (pa_cons (pe_mkat h_Filled 0 (by decide) (hr.mono (by decide)) (by rfl) (takes_of rfl rfl rfl rfl) (pa_cons (pv 0) (pa_cons (pv 1) pa_nil))) (pa_cons (pe_mkkw h_Filled ["strangers", "numbers"] [1, 0] (hr.mono (by decide)) (by rfl) (takes_of rfl rfl rfl rfl) (pk_cons (pv 1) (pk_cons (pv 0) pk_nil)) (fun _ _ _ _ _ _ us ws l1 l2 => match us, ws, l1, l2 with | [_], [_, _], _, _ => rfl)) pa_nil)))) (blkOk_by (N := N__law_plans) (sc := defScope st__law_plans) (by decide +kernel)) (fun _ _ _ _ _ => by exact (pg_name (i := 6) sc__law_plans.nd rfl (.inl rfl))) (fun _ _ _ _ _ => by exact pts_nil) (fun _ _ _ _ _ => by exact (pe_lst (pa_cons (pe_fld (pv 6) rfl) (pa_cons (pe_fld (pv 6) rfl) pa_nil)))))))
      (pss_cons (ps_set (i := 5) sc__law_plans.nd rfl (.inl rfl) (pe_op op_plus (pv 5) (pe_lc (own := [("_law_e", 6)]) (tt := tYes) (te := (tLst (tCons (tFld K (tVar 6) "first") (tCons (tFld K (tVar 6) "second") tNil)))) rfl sc__law_plans.nd (pi_seqS (pe_lst (pa_cons (pe_mkat h_Twice 0 (by decide) (hr.mono (by decide)) (by rfl) (takes_of rfl rfl rfl rfl) (pa_cons (pv 0) (pa_cons (pv 1) pa_nil))) (pa_cons (pe_mkkw h_Twice ["second", "first"] [1, 0] (hr.mono (by decide)) (by rfl) (takes_of rfl rfl rfl rfl) (pk_cons (pv 1) (pk_cons (pv 0) pk_nil)) (fun _ _ _ _ _ _ us ws l1 l2 => match us, ws, l1, l2 with | [_], [_, _], _, _ => rfl)) pa_nil)))) (blkOk_by (N := N__law_plans) (sc := defScope st__law_plans) (by decide +kernel)) (fun _ _ _ _ _ => by exact (pg_name (i := 6) sc__law_plans.nd rfl (.inl rfl))) (fun _ _ _ _ _ => by exact pts_nil) (fun _ _ _ _ _ => by exact (pe_lst (pa_cons (pe_fld (pv 6) rfl) (pa_cons (pe_fld (pv 6) rfl) pa_nil)))))))
      (pss_cons (ps_set (i := 5) sc__law_plans.nd rfl (.inl rfl) (pe_op op_plus (pv 5) (pe_lc (own := [("_law_e", 6)]) (tt := tYes) (te := (tLst (tCons (tFld K (tVar 6) "strangers") (tCons (tFld K (tVar 6) "numbers") tNil)))) rfl sc__law_plans.nd (pi_seqS (pe_lst (pa_cons (pe_mkat h_Explained 0 (by decide) (hr.mono (by decide)) (by rfl) (takes_of rfl rfl rfl rfl) (pa_cons (pv 0) (pa_cons (pv 1) pa_nil))) (pa_cons (pe_mkkw h_Explained ["numbers", "strangers"] [1, 0] (hr.mono (by decide)) (by rfl) (takes_of rfl rfl rfl rfl) (pk_cons (pv 1) (pk_cons (pv 0) pk_nil)) (fun _ _ _ _ _ _ us ws l1 l2 => match us, ws, l1, l2 with | [_], [_, _], _, _ => rfl)) pa_nil)))) (blkOk_by (N := N__law_plans) (sc := defScope st__law_plans) (by decide +kernel)) (fun _ _ _ _ _ => by exact (pg_name (i := 6) sc__law_plans.nd rfl (.inl rfl))) (fun _ _ _ _ _ => by exact pts_nil) (fun _ _ _ _ _ => by exact (pe_lst (pa_cons (pe_fld (pv 6) rfl) (pa_cons (pe_fld (pv 6) rfl) pa_nil)))))))
      (pss_one (ps_ret (pe_gat h__law_all qa.dp (hr.mono (by decide)) (by rfl) (takes_of rfl rfl rfl rfl) (pa_cons (pe_op op_plus (pv 5) (pe_lst (pa_cons (pe_lst (pa_cons (pe_fld (pe_mkat h_Worse 0 (by decide) (hr.mono (by decide)) (by rfl) (takes_of rfl rfl rfl rfl) (pa_cons (pv 0) pa_nil)) rfl) pa_nil)) pa_nil))) (pa_cons (pv 4) pa_nil))))))))))))))))))), (ss_cons (ss_asg (se_comp (vs := [6]) (si_seq (se_lst (sa_cons (se_make (fun _ _ => .nil) (sa_cons se_var (sa_cons se_var (sa_cons se_var sa_nil)))) (sa_cons (se_makeK (sa_cons se_var (sa_cons se_var (sa_cons se_var sa_nil)))) sa_nil)))) (tw_name (by decide)) st_yes (se_lst (sa_cons (se_fld (f := "groups") (fun C => hF C "groups") se_var) (sa_cons (se_fld (f := "first") (fun C => hF C "first") se_var) (sa_cons (se_fld (f := "many") (fun C => hF C "many") se_var) sa_nil))))) tg_name)
      (ss_cons (ss_asg (se_op od_plus se_var (se_comp (vs := [6]) (si_seq (se_lst (sa_cons (se_make (fun _ _ => .nil) (sa_cons se_var (sa_cons se_var (sa_cons se_var sa_nil)))) (sa_cons (se_makeK (sa_cons se_var (sa_cons se_var (sa_cons se_var sa_nil)))) sa_nil)))) (tw_name (by decide)) st_yes (se_lst (sa_cons (se_fld (f := "points") (fun C => hF C "points") se_var) (sa_cons (se_fld (f := "ties") (fun C => hF C "ties") se_var) (sa_cons (se_fld (f := "most") (fun C => hF C "most") se_var) sa_nil)))))) tg_name)
      (ss_cons (ss_asg (se_op od_plus se_var (se_comp (vs := [6]) (si_seq (se_lst (sa_cons (se_make (fun _ _ => .nil) (sa_cons se_var (sa_cons se_var sa_nil))) (sa_cons (se_makeK (sa_cons se_var (sa_cons se_var sa_nil))) sa_nil)))) (tw_name (by decide)) st_yes (se_lst (sa_cons (se_fld (f := "strikes") (fun C => hF C "strikes") se_var) (sa_cons (se_fld (f := "ties") (fun C => hF C "ties") se_var) sa_nil))))) tg_name)
      (ss_cons (ss_asg (se_op od_plus se_var (se_comp (vs := [6]) (si_seq (se_lst (sa_cons (se_make (fun _ _ => .nil) (sa_cons se_var (sa_cons se_var (sa_cons se_var (sa_cons se_var sa_nil))))) (sa_cons (se_makeK (sa_cons se_var (sa_cons se_var (sa_cons se_var (sa_cons se_var sa_nil))))) sa_nil)))) (tw_name (by decide)) st_yes (se_lst (sa_cons (se_fld (f := "low") (fun C => hF C "low") se_var) (sa_cons (se_fld (f := "bars") (fun C => hF C "bars") se_var) (sa_cons (se_fld (f := "high") (fun C => hF C "high") se_var) (sa_cons (se_fld (f := "book") (fun C => hF C "book") se_var) sa_nil))))))) tg_name)
      (ss_cons (ss_asg (se_op od_plus se_var (se_comp (vs := [6]) (si_seq (se_lst (sa_cons (se_make (fun _ _ => .nil) (sa_cons se_var (sa_cons se_var sa_nil))) (sa_cons (se_makeK (sa_cons se_var (sa_cons se_var sa_nil))) sa_nil)))) (tw_name (by decide)) st_yes (se_lst (sa_cons (se_fld (f := "path") (fun C => hF C "path") se_var) (sa_cons (se_fld (f := "answers") (fun C => hF C "answers") se_var) sa_nil))))) tg_name)
      (ss_cons (ss_asg (se_op od_plus se_var (se_comp (vs := [6]) (si_seq (se_lst (sa_cons (se_make (fun _ _ => .nil) (sa_cons se_var (sa_cons se_var (sa_cons se_var sa_nil)))) (sa_cons (se_makeK (sa_cons se_var (sa_cons se_var (sa_cons se_var sa_nil)))) sa_nil)))) (tw_name (by decide)) st_yes (se_lst (sa_cons (se_fld (f := "path") (fun C => hF C "path") se_var) (sa_cons (se_fld (f := "book") (fun C => hF C "book") se_var) (sa_cons (se_fld (f := "filling") (fun C => hF C "filling") se_var) sa_nil)))))) tg_name)
      (ss_cons (ss_asg (se_op od_plus se_var (se_comp (vs := [6]) (si_seq (se_lst (sa_cons (se_make (fun _ _ => .nil) (sa_cons se_var (sa_cons se_var (sa_cons se_var sa_nil)))) (sa_cons (se_makeK (sa_cons se_var (sa_cons se_var (sa_cons se_var sa_nil)))) sa_nil)))) (tw_name (by decide)) st_yes (se_lst (sa_cons (se_fld (f := "path") (fun C => hF C "path") se_var) (sa_cons (se_fld (f := "answer") (fun C => hF C "answer") se_var) (sa_cons (se_fld (f := "weights") (fun C => hF C "weights") se_var) sa_nil)))))) tg_name)
      (ss_cons (ss_asg (se_op od_plus se_var (se_comp (vs := [6]) (si_seq (se_lst (sa_cons (se_make (fun _ _ => .nil) (sa_cons se_var (sa_cons se_var (sa_cons se_var sa_nil)))) (sa_cons (se_makeK (sa_cons se_var (sa_cons se_var (sa_cons se_var sa_nil)))) sa_nil)))) (tw_name (by decide)) st_yes (se_lst (sa_cons (se_fld (f := "path") (fun C => hF C "path") se_var) (sa_cons (se_fld (f := "filling") (fun C => hF C "filling") se_var) (sa_cons (se_fld (f := "hidden") (fun C => hF C "hidden") se_var) sa_nil)))))) tg_name)
      (ss_cons (ss_asg (se_op od_plus se_var (se_comp (vs := [6]) (si_seq (se_lst (sa_cons (se_make (fun _ _ => .nil) (sa_cons se_var (sa_cons se_var sa_nil))) (sa_cons (se_makeK (sa_cons se_var (sa_cons se_var sa_nil))) sa_nil)))) (tw_name (by decide)) st_yes (se_lst (sa_cons (se_fld (f := "answers") (fun C => hF C "answers") se_var) (sa_cons (se_fld (f := "numbers") (fun C => hF C "numbers") se_var) sa_nil))))) tg_name)
      (ss_cons (ss_asg (se_op od_plus se_var (se_comp (vs := [6]) (si_seq (se_lst (sa_cons (se_make (fun _ _ => .nil) (sa_cons se_var (sa_cons se_var (sa_cons se_var sa_nil)))) (sa_cons (se_makeK (sa_cons se_var (sa_cons se_var (sa_cons se_var sa_nil)))) sa_nil)))) (tw_name (by decide)) st_yes (se_lst (sa_cons (se_fld (f := "wrong") (fun C => hF C "wrong") se_var) (sa_cons (se_fld (f := "answers") (fun C => hF C "answers") se_var) (sa_cons (se_fld (f := "numbers") (fun C => hF C "numbers") se_var) sa_nil)))))) tg_name)
      (ss_cons (ss_asg (se_op od_plus se_var (se_comp (vs := [6]) (si_seq (se_lst (sa_cons (se_make (fun _ _ => .nil) (sa_cons se_var (sa_cons se_var sa_nil))) (sa_cons (se_makeK (sa_cons se_var (sa_cons se_var sa_nil))) sa_nil)))) (tw_name (by decide)) st_yes (se_lst (sa_cons (se_fld (f := "numbers") (fun C => hF C "numbers") se_var) (sa_cons (se_fld (f := "strangers") (fun C => hF C "strangers") se_var) sa_nil))))) tg_name)
      (ss_cons (ss_asg (se_op od_plus se_var (se_comp (vs := [6]) (si_seq (se_lst (sa_cons (se_make (fun _ _ => .nil) (sa_cons se_var (sa_cons se_var sa_nil))) (sa_cons (se_makeK (sa_cons se_var (sa_cons se_var sa_nil))) sa_nil)))) (tw_name (by decide)) st_yes (se_lst (sa_cons (se_fld (f := "numbers") (fun C => hF C "numbers") se_var) (sa_cons (se_fld (f := "strangers") (fun C => hF C "strangers") se_var) sa_nil))))) tg_name)
      (ss_cons (ss_asg (se_op od_plus se_var (se_comp (vs := [6]) (si_seq (se_lst (sa_cons (se_make (fun _ _ => .nil) (sa_cons se_var (sa_cons se_var sa_nil))) (sa_cons (se_makeK (sa_cons se_var (sa_cons se_var sa_nil))) sa_nil)))) (tw_name (by decide)) st_yes (se_lst (sa_cons (se_fld (f := "first") (fun C => hF C "first") se_var) (sa_cons (se_fld (f := "second") (fun C => hF C "second") se_var) sa_nil))))) tg_name)
      (ss_cons (ss_asg (se_op od_plus se_var (se_comp (vs := [6]) (si_seq (se_lst (sa_cons (se_make (fun _ _ => .nil) (sa_cons se_var (sa_cons se_var sa_nil))) (sa_cons (se_makeK (sa_cons se_var (sa_cons se_var sa_nil))) sa_nil)))) (tw_name (by decide)) st_yes (se_lst (sa_cons (se_fld (f := "strangers") (fun C => hF C "strangers") se_var) (sa_cons (se_fld (f := "numbers") (fun C => hF C "numbers") se_var) sa_nil))))) tg_name)
      (ss_ret (se_call (fun _ _ => .nil) (sa_cons (se_op od_plus se_var (se_lst (sa_cons (se_lst (sa_cons (se_fld (f := "most") (fun C => hF C "most") (se_make (fun _ _ => .nil) (sa_cons se_var sa_nil))) sa_nil)) sa_nil))) (sa_cons se_var sa_nil))))))))))))))))))⟩
abbrev st_law : Stmt := topS 81
abbrev N_law : List Str := ["_law_script", "_law_hand_here", "_law_things", "_law_at", "_law_kind", "_law_number", "_law_a", "_law_b", "_law_c", "_law_d", "_law_held"]
abbrev ps_law : List Str := ["_law_script"]
theorem sc_law : FnScope N_law ps_law (defScope st_law) := ⟨rfl, rfl, rfl, by decide +kernel, rfl, by decide +kernel, by decide +kernel⟩
noncomputable def b_law (ad : Str → Addr) : DSn := (dSeq (dAsg (dCall d__law_hand 1 [] (dCons (dVar 0) dNil)) (dgName 1))
  (dSeq (dAsg (dLst dNil) (dgName 2))
  (dSeq (dFor (dRng1 (dCons (dC (.int 4)) dNil)) (dgName 3) (dSeq (dAsg (dCall d__law_take 2 [] (dCons (dVar 1) (dCons (dC (.int 4)) dNil))) (dgName 4))
  (dSeq (dAsg (dOp fPlus (dOp fTimes (dC (.int 10)) (dCall d__law_take 2 [] (dCons (dVar 1) (dCons (dOp fPow (dC (.int 10)) (dC (.int 6))) dNil)))) (dVar 3)) (dgName 5))
  (dDrop (dAppend (dVar 2) (dCons (dOp fIx (dLst (dCons (dVar 5) (dCons (dLst (dCons (dVar 5) dNil)) (dCons (dTup (dCons (dVar 5) (dCons (dNeg (dC (.int 1))) dNil))) (dCons (dLst (dCons (dTup (dCons (dVar 5) (dCons (dC (.int 1)) dNil))) (dCons (dC .non) dNil))) dNil))))) (dVar 4)) dNil))))))
  (dSeq (dAsg (dVar 2) (dgAny 4 (dgCons (dgName 6) (dgCons (dgName 7) (dgCons (dgName 8) (dgCons (dgName 9) dgNil))))))
  (dSeq (dAsg (dMake (ad "Recovered") (dC_Recovered ad) 3 [] (dCons (dVar 6) (dCons (dVar 7) dNil))) (dgName 10))
  (dSeq (dIfS (dOr (dNot (dTru (dCall (d__law_answers ad) 4 [] (dCons (dVar 6) (dCons (dVar 7) (dCons (dVar 8) (dCons (dVar 2) dNil))))))) (dNot (dTru (dCall (d__law_groups ad) 5 [] (dCons (dVar 6) (dCons (dVar 7) (dCons (dVar 8) (dCons (dVar 9) (dCons (dVar 2) dNil))))))))) (dRet (dC (.bl false))) dNext)
  (dSeq (dIfS (dOr (dNot (dTru (dCall (d__law_bounds ad) 5 [] (dCons (dVar 6) (dCons (dVar 7) (dCons (dVar 8) (dCons (dVar 9) (dCons (dVar 2) dNil)))))))) (dNot (dTru (dCall (d__law_plans ad) 5 [] (dCons (dVar 6) (dCons (dVar 7) (dCons (dVar 8) (dCons (dVar 9) (dCons (dVar 2) dNil))))))))) (dRet (dC (.bl false))) dNext)
  (dSeq (dIfS (dTru (dIsT ["list"] (dVar 7))) (dDrop (dAppend (dVar 7) (dCons (dC (.int 7)) dNil))) dNext)
  (dRet (dOp (fEq false) (dCB (f1 fRepr) (dCons (dLst (dCons (dFld (cF ad) (dVar 10) "numbers") (dCons (dFld (cF ad) (dVar 10) "filling") dNil))) dNil)) (dCB (f1 fRepr) (dCons (dLst (dCons (dVar 6) (dCons (dVar 7) dNil))) dNil))))))))))))
noncomputable def d_law (ad : Str → Addr) : Den := dDef 11 false (b_law ad)
theorem ok_law (F : DefAt K mg "law" st_law) (T : TB mg) (Sy : SysK K) (h__law_answers : GnAt P w K mg base 3 "_law_answers" 4 (d__law_answers ad)) (h__law_bounds : GnAt P w K mg base 3 "_law_bounds" 5 (d__law_bounds ad)) (h__law_groups : GnAt P w K mg base 3 "_law_groups" 5 (d__law_groups ad)) (h__law_hand : FnAt P w K mg base 1 "_law_hand" 1 [] d__law_hand) (h__law_plans : GnAt P w K mg base 3 "_law_plans" 5 (d__law_plans ad)) (h__law_take : FnAt P w K mg base 2 "_law_take" 2 [] d__law_take)  (hF : ∀ C f, cF ad C f = true → Cls K C ∧ NoAttr K C f) (h_Recovered : ClAt P w K mg base 1 "Recovered" "Recovered.__init__" stC_Recovered (ad "Recovered") psC_Recovered [] (dC_Recovered ad)) : GnAt P w K mg base 4 "law" 1 (d_law ad) :=
  mkGn (N := N_law) (ps := ps_law) (own := false) (g := b_law ad) (k := 3) F sc_law (fun _ _ _ _ _ _ us hl => match us, hl with | [_], _ => rfl) fun f cdv A outer s H E qa hr => ⟨_, (pss_cons (ps_set (i := 1) sc_law.nd rfl (.inl rfl) (pe_at (dd := []) h__law_hand 0 (by decide) (hr.mono (by decide)) (by rfl) (takes_of rfl rfl rfl rfl) (pa_cons (pv 0) pa_nil)))
      (pss_cons (ps_set (i := 2) sc_law.nd rfl (.inl rfl) (pe_lst pa_nil))
      (pss_cons (ps_for (passes_of rfl) rfl (pi_range1 (by rfl) T.range (pa_cons pe_int pa_nil)) (pg_name (i := 3) sc_law.nd rfl (.inl rfl)) (pss_cons (ps_set (i := 4) sc_law.nd rfl (.inl rfl) (pe_at (dd := []) h__law_take 0 (by decide) (hr.mono (by decide)) (by rfl) (takes_of rfl rfl rfl rfl) (pa_cons (pv 1) (pa_cons pe_int pa_nil))))
      (pss_cons (ps_set (i := 5) sc_law.nd rfl (.inl rfl) (pe_op op_plus (pe_op op_times pe_int (pe_at (dd := []) h__law_take 0 (by decide) (hr.mono (by decide)) (by rfl) (takes_of rfl rfl rfl rfl) (pa_cons (pv 1) (pa_cons (pe_op op_pow pe_int pe_int) pa_nil)))) (pv 3)))
      (pss_one (ps_expr (pe_bm PySem.F.plainAttrs_list PySem.F.slot_list_append PySem.F.type_list_append mt_append (pv 2) (pa_cons (pe_ix ix_seq (pe_lst (pa_cons (pv 5) (pa_cons (pe_lst (pa_cons (pv 5) pa_nil)) (pa_cons (pe_tup (pa_cons (pv 5) (pa_cons (pe_un un_neg pe_int) pa_nil))) (pa_cons (pe_lst (pa_cons (pe_tup (pa_cons (pv 5) (pa_cons pe_int pa_nil))) (pa_cons pe_non pa_nil))) pa_nil))))) (pv 4) (fun _ _ => rfl)) pa_nil)))))))
      (pss_cons (ps_asg (pv 2) (pg_any rfl (pgs_cons (pg_name (i := 6) sc_law.nd rfl (.inl rfl)) (pgs_cons (pg_name (i := 7) sc_law.nd rfl (.inl rfl)) (pgs_cons (pg_name (i := 8) sc_law.nd rfl (.inl rfl)) (pgs_cons (pg_name (i := 9) sc_law.nd rfl (.inl rfl)) pgs_nil))))))
      (pss_cons (ps_set (i := 10) sc_law.nd rfl (.inl rfl) (pe_mkat h_Recovered 0 (by decide) (hr.mono (by decide)) (by rfl) (takes_of rfl rfl rfl rfl) (pa_cons (pv 6) (pa_cons (pv 7) pa_nil))))
      (pss_cons (ps_if (PW.pt (pw_or (pt_not (pt_truth (pe_gat h__law_answers qa.dp (hr.mono (by decide)) (by rfl) (takes_of rfl rfl rfl rfl) (pa_cons (pv 6) (pa_cons (pv 7) (pa_cons (pv 8) (pa_cons (pv 2) pa_nil))))) (by intro _; rfl))) (pw_or1 (pt_not (pt_truth (pe_gat h__law_groups qa.dp (hr.mono (by decide)) (by rfl) (takes_of rfl rfl rfl rfl) (pa_cons (pv 6) (pa_cons (pv 7) (pa_cons (pv 8) (pa_cons (pv 9) (pa_cons (pv 2) pa_nil)))))) (by intro _; rfl)))))) (pss_one (ps_ret pe_bl)) pss_nil)
      (pss_cons (ps_if (PW.pt (pw_or (pt_not (pt_truth (pe_gat h__law_bounds qa.dp (hr.mono (by decide)) (by rfl) (takes_of rfl rfl rfl rfl) (pa_cons (pv 6) (pa_cons (pv 7) (pa_cons (pv 8) (pa_cons (pv 9) (pa_cons (pv 2) pa_nil)))))) (by intro _; rfl))) (pw_or1 (pt_not (pt_truth (pe_gat h__law_plans qa.dp (hr.mono (by decide)) (by rfl) (takes_of rfl rfl rfl rfl) (pa_cons (pv 6) (pa_cons (pv 7) (pa_cons (pv 8) (pa_cons (pv 9) (pa_cons (pv 2) pa_nil)))))) (by intro _; rfl)))))) (pss_one (ps_ret pe_bl)) pss_nil)
      (pss_cons (ps_if (pt_truth (pe_callB call_isi (by rfl) T.isinstance (by decide +kernel) (pa_cons (pv 7) (pa_cons (pe_bltn (v := .ty "list") (u := .type "list") (by rfl) T.list (by decide +kernel) rfl) pa_nil))) (by intro _; rfl)) (pss_one (ps_expr (pe_bm PySem.F.plainAttrs_list PySem.F.slot_list_append PySem.F.type_list_append mt_append (pv 7) (pa_cons pe_int pa_nil)))) pss_nil)
      (pss_one (ps_ret (pe_cmpR (op_eqP (Room.units hr)) (pe_callB (call_reprD Sy qa.dp (Room.units hr)) (by rfl) T.repr (by decide +kernel) (pa_cons (pe_lst (pa_cons (pe_fld (pv 10) rfl) (pa_cons (pe_fld (pv 10) rfl) pa_nil))) pa_nil)) (pe_callB (call_reprD Sy qa.dp (Room.units hr)) (by rfl) T.repr (by decide +kernel) (pa_cons (pe_lst (pa_cons (pv 6) (pa_cons (pv 7) pa_nil))) pa_nil)) (nomark _)))))))))))), (ss_cons (ss_asg (se_call (fun _ _ => .nil) (sa_cons se_var sa_nil)) tg_name)
      (ss_cons (ss_asg (se_lst sa_nil) tg_name)
      (ss_cons (ss_for (si_rng1 (sa_cons se_int sa_nil)) tg_name (ss_cons (ss_asg (se_call (fun _ _ => .nil) (sa_cons se_var (sa_cons se_int sa_nil))) tg_name)
      (ss_cons (ss_asg (se_op od_plus (se_op od_times se_int (se_call (fun _ _ => .nil) (sa_cons se_var (sa_cons (se_op od_pow se_int se_int) sa_nil)))) se_var) tg_name)
      (ss_drop (se_append se_var (sa_cons (se_op od_ix (se_lst (sa_cons se_var (sa_cons (se_lst (sa_cons se_var sa_nil)) (sa_cons (se_tup (sa_cons se_var (sa_cons (se_neg se_int) sa_nil))) (sa_cons (se_lst (sa_cons (se_tup (sa_cons se_var (sa_cons se_int sa_nil))) (sa_cons se_non sa_nil))) sa_nil))))) se_var) sa_nil))))))
      (ss_cons (ss_asg se_var (tg_any (tgs_cons tg_name (tgs_cons tg_name (tgs_cons tg_name (tgs_cons tg_name tgs_nil))))))
      (ss_cons (ss_asg (se_make (fun _ _ => .nil) (sa_cons se_var (sa_cons se_var sa_nil))) tg_name)
      (ss_cons (ss_if (st_or (st_not (st_tru (se_call (fun _ _ => .nil) (sa_cons se_var (sa_cons se_var (sa_cons se_var (sa_cons se_var sa_nil))))))) (st_not (st_tru (se_call (fun _ _ => .nil) (sa_cons se_var (sa_cons se_var (sa_cons se_var (sa_cons se_var (sa_cons se_var sa_nil))))))))) (ss_ret se_bl) ss_nil)
      (ss_cons (ss_if (st_or (st_not (st_tru (se_call (fun _ _ => .nil) (sa_cons se_var (sa_cons se_var (sa_cons se_var (sa_cons se_var (sa_cons se_var sa_nil)))))))) (st_not (st_tru (se_call (fun _ _ => .nil) (sa_cons se_var (sa_cons se_var (sa_cons se_var (sa_cons se_var (sa_cons se_var sa_nil))))))))) (ss_ret se_bl) ss_nil)
      (ss_cons (ss_if (st_tru (se_is1 (T := "list") se_var)) (ss_drop (se_append se_var (sa_cons se_int sa_nil))) ss_nil)
      (ss_ret (se_op od_eq (se_cb cd_repr (sa_cons (se_lst (sa_cons (se_fld (f := "numbers") (fun C => hF C "numbers") se_var) (sa_cons (se_fld (f := "filling") (fun C => hF C "filling") se_var) sa_nil))) sa_nil)) (se_cb cd_repr (sa_cons (se_lst (sa_cons se_var (sa_cons se_var sa_nil))) sa_nil))))))))))))⟩
end
end K77
set_option Elab.async false
set_option linter.all false
set_option maxRecDepth 100000
set_option maxHeartbeats 2000000
/-! K77m: rows of values, as data. -/
namespace K77
open PySem PySem.Spec PyProof.Rows L2 Gk Dn DnH
/-! ### values -/
/-- the store from n on may be another -/
def Pre (n : Nat) (μ μ' : List M) : Prop := n ≤ μ'.length ∧ ∀ k, k < n → μ'[k]? = μ[k]?
theorem Pre.refl {n : Nat} {μ : List M} (h : n ≤ μ.length) : Pre n μ μ := ⟨h, fun _ _ => rfl⟩
theorem Pre.app {n : Nat} {μ μ' : List M} (h : Pre n μ μ') (l : List M) : Pre n μ (μ' ++ l) := ⟨by rw [List.length_append]; exact Nat.le_trans h.1 (Nat.le_add_right _ _), fun k hk => by rw [List.getElem?_append_left (Nat.lt_of_lt_of_le hk h.1)]; exact h.2 k hk⟩
theorem Pre.set {n k : Nat} {μ μ' : List M} {m : M} (h : Pre n μ μ') (hk : n ≤ k) : Pre n μ (μ'.set k m) := ⟨by rw [List.length_set]; exact h.1, fun j hj => by rw [List.getElem?_set_ne (by omega)]; exact h.2 j hj⟩
/-- x is the data p, whatever stands behind n -/
structure Good (n : Nat) (μ : List M) (x : D) (p : PyData) : Prop where
  cl : clo n x = true
  py : ∀ μ', Pre n μ μ' → ∀ f, pyB (pyL μ' (f + 2)) x = some p
  fi : Fine 2 20 p
/-- a row of such values -/
def Goods (n : Nat) (μ : List M) : List D → List PyData → Prop
  | [], [] => True
  | x :: xs, p :: ps => Good n μ x p ∧ Goods n μ xs ps
  | _, _ => False
theorem Goods.clos {n : Nat} {μ : List M} : ∀ {xs : List D} {ps : List PyData}, Goods n μ xs ps → clos n xs = true
  | [], [], _ => rfl
  | x :: xs, p :: ps, h => by rw [Dn.clos, h.1.cl, Goods.clos h.2]; rfl
theorem Goods.py {n : Nat} {μ μ' : List M} (e : Pre n μ μ') (f : Nat) : ∀ {xs : List D} {ps : List PyData}, Goods n μ xs ps → pyBs (pyL μ' (f + 2)) xs = some ps
  | [], [], _ => rfl
  | x :: xs, p :: ps, h => by
    rw [pyBs, h.1.py μ' e f, Goods.py e f h.2]
    rfl
theorem Goods.len {n : Nat} {μ : List M} : ∀ {xs : List D} {ps : List PyData}, Goods n μ xs ps → ps.length = xs.length
  | [], [], _ => rfl
  | x :: xs, p :: ps, h => by rw [List.length_cons, List.length_cons, Goods.len h.2]
theorem Goods.mem {n : Nat} {μ : List M} : ∀ {xs : List D} {ps : List PyData}, Goods n μ xs ps → ∀ d ∈ ps, Fine 2 20 d
  | [], [], _ => fun d h => absurd h List.not_mem_nil
  | x :: xs, p :: ps, h => fun d hd => by
    rcases List.mem_cons.mp hd with e | e
    · rw [e]; exact h.1.fi
    · exact Goods.mem h.2 d e
theorem Goods.take {n : Nat} {μ : List M} : ∀ (m : Nat) {xs : List D} {ps : List PyData}, Goods n μ xs ps → Goods n μ (xs.take m) (ps.take m)
  | 0, _, _, _ => by rw [List.take_zero, List.take_zero]; trivial
  | m + 1, [], [], _ => trivial
  | m + 1, x :: xs, p :: ps, h => ⟨h.1, Goods.take m h.2⟩
theorem okShow_list {ps : List PyData} (h : ∀ d ∈ ps, Fine 2 20 d) (hl : ps.length ≤ 20) : okShowD (.list ps) = true := by
  have F : Fine 8 300000 (.list ps) := (fine_list (m := 500) h (by omega)).up (by decide) (by decide)
  unfold okShowD
  rw [F.sh, decide_eq_true (Nat.le_trans F.dp (by decide)), decide_eq_true (F.fits (by decide))]
  rfl
/-- a list of the store whose items are the data ps is shown as their list -/
theorem repr_at {n k : Nat} {μ μ' : List M} {xs : List D} {ps : List PyData} (g : Goods n μ xs ps) (e : Pre n μ μ') (h : μ'[k]? = some (.lst xs)) (hl : ps.length ≤ 20) : fRepr (.loc k) μ' = .ok (.str (PyData.shown (.list ps))) μ' := by
  unfold fRepr pyS
  have q : pyB (pyL μ' 6) (.loc k) = some (.list ps) := by
    rw [pyB]
    show pyL μ' (5 + 1) k = _
    rw [pyL, h]
    show (pyBs (pyL μ' (3 + 2)) xs).map _ = _
    rw [g.py e 3]
    rfl
  rw [q]
  dsimp only
  rw [if_pos (okShow_list g.mem hl)]
theorem eq_str {neg : Bool} {x y : Str} {μ : List M} : fEq neg (.str x) (.str y) μ = .ok (.bl (if neg then !(x == y) else x == y)) μ := rfl
/-! ### rows of rows -/
/-- the list at r holds lists that each are the first few of T -/
theorem len_at {μ : List M} {j : Nat} {xs : List D} (h : μ[j]? = some (.lst xs)) : fLen (.loc j) μ = .ok (.int (xs.length : Nat)) μ := by
  have e : lenS μ (.loc j) = some xs.length := by
    show Option.map List.length (seqS μ (.loc j)) = _
    rw [seqS, h]
    rfl
  unfold fLen
  rw [e]
def Rows (n : Nat) (μ : List M) (r : Nat) (T : List D) (b : Nat) : Prop := n ≤ r ∧ ∃ rs : List D, μ[r]? = some (M.lst rs) ∧ rs.length ≤ b ∧ ∀ x ∈ rs, ∃ (j m : Nat), x = D.loc j ∧ j ≠ r ∧ μ[j]? = some (M.lst (T.take m)) ∧ m ≤ T.length
theorem get_app {μ l : List M} {k : Nat} {m : M} (h : μ[k]? = some m) : (μ ++ l)[k]? = some m := by
  rw [List.getElem?_append_left (List.getElem?_eq_some_iff.mp h).1]
  exact h
theorem Rows.app {n : Nat} {μ : List M} {r : Nat} {T : List D} {b : Nat} (h : Rows n μ r T b) (l : List M) : Rows n (μ ++ l) r T b := by
  obtain ⟨h0, rs, h1, h2, h3⟩ := h
  refine ⟨h0, rs, get_app h1, h2, fun x hx => ?_⟩
  obtain ⟨j, m, e, hj, h4, h5⟩ := h3 x hx
  exact ⟨j, m, e, hj, get_app h4, h5⟩
theorem Rows.up {n : Nat} {μ : List M} {r : Nat} {T : List D} {b c : Nat} (h : Rows n μ r T b) (hc : b ≤ c) : Rows n μ r T c := by
  obtain ⟨h0, rs, h1, h2, h3⟩ := h
  exact ⟨h0, rs, h1, Nat.le_trans h2 hc, h3⟩
theorem get_lt {μ : List M} {k : Nat} {m : M} (h : μ[k]? = some m) : k < μ.length := (List.getElem?_eq_some_iff.mp h).1
theorem size_big : 5000 ≤ sizeLine := by decide +kernel
theorem slice_at {δ : VS} {μ : List M} {t : Nat} {T : List D} {m : Nat} {l : DPn} (ht : δ[1]? = some (some (.loc t))) (h : μ[t]? = some (.lst T)) (hl : l δ μ = .ok (some (m : Int)) μ) (hm : m ≤ T.length) :
    dSl (dVar 1) dNoPart l δ μ = .ok (.loc μ.length) (μ ++ [.lst (T.take m)]) := by
  unfold dSl
  rw [dVar_eq, ht, getV_some, bind_ok]
  show (Out.ok none μ : Out (Option Int)).bind _ = _
  rw [bind_ok, hl, bind_ok]
  show (match lsS μ (.loc t) with | some ds => Out.ok (D.loc μ.length) (μ ++ [M.lst (Dn.cutD ds none (some (m : Int)))]) | none => .bad) = _
  have e : lsS μ (.loc t) = some T := by rw [lsS, h]
  rw [e]
  dsimp only
  have c : Dn.cutD T none (some (m : Int)) = T.take m := by
    unfold Dn.cutD
    have s1 : HT.sIx T.length 0 none = 0 := rfl
    have s2 : HT.sIx T.length T.length (some (m : Int)) = m := by
      rw [HT.sIx_nat, Nat.min_eq_left hm]
    rw [s1, s2, List.drop_zero, Nat.sub_zero]
  rw [c]
theorem all_ok {n r t b : Nat} {μ0 μ : List M} {T : List D} {ps : List PyData} (g : Goods n μ0 T ps) (e : Pre n μ0 μ) (ht : μ[t]? = some (.lst T)) (hr : Rows n μ r T b) (hb : b ≤ 1000) (hT : T.length ≤ 20) :
    d__law_all [.loc r, .loc t] μ = .ok (.bl true) μ := by
  obtain ⟨_, rs, h1, h2, h3⟩ := hr
  have e0 : slots 3 [D.loc r, D.loc t] = [some (.loc r), some (.loc t), none] := rfl
  unfold d__law_all b__law_all
  rw [dDef_tree, e0]
  have it : dSeqI (dVar 0) [some (D.loc r), some (.loc t), none] μ = .ok ⟨rs, gdOf (.loc r) rs⟩ μ := by
    unfold dSeqI
    rw [dVar_eq]
    show (Out.ok (D.loc r) μ).bind _ = _
    rw [bind_ok]
    have q : seqS μ (.loc r) = some rs := by rw [seqS, h1]
    rw [q]
  have main := dComp_loop (it := dSeqI (dVar 0)) (b := dgName 2)
    (c := dTest (dOp (fEq true) (dCB (f1 fRepr) (dCons (dVar 2) dNil)) (dCB (f1 fRepr) (dCons (dSl (dVar 1) dNoPart (dPart (dCB (f1 fLen) (dCons (dVar 2) dNil)))) dNil)))) (e := dVar 2) (vs := [2])
    (J := fun xs acc μ' => acc = [] ∧ (∃ l, μ' = μ ++ (M.lst [] :: l)) ∧ ∀ x ∈ xs, x ∈ rs) (R := fun μ' => ∃ l, μ' = μ ++ (M.lst [] :: l)) it ⟨rfl, ⟨[], rfl⟩, fun x hx => hx⟩
    (fun xs acc μ' h => by
      obtain ⟨rfl, ⟨l, rfl⟩, _⟩ := h
      rw [List.getElem?_append_right (Nat.le_refl _), Nat.sub_self]
      rfl)
    (fun xs acc μ' h => by
      obtain ⟨rfl, ⟨l, rfl⟩, _⟩ := h
      exact gdOf_loc (get_app h1))
    (fun x xs acc μ' h => by
      obtain ⟨rfl, ⟨l, rfl⟩, hx⟩ := h
      obtain ⟨j, m, rfl, _, hj, hm⟩ := h3 x (hx _ List.mem_cons_self)
      have pr : Pre n μ0 (μ ++ (.lst [] :: l)) := e.app _
      have r1 := repr_at (g.take m) pr (get_app (l := .lst [] :: l) hj) (by rw [(g.take m).len, List.length_take]; omega)
      have ln : dPart (dCB (f1 fLen) (dCons (dVar 2) dNil)) [some (D.loc r), some (.loc t), some (.loc j)] (μ ++ (.lst [] :: l)) = .ok (some (m : Int)) (μ ++ (.lst [] :: l)) := by
        unfold dPart
        have q : dCB (f1 fLen) (dCons (dVar 2) dNil) [some (D.loc r), some (.loc t), some (.loc j)] (μ ++ (.lst [] :: l)) = .ok (.int m) (μ ++ (.lst [] :: l)) := by
          show fLen (.loc j) (μ ++ (.lst [] :: l)) = _
          rw [len_at (get_app (l := .lst [] :: l) hj), List.length_take, Nat.min_eq_left hm]
        rw [q]
        rfl
      have sl := slice_at (δ := [some (D.loc r), some (.loc t), some (.loc j)]) rfl (get_app (l := .lst [] :: l) ht) ln hm
      have r2 := repr_at (k := (μ ++ (.lst [] :: l)).length) (g.take m) (pr.app [.lst (T.take m)]) get_last (by rw [(g.take m).len, List.length_take]; omega)
      refine ⟨[some (D.loc r), some (.loc t), some (.loc j)], _, rfl, .inl ⟨μ ++ (.lst [] :: l) ++ [.lst (T.take m)], ?_, rfl, ⟨l ++ [.lst (T.take m)], by rw [List.append_assoc]; rfl⟩, fun y hy => hx y (List.mem_cons_of_mem _ hy)⟩⟩
      rw [dTest_eq, dOp_eq, dCB_eq, dCons_eq, dVar_eq]
      show (((fRepr (.loc j) (μ ++ (.lst [] :: l))).bind fun x μ1 => _).bind _) = _
      rw [r1, bind_ok, dCB_eq, dCons_eq, sl, bind_ok, dNil_eq, bind_ok, bind_ok, f1_eq, r2, bind_ok, eq_str, beq_self_eq_true]
      rfl)
    (fun acc μ' h => h.2.1)
  obtain ⟨μ', ec, l, rfl⟩ := main
  rw [dRet_eq, dOp_eq, ec, bind_ok]
  have el : dLst dNil [some (D.loc r), some (.loc t), none] (μ ++ (.lst [] :: l)) = .ok (.loc (μ ++ (M.lst [] :: l)).length) (μ ++ (.lst [] :: l) ++ [.lst []]) := rfl
  rw [el, bind_ok]
  have q : fEq false (.loc μ.length) (.loc (μ ++ (M.lst [] :: l)).length) (μ ++ (.lst [] :: l) ++ [.lst []]) = .ok (.bl true) (μ ++ (.lst [] :: l) ++ [.lst []]) := by
    have p1 : pyB (pyL (μ ++ (.lst [] :: l) ++ [.lst []]) 6) (.loc μ.length) = some (.list []) := by
      rw [pyB]
      show pyL _ (5 + 1) _ = _
      rw [pyL, List.append_assoc, List.getElem?_append_right (Nat.le_refl _), Nat.sub_self]
      rfl
    have p2 : pyB (pyL (μ ++ (.lst [] :: l) ++ [.lst []]) 6) (.loc (μ ++ (M.lst [] :: l)).length) = some (.list []) := by
      rw [pyB]
      show pyL _ (5 + 1) _ = _
      rw [pyL, get_last]
      rfl
    show fEqD false _ _ _ = _
    unfold fEqD pyS
    rw [p1, p2]
    have o : okPy (.list []) = true := by decide +kernel
    have v : PyData.eqv (.list []) (.list []) = true := by decide +kernel
    dsimp only
    rw [o, v]
    rfl
  rw [q, thenS_ok, leave_clo (by rw [List.append_assoc]; exact back_app) rfl, List.append_assoc, List.take_left']
  rfl
/-! ### makes -/
theorem cF_all {ad : Str → Addr} {x : Str} {fs : List Str} (h : (tabF.any fun p => p.1 == x && fs.all fun f => p.2.contains f) = true) : ∀ f ∈ fs, cF ad (ad x) f = true := fun f hf => by
  obtain ⟨p, hp, q⟩ := List.any_eq_true.mp h
  rw [Bool.and_eq_true] at q
  have e : p.1 = x := beq_iff_eq.mp q.1
  have c := List.all_eq_true.mp q.2 f hf
  exact List.any_eq_true.mpr ⟨p, hp, by rw [e, c, beq_self_eq_true]; rfl⟩
theorem mk_p {ad : Str → Addr} {x : Str} {fs : List Str} {xs : List D} {da : DAn} {δ : VS} {μ : List M} {n : Nat} (ha : da δ μ = .ok xs μ) (hl : fs.length = xs.length) (hx : clos μ.length xs = true)
    (h : (tabF.any fun p => p.1 == x && fs.all fun f => p.2.contains f) = true) (nd : fs.Nodup) (hz : fs.length < 1000) (hn : n = xs.length + 1) :
    dMake (ad x) (dDef n false (initB (cF ad) 1 fs)) n [] da δ μ = .ok (.ins (ad x) (fs.zip xs)) μ := by
  rw [dMake_T ha hn.symm]
  exact make_plain hl hn (cF_all h) nd hz hx
theorem mk_k {ad : Str → Addr} {x : Str} {fs : List Str} {ys xs : List D} {da : DAn} {δ : VS} {μ : List M} {n m : Nat} {is : List Nat} (ha : da δ μ = .ok ys μ) (hp : pick is ys = xs) (hm : ys.length = m) (hl : fs.length = xs.length) (hx : clos μ.length xs = true)
    (h : (tabF.any fun p => p.1 == x && fs.all fun f => p.2.contains f) = true) (nd : fs.Nodup) (hz : fs.length < 1000) (hn : n = xs.length + 1) :
    dMakeK (ad x) (dDef n false (initB (cF ad) 1 fs)) n m is da δ μ = .ok (.ins (ad x) (fs.zip xs)) μ := by
  rw [dMakeK_T ha ⟨hm, by rw [hp]; exact hn.symm⟩, hp]
  exact make_plain hl hn (cF_all h) nd hz hx
/-- the fields of what stands in slot i, one after another -/
def flds (c : ClsF) (e : DEn) : List Str → DAn
  | [] => dNil
  | f :: r => dCons (dFld c e f) (flds c e r)
theorem fld_at {c : ClsF} {e : DEn} {C : Addr} {l : List (Str × D)} {f : Str} {d : D} {δ : VS} {μ : List M} (he : e δ μ = .ok (.ins C l) μ) (hc : c C f = true) (hf : l.lookup f = some d) : dFld c e f δ μ = .ok d μ := by
  unfold dFld
  rw [he, bind_ok]
  dsimp only
  rw [if_pos hc, hf]
theorem zip_look {f : Str} {d : D} : ∀ {fs : List Str} {xs : List D} {as : List Str} {bs : List D}, as.length = bs.length → f ∉ as → ((as ++ f :: fs).zip (bs ++ d :: xs)).lookup f = some d
  | fs, xs, [], [], _, _ => by
    show List.lookup f ((f, d) :: fs.zip xs) = _
    rw [List.lookup_cons, beq_self_eq_true]
  | fs, xs, a :: as, b :: bs, h, hn => by
    show List.lookup f ((a, b) :: (as ++ f :: fs).zip (bs ++ d :: xs)) = _
    rw [List.lookup_cons]
    rw [List.mem_cons, not_or] at hn
    have : (f == a) = false := by simpa using hn.1
    rw [this]
    exact zip_look (by simpa using h) hn.2
theorem flds_go {c : ClsF} {e : DEn} {C : Addr} {δ : VS} {μ : List M} : ∀ (fs : List Str) (xs : List D) (as : List Str) (bs : List D), as.length = bs.length → fs.length = xs.length → e δ μ = .ok (.ins C ((as ++ fs).zip (bs ++ xs))) μ → (∀ f ∈ fs, c C f = true) → (as ++ fs).Nodup →
    flds c e fs δ μ = .ok xs μ
  | [], [], _, _, _, _, _, _, _ => rfl
  | f :: fs, x :: xs, as, bs, h1, h2, he, hc, nd => by
    have hn : f ∉ as := fun m => by
      rw [List.nodup_append] at nd
      exact nd.2.2 f m f List.mem_cons_self rfl
    rw [flds, dCons_eq, fld_at he (hc f List.mem_cons_self) (zip_look h1 hn), bind_ok,
      flds_go fs xs (as ++ [f]) (bs ++ [x]) (by simp [h1]) (by simpa using h2) (by rw [List.append_assoc, List.append_assoc]; exact he) (fun g hg => hc g (List.mem_cons_of_mem _ hg)) (by rw [List.append_assoc]; exact nd), bind_ok]
theorem flds_all {c : ClsF} {e : DEn} {C : Addr} {fs : List Str} {xs : List D} {δ : VS} {μ : List M} (he : e δ μ = .ok (.ins C (fs.zip xs)) μ) (hl : fs.length = xs.length) (hc : ∀ f ∈ fs, c C f = true) (nd : fs.Nodup) : flds c e fs δ μ = .ok xs μ :=
  flds_go fs xs [] [] rfl hl he hc nd
/-! ### expressions that give rows -/
/-- e gives a list of rows, the store grows alone -/
def ERow (n : Nat) (μ0 : List M) (T : List D) (b : Nat) (e : DEn) (δ : VS) (μ : List M) : Prop := ∃ r l, e δ μ = .ok (.loc r) (μ ++ l) ∧ Rows n (μ ++ l) r T b
/-- so for each item of a display -/
def ARow (n : Nat) (μ0 : List M) (T : List D) (b : Nat) (da : DAn) (δ : VS) (μ : List M) : Prop := ∃ rs l, da δ μ = .ok rs (μ ++ l) ∧ rs.length ≤ b ∧ ∀ x ∈ rs, ∃ (j m : Nat), x = D.loc j ∧ (μ ++ l)[j]? = some (M.lst (T.take m)) ∧ m ≤ T.length
section
variable {n : Nat} {μ0 : List M} {T : List D} {δ : VS} {μ : List M} {b b2 : Nat}
theorem ar_nil : ARow n μ0 T 0 dNil δ μ := ⟨[], [], by rw [List.append_nil]; rfl, Nat.le_refl _, fun x h => absurd h List.not_mem_nil⟩
theorem ar_cons {da dr : DAn} {m : Nat} (ha : ∀ μ', Pre n μ0 μ' → da δ μ' = .ok (T.take m) μ') (hm : m ≤ T.length) (hz : T.length ≤ 20) (hr : ∀ μ', Pre n μ0 μ' → ARow n μ0 T b dr δ μ') (p : Pre n μ0 μ) : ARow n μ0 T (b + 1) (dCons (dLst da) dr) δ μ := by
  have e : dLst da δ μ = .ok (.loc μ.length) (μ ++ [.lst (T.take m)]) := by
    unfold dLst
    rw [ha μ p, bind_ok, if_pos]
    exact Nat.le_trans (Nat.le_trans (by rw [List.length_take]; omega : (T.take m).length ≤ 20) (by decide)) size_big
  obtain ⟨rs, l, h1, h2, h3⟩ := hr _ (p.app [.lst (T.take m)])
  refine ⟨.loc μ.length :: rs, .lst (T.take m) :: l, ?_, Nat.succ_le_succ h2, fun x hx => ?_⟩
  · rw [dCons_eq, e, bind_ok, h1, bind_ok, List.append_assoc]
    rfl
  · rw [List.append_assoc] at h3
    rcases List.mem_cons.mp hx with q | q
    · refine ⟨μ.length, m, q, ?_, hm⟩
      rw [List.getElem?_append_right (Nat.le_refl _), Nat.sub_self]
      rfl
    · exact h3 x q
theorem er_lst {da : DAn} (ha : ARow n μ0 T b da δ μ) (hb : b ≤ 1000) (p : Pre n μ0 μ) : ERow n μ0 T b (dLst da) δ μ := by
  obtain ⟨rs, l, h1, h2, h3⟩ := ha
  refine ⟨(μ ++ l).length, l ++ [.lst rs], ?_, by rw [List.length_append]; exact Nat.le_trans p.1 (Nat.le_add_right _ _), rs, ?_, h2, fun x hx => ?_⟩
  · unfold dLst
    rw [h1, bind_ok, if_pos (Nat.le_trans (Nat.le_trans h2 (Nat.le_trans hb (by decide))) size_big), List.append_assoc]
  · rw [← List.append_assoc]
    exact get_last
  · obtain ⟨j, m, e, h4, h5⟩ := h3 x hx
    exact ⟨j, m, e, Nat.ne_of_lt (get_lt h4), by rw [← List.append_assoc]; exact get_app h4, h5⟩
theorem er_var {i r : Nat} (h : δ[i]? = some (some (.loc r))) (hr : Rows n μ r T b) : ERow n μ0 T b (dVar i) δ μ := ⟨r, [], by rw [dVar_eq, h, getV_some, List.append_nil], by rw [List.append_nil]; exact hr⟩
theorem er_plus {e1 e2 : DEn} (h1 : ERow n μ0 T b e1 δ μ) (h2 : ∀ l, ERow n μ0 T b2 e2 δ (μ ++ l)) (hb : b + b2 ≤ 1000) (p : Pre n μ0 μ) : ERow n μ0 T (b + b2) (dOp fPlus e1 e2) δ μ := by
  obtain ⟨r1, l1, a1, R1⟩ := h1
  obtain ⟨r2, l2, a2, R2⟩ := h2 l1
  have R1' := R1.app l2
  obtain ⟨_, rs1, p1, p2, p3⟩ := R1'
  obtain ⟨_, rs2, q1, q2, q3⟩ := R2
  have e : fPlus (.loc r1) (.loc r2) (μ ++ l1 ++ l2) = .ok (.loc (μ ++ l1 ++ l2).length) (μ ++ l1 ++ l2 ++ [.lst (rs1 ++ rs2)]) := by
    show (match lstS (μ ++ l1 ++ l2) (.loc r1), lstS (μ ++ l1 ++ l2) (.loc r2) with
      | some (_, ds), some (_, es) => if ds.length + es.length ≤ sizeLine then Out.ok (D.loc (μ ++ l1 ++ l2).length) (μ ++ l1 ++ l2 ++ [M.lst (ds ++ es)]) else .bad
      | _, _ => .bad) = _
    rw [lstS, p1, lstS, q1]
    dsimp only
    rw [if_pos (Nat.le_trans (Nat.le_trans (Nat.add_le_add p2 q2) (Nat.le_trans hb (by decide))) size_big)]
  refine ⟨(μ ++ l1 ++ l2).length, l1 ++ l2 ++ [.lst (rs1 ++ rs2)], ?_, Nat.le_trans p.1 (by rw [List.length_append, List.length_append, Nat.add_assoc]; exact Nat.le_add_right _ _), rs1 ++ rs2, ?_, ?_, fun x hx => ?_⟩
  · rw [dOp_eq, a1, bind_ok, a2, bind_ok, e, List.append_assoc, List.append_assoc, List.append_assoc]
  · rw [← List.append_assoc, ← List.append_assoc]
    exact get_last
  · rw [List.length_append]
    exact Nat.add_le_add p2 q2
  · rw [← List.append_assoc, ← List.append_assoc]
    rcases List.mem_append.mp hx with q | q
    · obtain ⟨j, m, e, _, h4, h5⟩ := p3 x q
      exact ⟨j, m, e, Nat.ne_of_lt (get_lt h4), get_app h4, h5⟩
    · obtain ⟨j, m, e, _, h4, h5⟩ := q3 x q
      exact ⟨j, m, e, Nat.ne_of_lt (get_lt h4), get_app h4, h5⟩
theorem er_comp {c : ClsF} {C : Addr} {e1 e2 : DEn} {fs : List Str} {m i : Nat} (h1 : ∀ μ', Pre n μ0 μ' → e1 δ μ' = .ok (.ins C (fs.zip (T.take m))) μ') (h2 : ∀ μ', Pre n μ0 μ' → e2 δ μ' = .ok (.ins C (fs.zip (T.take m))) μ') (hm : m ≤ T.length) (hz : T.length ≤ 20)
    (hl : fs.length = (T.take m).length) (hc : ∀ f ∈ fs, c C f = true) (nd : fs.Nodup) (hi : i < δ.length) (p : Pre n μ0 μ) :
    ERow n μ0 T 2 (dComp (dSeqI (dLst (dCons e1 (dCons e2 dNil)))) (dgName i) dYes (dLst (flds c (dVar i) fs)) [i]) δ μ := by
  have small : (T.take m).length ≤ sizeLine := Nat.le_trans (Nat.le_trans (by rw [List.length_take]; omega : (T.take m).length ≤ 20) (by decide)) size_big
  have hd : dLst (dCons e1 (dCons e2 dNil)) δ μ = .ok (.loc μ.length) (μ ++ [M.lst [D.ins C (fs.zip (T.take m)), D.ins C (fs.zip (T.take m))]]) := by
    unfold dLst
    rw [dCons_eq, h1 μ p, bind_ok, dCons_eq, h2 μ p, bind_ok, dNil_eq, bind_ok, bind_ok, bind_ok]
    exact if_pos (Nat.le_trans (by decide : 2 ≤ 5000) size_big)
  have it : dSeqI (dLst (dCons e1 (dCons e2 dNil))) δ μ = .ok ⟨[.ins C (fs.zip (T.take m)), .ins C (fs.zip (T.take m))], gdOf (.loc μ.length) [.ins C (fs.zip (T.take m)), .ins C (fs.zip (T.take m))]⟩ (μ ++ [M.lst [D.ins C (fs.zip (T.take m)), D.ins C (fs.zip (T.take m))]]) := by
    unfold dSeqI
    rw [hd, bind_ok]
    have q : seqS (μ ++ [M.lst [D.ins C (fs.zip (T.take m)), D.ins C (fs.zip (T.take m))]]) (.loc μ.length) = some [.ins C (fs.zip (T.take m)), .ins C (fs.zip (T.take m))] := by rw [seqS, get_last]
    rw [q]
  obtain ⟨μ', ec, hR⟩ := dComp_loop (b := dgName i) (c := dYes) (e := dLst (flds c (dVar i) fs)) (vs := [i])
    (J := fun xs acc μ' => (∀ x ∈ xs, x = .ins C (fs.zip (T.take m))) ∧ acc.length + xs.length ≤ 2 ∧ (∀ x ∈ acc, ∃ (j k : Nat), x = D.loc j ∧ μ'[j]? = some (M.lst (T.take k)) ∧ k ≤ T.length ∧ (μ ++ [M.lst [D.ins C (fs.zip (T.take m)), D.ins C (fs.zip (T.take m))]]).length < j) ∧
      ∃ l, μ' = μ ++ [M.lst [D.ins C (fs.zip (T.take m)), D.ins C (fs.zip (T.take m))]] ++ (M.lst acc :: l))
    (R := fun μ' => ∃ l, μ' = μ ++ l ∧ Rows n (μ ++ l) (μ ++ [M.lst [D.ins C (fs.zip (T.take m)), D.ins C (fs.zip (T.take m))]]).length T 2) it
    ⟨fun x hx => by
      rcases List.mem_cons.mp hx with q | q
      · exact q
      · exact List.mem_singleton.mp q, Nat.le_refl 2, fun x hx => absurd hx List.not_mem_nil, [], rfl⟩
    (fun xs acc μ' h => by
      obtain ⟨_, _, _, l, rfl⟩ := h
      rw [List.getElem?_append_right (Nat.le_refl _), Nat.sub_self]
      rfl)
    (fun xs acc μ' h => by
      obtain ⟨_, _, _, l, rfl⟩ := h
      exact gdOf_loc (get_app get_last))
    (fun x xs acc μ' h => by
      obtain ⟨hx, hl2, ha, l, rfl⟩ := h
      obtain rfl := hx x List.mem_cons_self
      generalize hμ : μ ++ [M.lst [D.ins C (fs.zip (T.take m)), D.ins C (fs.zip (T.take m))]] = μ1 at *
      have pr : Pre n μ0 (μ1 ++ (.lst acc :: l)) := by rw [← hμ]; exact (p.app _).app _
      have sl : ((wipeD δ [i]).set i (some (D.ins C (fs.zip (T.take m)))))[i]? = some (some (.ins C (fs.zip (T.take m)))) := List.getElem?_set_self (by
        show i < (List.set δ i none).length
        rw [List.length_set]
        exact hi)
      have fl : flds c (dVar i) fs ((wipeD δ [i]).set i (some (D.ins C (fs.zip (T.take m))))) (μ1 ++ (.lst acc :: l)) = .ok (T.take m) (μ1 ++ (.lst acc :: l)) := flds_all (by rw [dVar_eq, sl, getV_some]) hl hc nd
      refine ⟨_, _, rfl, .inr ⟨_, .loc (μ1 ++ (M.lst acc :: l)).length, μ1 ++ (.lst acc :: l) ++ [.lst (T.take m)], rfl, ?_, ?_, ?_, fun x hx2 => hx x (List.mem_cons_of_mem _ hx2), ?_, fun x hx2 => ?_, l ++ [.lst (T.take m)], ?_⟩⟩
      · unfold dLst
        rw [fl, bind_ok, if_pos small]
      · rw [List.append_assoc, List.getElem?_append_right (Nat.le_refl _), Nat.sub_self]
        rfl
      · exact Nat.lt_of_lt_of_le (by simp at hl2; omega : acc.length < 5000) size_big
      · rw [List.length_append, List.length_singleton]
        rw [List.length_cons] at hl2
        omega
      · have far : ∀ j, μ1.length < j → ∀ y, (μ1 ++ (M.lst acc :: l) ++ [M.lst (T.take m)])[j]? = some y → ((μ1 ++ (M.lst acc :: l) ++ [M.lst (T.take m)]).set μ1.length (.lst (acc ++ [.loc (μ1 ++ (M.lst acc :: l)).length])))[j]? = some y := fun j hj y hy => by
          rw [List.getElem?_set_ne (by omega)]
          exact hy
        rcases List.mem_append.mp hx2 with q | q
        · obtain ⟨j, k, e, h4, h5, h6⟩ := ha x q
          exact ⟨j, k, e, far j h6 _ (get_app h4), h5, h6⟩
        · have hj : μ1.length < (μ1 ++ (M.lst acc :: l)).length := by rw [List.length_append, List.length_cons]; omega
          exact ⟨_, m, List.mem_singleton.mp q, far _ hj _ get_last, hm, hj⟩
      · rw [List.append_assoc, List.set_append_right _ _ (Nat.le_refl _), Nat.sub_self]
        rfl)
    (fun acc μ' h => by
      obtain ⟨_, hl2, ha, l, rfl⟩ := h
      refine ⟨[M.lst [D.ins C (fs.zip (T.take m)), D.ins C (fs.zip (T.take m))]] ++ (M.lst acc :: l), by rw [List.append_assoc], ?_⟩
      rw [← List.append_assoc]
      refine ⟨Nat.le_trans p.1 (by rw [List.length_append]; exact Nat.le_add_right _ _), acc, ?_, by simpa using hl2, fun x hx => ?_⟩
      · rw [List.getElem?_append_right (Nat.le_refl _), Nat.sub_self]
        rfl
      · obtain ⟨j, k, e, h4, h5, h6⟩ := ha x hx
        exact ⟨j, k, e, Nat.ne_of_gt h6, h4, h5⟩)
  obtain ⟨l, rfl, hR⟩ := hR
  exact ⟨_, l, ec, hR⟩
theorem cl_take {ps : List PyData} (g : Goods n μ0 T ps) {μ' : List M} (p : Pre n μ0 μ') (m : Nat) : clos μ'.length (T.take m) = true := clos_mono p.1 (g.take m).clos
theorem asg_rows {e : DEn} {i : Nat} (h : ERow n μ0 T b e δ μ) (p : Pre n μ0 μ) : ∃ rr μ', dAsg e (dgName i) δ μ = .nx (δ.set i (some (.loc rr))) μ' ∧ Rows n μ' rr T b ∧ Pre n μ0 μ' := by
  obtain ⟨rr, l, h1, h2⟩ := h
  exact ⟨rr, μ ++ l, by rw [dAsg_eq, h1, thenS_ok]; rfl, h2, p.app l⟩
theorem app_rows {da : DAn} {i rr m : Nat} (hi : δ[i]? = some (some (.loc rr))) (hR : Rows n μ rr T b) (ha : da δ μ = .ok (T.take m) μ) (hm : m ≤ T.length) (hz : T.length ≤ 20) (hb : b ≤ 1000) (p : Pre n μ0 μ) :
    ∃ μ', dDrop (dAppend (dVar i) (dCons (dLst da) dNil)) δ μ = .nx δ μ' ∧ Rows n μ' rr T (b + 1) ∧ Pre n μ0 μ' := by
  obtain ⟨h0, rs, h1, h2, h3⟩ := hR
  have e : dLst da δ μ = .ok (.loc μ.length) (μ ++ [.lst (T.take m)]) := by
    unfold dLst
    rw [ha, bind_ok, if_pos]
    exact Nat.le_trans (Nat.le_trans (by rw [List.length_take]; omega : (T.take m).length ≤ 20) (by decide)) size_big
  have lt := get_lt h1
  refine ⟨(μ ++ [M.lst (T.take m)]).set rr (M.lst (rs ++ [D.loc μ.length])), ?_, ⟨h0, rs ++ [.loc μ.length], ?_, ?_, fun x hx => ?_⟩, (p.app _).set h0⟩
  · rw [dDrop_eq]
    unfold dAppend lstS
    rw [dVar_eq, hi, getV_some, bind_ok]
    dsimp only
    rw [h1]
    dsimp only
    rw [dCons_eq, e, bind_ok, dNil_eq, bind_ok, bind_ok]
    unfold fAppend
    dsimp only
    rw [get_app h1]
    dsimp only
    rw [if_pos (Nat.lt_of_lt_of_le (by omega : rs.length < 5000) size_big), thenS_ok]
  · rw [List.getElem?_set_self (by rw [List.length_append]; omega)]
  · rw [List.length_append]
    exact Nat.add_le_add h2 (Nat.le_refl 1)
  · rcases List.mem_append.mp hx with q | q
    · obtain ⟨j, k, e, hj, h4, h5⟩ := h3 x q
      exact ⟨j, k, e, hj, by rw [List.getElem?_set_ne (Ne.symm hj)]; exact get_app h4, h5⟩
    · exact ⟨μ.length, m, List.mem_singleton.mp q, Nat.ne_of_gt lt, by rw [List.getElem?_set_ne (Nat.ne_of_lt lt)]; exact get_last, hm⟩
theorem pre_take {μ1 : List M} (p : Pre μ.length μ μ1) : μ1.take μ.length = μ := by
  refine List.ext_getElem? fun k => ?_
  rw [List.getElem?_take]
  split
  · rename_i h
    exact p.2 k h
  · rename_i h
    rw [List.getElem?_eq_none_iff.mpr (by omega)]
theorem leave_pre {μ1 : List M} {k : Bool} (p : Pre μ.length μ μ1) : leaveT μ (.ret (.bl k) μ1) = .ok (.bl k) μ := by
  rw [leave_clo ⟨p.1, fun j hj => .inl (p.2 j hj)⟩ rfl, pre_take p]
theorem ret_all {μ1 : List M} {e : DEn} {k t : Nat} {ps : List PyData} (g : Goods μ.length μ T ps) (hE : ERow μ.length μ T b e δ μ1) (p : Pre μ.length μ μ1) (hk : δ[k]? = some (some (.loc t))) (ht : μ[t]? = some (.lst T)) (hb : b ≤ 1000) (hT : T.length ≤ 20) :
    leaveT μ (dRet (dCall d__law_all 2 [] (dCons e (dCons (dVar k) dNil))) δ μ1) = .ok (.bl true) μ := by
  obtain ⟨rr, l, h1, h2⟩ := hE
  have pl := p.app l
  have e2 : dCall d__law_all 2 [] (dCons e (dCons (dVar k) dNil)) δ μ1 = .ok (.bl true) (μ1 ++ l) := by
    rw [dCall_eq, dCons_eq, h1, bind_ok, dCons_eq, dVar_eq, hk, getV_some, bind_ok, dNil_eq, bind_ok, bind_ok, bind_ok]
    show (if ([D.loc rr, D.loc t] ++ []).length = 2 then d__law_all ([D.loc rr, D.loc t] ++ []) (μ1 ++ l) else .bad) = _
    refine (if_pos rfl).trans ?_
    exact all_ok g pl (by rw [pl.2 t (get_lt ht)]; exact ht) h2 hb hT
  rw [dRet_eq, e2, thenS_ok]
  exact leave_pre pl
end
end K77
set_option Elab.async false
set_option linter.all false
set_option maxRecDepth 100000
set_option maxHeartbeats 2000000
/-! K77n: each of the law's own defs is True. -/
namespace K77
open PySem PySem.Spec PyProof.Rows L2 Gk Dn DnH
section
variable {ad : Str → Addr} {a b c d : D} {t : Nat} {μ : List M} {ps : List PyData}
theorem seq_nx {g h : DSn} {δ δ2 : VS} {μ1 μ2 : List M} (e : g δ μ1 = .nx δ2 μ2) : dSeq g h δ μ1 = h δ2 μ2 := by rw [dSeq_eq, e, thn_nx]
theorem asg_val {e : DEn} {i : Nat} {δ : VS} {μ1 : List M} {x : D} (h : e δ μ1 = .ok x μ1) : dAsg e (dgName i) δ μ1 = .nx (δ.set i (some x)) μ1 := by rw [dAsg_eq, h, thenS_ok]; rfl
theorem goods7 : ∀ {ps : List PyData}, Goods μ.length μ [a, b, c, d] ps → ∃ qs, Goods μ.length μ [a, b, c, d, a, b, c] qs
  | [_, _, _, _], ⟨h1, h2, h3, h4, _⟩ => ⟨[_, _, _, _, _, _, _], h1, h2, h3, h4, h1, h2, h3, trivial⟩
theorem goods6 : ∀ {ps : List PyData}, Goods μ.length μ [a, b, c, d] ps → ∃ qs, Goods μ.length μ [a, b, c, d, a, b] qs
  | [_, _, _, _], ⟨h1, h2, h3, h4, _⟩ => ⟨[_, _, _, _, _, _], h1, h2, h3, h4, h1, h2, trivial⟩
theorem asg_two {e1 e2 : DEn} {i : Nat} {δ : VS} {μ1 : List M} {x y : D} (h1 : e1 δ μ1 = .ok x μ1) (h2 : e2 δ μ1 = .ok y μ1) : dAsg (dLst (dCons e1 (dCons e2 dNil))) (dgName i) δ μ1 = .nx (δ.set i (some (.loc μ1.length))) (μ1 ++ [.lst [x, y]]) := by
  have e : dLst (dCons e1 (dCons e2 dNil)) δ μ1 = .ok (.loc μ1.length) (μ1 ++ [.lst [x, y]]) := by
    unfold dLst
    rw [dCons_eq, h1, bind_ok, dCons_eq, h2, bind_ok, dNil_eq, bind_ok, bind_ok, bind_ok]
    exact if_pos (Nat.le_trans (by decide : 2 ≤ 5000) size_big)
  rw [dAsg_eq, e, thenS_ok]
  rfl
/-- each of two instances shows what it was given -/
theorem loop_two {cf : ClsF} {C : Addr} {fs : List Str} {V : List D} {qs : List PyData} {δ : VS} {μ1 : List M} {r i j : Nat} {vs : DAn} (g : Goods μ.length μ V qs) (p : Pre μ.length μ μ1) (hi : δ[i]? = some (some (.loc r))) (hr : μ1[r]? = some (.lst [.ins C (fs.zip V), .ins C (fs.zip V)]))
    (hj : j < δ.length) (hv : ∀ μ', vs (δ.set j (some (.ins C (fs.zip V)))) μ' = .ok V μ') (hl : fs.length = V.length) (hc : ∀ f ∈ fs, cf C f = true) (nd : fs.Nodup) (hz : V.length ≤ 20) :
    ∃ l, dFor (dSeqI (dVar i)) (dgName j) (dIfS (dTest (dOp (fEq true) (dCB (f1 fRepr) (dCons (dLst (flds cf (dVar j) fs)) dNil)) (dCB (f1 fRepr) (dCons (dLst vs) dNil)))) (dRet (dC (.bl false))) dNext) δ μ1 = .nx (δ.set j (some (.ins C (fs.zip V)))) (μ1 ++ l) := by
  have it : dSeqI (dVar i) δ μ1 = .ok ⟨[.ins C (fs.zip V), .ins C (fs.zip V)], gdOf (.loc r) [.ins C (fs.zip V), .ins C (fs.zip V)]⟩ μ1 := by
    unfold dSeqI
    rw [dVar_eq, hi, getV_some, bind_ok]
    have q : seqS μ1 (.loc r) = some [.ins C (fs.zip V), .ins C (fs.zip V)] := by rw [seqS, hr]
    rw [q]
  have sm : V.length ≤ sizeLine := Nat.le_trans (Nat.le_trans hz (by decide)) size_big
  have hq : qs.length ≤ 20 := by rw [g.len]; exact hz
  refine dFor_loop (W := fun o => ∃ l, o = .nx (δ.set j (some (.ins C (fs.zip V)))) (μ1 ++ l)) (J := fun xs δ' μ' => (∀ x ∈ xs, x = .ins C (fs.zip V)) ∧ (∃ l, μ' = μ1 ++ l) ∧ δ'.set j (some (.ins C (fs.zip V))) = δ.set j (some (.ins C (fs.zip V))) ∧ (xs = [] → δ' = δ.set j (some (.ins C (fs.zip V))))) it ?_ ?_ ?_
    ⟨fun x hx => ?_, ⟨[], by rw [List.append_nil]⟩, rfl, fun e => nomatch e⟩
  · rintro xs δ' μ' ⟨_, ⟨l, rfl⟩, _⟩
    exact gdOf_loc (get_app hr)
  · rintro x xs δ' μ' ⟨hx, ⟨l, rfl⟩, hδ, _⟩
    obtain rfl := hx x List.mem_cons_self
    refine ⟨_, _, rfl, ?_⟩
    have e0 : List.set δ' j (some (D.ins C (fs.zip V))) = List.set δ j (some (D.ins C (fs.zip V))) := hδ
    rw [e0]
    have pl := p.app l
    have gj : (List.set δ j (some (D.ins C (fs.zip V))))[j]? = some (some (.ins C (fs.zip V))) := List.getElem?_set_self hj
    have f1' : ∀ μ', dLst (flds cf (dVar j) fs) (List.set δ j (some (D.ins C (fs.zip V)))) μ' = .ok (.loc μ'.length) (μ' ++ [.lst V]) := fun μ' => by
      unfold dLst
      rw [flds_all (by rw [dVar_eq, gj, getV_some]) hl hc nd, bind_ok, if_pos sm]
    have f2' : ∀ μ', dLst vs (List.set δ j (some (D.ins C (fs.zip V)))) μ' = .ok (.loc μ'.length) (μ' ++ [.lst V]) := fun μ' => by
      unfold dLst
      rw [hv μ', bind_ok, if_pos sm]
    have r1 := repr_at (k := (μ1 ++ l).length) g (pl.app [.lst V]) get_last hq
    have r2 := repr_at (k := (μ1 ++ l ++ [M.lst V]).length) g ((pl.app [.lst V]).app [.lst V]) get_last hq
    have c1 : dCB (f1 fRepr) (dCons (dLst (flds cf (dVar j) fs)) dNil) (List.set δ j (some (D.ins C (fs.zip V)))) (μ1 ++ l) = .ok (.str (PyData.shown (.list qs))) (μ1 ++ l ++ [.lst V]) := by
      rw [dCB_eq, dCons_eq, f1', bind_ok, dNil_eq, bind_ok, bind_ok, f1_eq]
      exact r1
    have c2 : dCB (f1 fRepr) (dCons (dLst vs) dNil) (List.set δ j (some (D.ins C (fs.zip V)))) (μ1 ++ l ++ [.lst V]) = .ok (.str (PyData.shown (.list qs))) (μ1 ++ l ++ [.lst V] ++ [.lst V]) := by
      rw [dCB_eq, dCons_eq, f2', bind_ok, dNil_eq, bind_ok, bind_ok, f1_eq]
      exact r2
    have tt : dTest (dOp (fEq true) (dCB (f1 fRepr) (dCons (dLst (flds cf (dVar j) fs)) dNil)) (dCB (f1 fRepr) (dCons (dLst vs) dNil))) (List.set δ j (some (D.ins C (fs.zip V)))) (μ1 ++ l) = .ok false (μ1 ++ l ++ [.lst V] ++ [.lst V]) := by
      rw [dTest_eq, dOp_eq, c1, bind_ok, c2, bind_ok, eq_str, beq_self_eq_true]
      rfl
    rw [dIfS_eq, tt, thenT_ok, if_neg (by decide)]
    exact ⟨fun y hy => hx y (List.mem_cons_of_mem _ hy), ⟨l ++ [.lst V] ++ [.lst V], by rw [List.append_assoc, List.append_assoc, List.append_assoc]⟩, by rw [List.set_set], fun _ => rfl⟩
  · rintro δ' μ' ⟨_, ⟨l, rfl⟩, _, h⟩
    exact ⟨l, by rw [h rfl]⟩
  · rcases List.mem_cons.mp hx with q | q
    · exact q
    · exact List.mem_singleton.mp q
theorem true__law_answers (g : Goods μ.length μ [a, b, c, d] ps) (ht : μ[t]? = some (.lst [a, b, c, d])) : d__law_answers ad [a, b, c, .loc t] μ = .ok (.bl true) μ := by
  have NT20 : ([a, b, c, d] : List D).length ≤ 20 := (show 4 ≤ 20 by decide)
  have p0 : Pre μ.length μ μ := .refl (Nat.le_refl _)
  unfold d__law_answers b__law_answers
  have es : slots 6 [(a : D), (b : D), (c : D), (.loc t : D)] = [some (a : D), some (b : D), some (c : D), some (.loc t : D), none, none] := rfl
  rw [dDef_tree, es]
  obtain ⟨r1, m1, e1, R1, p1⟩ := asg_rows (δ := [some (a : D), some (b : D), some (c : D), some (.loc t : D), none, none]) (e := (dLst (dCons (dLst (dCons (dFld (cF ad) (dMake (ad "Weights") (dC_Weights ad) 2 [] (dCons (dVar 0) dNil)) "row") dNil)) (dCons (dLst (dCons (dFld (cF ad) (dMake (ad "Hidden") (dC_Hidden ad) 2 [] (dCons (dVar 0) dNil)) "numbers") dNil)) (dCons (dLst (dCons (dFld (cF ad) (dMake (ad "Clash") (dC_Clash ad) 2 [] (dCons (dVar 0) dNil)) "weights") dNil)) (dCons (dLst (dCons (dFld (cF ad) (dMake (ad "Given") (dC_Given ad) 2 [] (dCons (dVar 0) dNil)) "rows") dNil)) (dCons (dLst (dCons (dFld (cF ad) (dMake (ad "RestWeights") (dC_RestWeights ad) 2 [] (dCons (dVar 0) dNil)) "row") dNil)) dNil))))))) (i := 4) (er_lst (ar_cons (m := 1) (fun μ2 p => flds_all (fs := ["row"]) (mk_p (ad := ad) (x := "Weights") (fs := ["row"]) (xs := @List.take D 1 [a, b, c, d]) rfl rfl (cl_take g p 1) (by decide +kernel) (by decide +kernel) (by decide) rfl) rfl (cF_all (by decide +kernel)) (by decide +kernel)) (show 1 ≤ 4 by decide) NT20 (fun μ3 p => (ar_cons (m := 1) (fun μ2 p => flds_all (fs := ["numbers"]) (mk_p (ad := ad) (x := "Hidden") (fs := ["numbers"]) (xs := @List.take D 1 [a, b, c, d]) rfl rfl (cl_take g p 1) (by decide +kernel) (by decide +kernel) (by decide) rfl) rfl (cF_all (by decide +kernel)) (by decide +kernel)) (show 1 ≤ 4 by decide) NT20 (fun μ3 p => (ar_cons (m := 1) (fun μ2 p => flds_all (fs := ["weights"]) (mk_p (ad := ad) (x := "Clash") (fs := ["weights"]) (xs := @List.take D 1 [a, b, c, d]) rfl rfl (cl_take g p 1) (by decide +kernel) (by decide +kernel) (by decide) rfl) rfl (cF_all (by decide +kernel)) (by decide +kernel)) (show 1 ≤ 4 by decide) NT20 (fun μ3 p => (ar_cons (m := 1) (fun μ2 p => flds_all (fs := ["rows"]) (mk_p (ad := ad) (x := "Given") (fs := ["rows"]) (xs := @List.take D 1 [a, b, c, d]) rfl rfl (cl_take g p 1) (by decide +kernel) (by decide +kernel) (by decide) rfl) rfl (cF_all (by decide +kernel)) (by decide +kernel)) (show 1 ≤ 4 by decide) NT20 (fun μ3 p => (ar_cons (m := 1) (fun μ2 p => flds_all (fs := ["row"]) (mk_p (ad := ad) (x := "RestWeights") (fs := ["row"]) (xs := @List.take D 1 [a, b, c, d]) rfl rfl (cl_take g p 1) (by decide +kernel) (by decide +kernel) (by decide) rfl) rfl (cF_all (by decide +kernel)) (by decide +kernel)) (show 1 ≤ 4 by decide) NT20 (fun μ3 p => ar_nil) p)) p)) p)) p)) p0) (by decide) p0) p0
  refine Eq.trans (congrArg (leaveT μ) (seq_nx e1)) ?_
  obtain ⟨r2, m2, e2, R2, p2⟩ := asg_rows (δ := [some (a : D), some (b : D), some (c : D), some (.loc t : D), some ((.loc r1) : D), none]) (e := (dOp fPlus (dVar 4) (dLst (dCons (dLst (dCons (dFld (cF ad) (dMake (ad "RestHidden") (dC_RestHidden ad) 2 [] (dCons (dVar 0) dNil)) "numbers") dNil)) (dCons (dLst (dCons (dFld (cF ad) (dMake (ad "Missing") (dC_Missing ad) 2 [] (dCons (dVar 0) dNil)) "column") dNil)) dNil))))) (i := 4) (er_plus (er_var rfl R1) (fun l => (er_lst (ar_cons (m := 1) (fun μ2 p => flds_all (fs := ["numbers"]) (mk_p (ad := ad) (x := "RestHidden") (fs := ["numbers"]) (xs := @List.take D 1 [a, b, c, d]) rfl rfl (cl_take g p 1) (by decide +kernel) (by decide +kernel) (by decide) rfl) rfl (cF_all (by decide +kernel)) (by decide +kernel)) (show 1 ≤ 4 by decide) NT20 (fun μ3 p => (ar_cons (m := 1) (fun μ2 p => flds_all (fs := ["column"]) (mk_p (ad := ad) (x := "Missing") (fs := ["column"]) (xs := @List.take D 1 [a, b, c, d]) rfl rfl (cl_take g p 1) (by decide +kernel) (by decide +kernel) (by decide) rfl) rfl (cF_all (by decide +kernel)) (by decide +kernel)) (show 1 ≤ 4 by decide) NT20 (fun μ3 p => ar_nil) p)) (p1.app l)) (by decide) (p1.app l))) (by decide) p1) p1
  refine Eq.trans (congrArg (leaveT μ) (seq_nx e2)) ?_
  obtain ⟨r3, m3, e3, R3, p3⟩ := asg_rows (δ := [some (a : D), some (b : D), some (c : D), some (.loc t : D), some ((.loc r2) : D), none]) (e := (dOp fPlus (dVar 4) (dComp (dSeqI (dLst (dCons (dMake (ad "Recovered") (dC_Recovered ad) 3 [] (dCons (dVar 0) (dCons (dVar 1) dNil))) (dCons (dMakeK (ad "Recovered") (dC_Recovered ad) 3 2 [1, 0] (dCons (dVar 1) (dCons (dVar 0) dNil))) dNil)))) (dgName 5) dYes (dLst (dCons (dFld (cF ad) (dVar 5) "numbers") (dCons (dFld (cF ad) (dVar 5) "filling") dNil))) [5]))) (i := 4) (er_plus (er_var rfl R2) (fun l => (er_comp (fs := ["numbers", "filling"]) (m := 2) (fun μ2 p => (mk_p (ad := ad) (x := "Recovered") (fs := ["numbers", "filling"]) (xs := @List.take D 2 [a, b, c, d]) rfl rfl (cl_take g p 2) (by decide +kernel) (by decide +kernel) (by decide) rfl)) (fun μ2 p => (mk_k (ad := ad) (x := "Recovered") (fs := ["numbers", "filling"]) (xs := @List.take D 2 [a, b, c, d]) rfl rfl rfl rfl (cl_take g p 2) (by decide +kernel) (by decide +kernel) (by decide) rfl)) (show 2 ≤ 4 by decide) NT20 rfl (cF_all (by decide +kernel)) (by decide +kernel) (show 5 < 6 by decide) (p2.app l))) (by decide) p2) p2
  refine Eq.trans (congrArg (leaveT μ) (seq_nx e3)) ?_
  obtain ⟨r4, m4, e4, R4, p4⟩ := asg_rows (δ := [some (a : D), some (b : D), some (c : D), some (.loc t : D), some ((.loc r3) : D), none]) (e := (dOp fPlus (dVar 4) (dComp (dSeqI (dLst (dCons (dMake (ad "Parted") (dC_Parted ad) 3 [] (dCons (dVar 0) (dCons (dVar 1) dNil))) (dCons (dMakeK (ad "Parted") (dC_Parted ad) 3 2 [1, 0] (dCons (dVar 1) (dCons (dVar 0) dNil))) dNil)))) (dgName 5) dYes (dLst (dCons (dFld (cF ad) (dVar 5) "answer") (dCons (dFld (cF ad) (dVar 5) "numbers") dNil))) [5]))) (i := 4) (er_plus (er_var rfl R3) (fun l => (er_comp (fs := ["answer", "numbers"]) (m := 2) (fun μ2 p => (mk_p (ad := ad) (x := "Parted") (fs := ["answer", "numbers"]) (xs := @List.take D 2 [a, b, c, d]) rfl rfl (cl_take g p 2) (by decide +kernel) (by decide +kernel) (by decide) rfl)) (fun μ2 p => (mk_k (ad := ad) (x := "Parted") (fs := ["answer", "numbers"]) (xs := @List.take D 2 [a, b, c, d]) rfl rfl rfl rfl (cl_take g p 2) (by decide +kernel) (by decide +kernel) (by decide) rfl)) (show 2 ≤ 4 by decide) NT20 rfl (cF_all (by decide +kernel)) (by decide +kernel) (show 5 < 6 by decide) (p3.app l))) (by decide) p3) p3
  refine Eq.trans (congrArg (leaveT μ) (seq_nx e4)) ?_
  obtain ⟨r5, m5, e5, R5, p5⟩ := asg_rows (δ := [some (a : D), some (b : D), some (c : D), some (.loc t : D), some ((.loc r4) : D), none]) (e := (dOp fPlus (dVar 4) (dComp (dSeqI (dLst (dCons (dMake (ad "Whole") (dC_Whole ad) 4 [] (dCons (dVar 0) (dCons (dVar 1) (dCons (dVar 2) dNil)))) (dCons (dMakeK (ad "Whole") (dC_Whole ad) 4 3 [2, 1, 0] (dCons (dVar 2) (dCons (dVar 1) (dCons (dVar 0) dNil)))) dNil)))) (dgName 5) dYes (dLst (dCons (dFld (cF ad) (dVar 5) "bottom") (dCons (dFld (cF ad) (dVar 5) "weights") (dCons (dFld (cF ad) (dVar 5) "numbers") dNil)))) [5]))) (i := 4) (er_plus (er_var rfl R4) (fun l => (er_comp (fs := ["bottom", "weights", "numbers"]) (m := 3) (fun μ2 p => (mk_p (ad := ad) (x := "Whole") (fs := ["bottom", "weights", "numbers"]) (xs := @List.take D 3 [a, b, c, d]) rfl rfl (cl_take g p 3) (by decide +kernel) (by decide +kernel) (by decide) rfl)) (fun μ2 p => (mk_k (ad := ad) (x := "Whole") (fs := ["bottom", "weights", "numbers"]) (xs := @List.take D 3 [a, b, c, d]) rfl rfl rfl rfl (cl_take g p 3) (by decide +kernel) (by decide +kernel) (by decide) rfl)) (show 3 ≤ 4 by decide) NT20 rfl (cF_all (by decide +kernel)) (by decide +kernel) (show 5 < 6 by decide) (p4.app l))) (by decide) p4) p4
  refine Eq.trans (congrArg (leaveT μ) (seq_nx e5)) ?_
  obtain ⟨r6, m6, e6, R6, p6⟩ := asg_rows (δ := [some (a : D), some (b : D), some (c : D), some (.loc t : D), some ((.loc r5) : D), none]) (e := (dOp fPlus (dVar 4) (dComp (dSeqI (dLst (dCons (dMake (ad "Meeting") (dC_Meeting ad) 4 [] (dCons (dVar 0) (dCons (dVar 1) (dCons (dVar 2) dNil)))) (dCons (dMakeK (ad "Meeting") (dC_Meeting ad) 4 3 [2, 1, 0] (dCons (dVar 2) (dCons (dVar 1) (dCons (dVar 0) dNil)))) dNil)))) (dgName 5) dYes (dLst (dCons (dFld (cF ad) (dVar 5) "row") (dCons (dFld (cF ad) (dVar 5) "first") (dCons (dFld (cF ad) (dVar 5) "second") dNil)))) [5]))) (i := 4) (er_plus (er_var rfl R5) (fun l => (er_comp (fs := ["row", "first", "second"]) (m := 3) (fun μ2 p => (mk_p (ad := ad) (x := "Meeting") (fs := ["row", "first", "second"]) (xs := @List.take D 3 [a, b, c, d]) rfl rfl (cl_take g p 3) (by decide +kernel) (by decide +kernel) (by decide) rfl)) (fun μ2 p => (mk_k (ad := ad) (x := "Meeting") (fs := ["row", "first", "second"]) (xs := @List.take D 3 [a, b, c, d]) rfl rfl rfl rfl (cl_take g p 3) (by decide +kernel) (by decide +kernel) (by decide) rfl)) (show 3 ≤ 4 by decide) NT20 rfl (cF_all (by decide +kernel)) (by decide +kernel) (show 5 < 6 by decide) (p5.app l))) (by decide) p5) p5
  refine Eq.trans (congrArg (leaveT μ) (seq_nx e6)) ?_
  obtain ⟨r7, m7, e7, R7, p7⟩ := asg_rows (δ := [some (a : D), some (b : D), some (c : D), some (.loc t : D), some ((.loc r6) : D), none]) (e := (dOp fPlus (dVar 4) (dComp (dSeqI (dLst (dCons (dMake (ad "Fewest") (dC_Fewest ad) 3 [] (dCons (dVar 0) (dCons (dVar 1) dNil))) (dCons (dMakeK (ad "Fewest") (dC_Fewest ad) 3 2 [1, 0] (dCons (dVar 1) (dCons (dVar 0) dNil))) dNil)))) (dgName 5) dYes (dLst (dCons (dFld (cF ad) (dVar 5) "count") (dCons (dFld (cF ad) (dVar 5) "row") dNil))) [5]))) (i := 4) (er_plus (er_var rfl R6) (fun l => (er_comp (fs := ["count", "row"]) (m := 2) (fun μ2 p => (mk_p (ad := ad) (x := "Fewest") (fs := ["count", "row"]) (xs := @List.take D 2 [a, b, c, d]) rfl rfl (cl_take g p 2) (by decide +kernel) (by decide +kernel) (by decide) rfl)) (fun μ2 p => (mk_k (ad := ad) (x := "Fewest") (fs := ["count", "row"]) (xs := @List.take D 2 [a, b, c, d]) rfl rfl rfl rfl (cl_take g p 2) (by decide +kernel) (by decide +kernel) (by decide) rfl)) (show 2 ≤ 4 by decide) NT20 rfl (cF_all (by decide +kernel)) (by decide +kernel) (show 5 < 6 by decide) (p6.app l))) (by decide) p6) p6
  refine Eq.trans (congrArg (leaveT μ) (seq_nx e7)) ?_
  obtain ⟨r8, m8, e8, R8, p8⟩ := asg_rows (δ := [some (a : D), some (b : D), some (c : D), some (.loc t : D), some ((.loc r7) : D), none]) (e := (dOp fPlus (dVar 4) (dComp (dSeqI (dLst (dCons (dMake (ad "Dependent") (dC_Dependent ad) 3 [] (dCons (dVar 0) (dCons (dVar 1) dNil))) (dCons (dMakeK (ad "Dependent") (dC_Dependent ad) 3 2 [1, 0] (dCons (dVar 1) (dCons (dVar 0) dNil))) dNil)))) (dgName 5) dYes (dLst (dCons (dFld (cF ad) (dVar 5) "row") (dCons (dFld (cF ad) (dVar 5) "numbers") dNil))) [5]))) (i := 4) (er_plus (er_var rfl R7) (fun l => (er_comp (fs := ["row", "numbers"]) (m := 2) (fun μ2 p => (mk_p (ad := ad) (x := "Dependent") (fs := ["row", "numbers"]) (xs := @List.take D 2 [a, b, c, d]) rfl rfl (cl_take g p 2) (by decide +kernel) (by decide +kernel) (by decide) rfl)) (fun μ2 p => (mk_k (ad := ad) (x := "Dependent") (fs := ["row", "numbers"]) (xs := @List.take D 2 [a, b, c, d]) rfl rfl rfl rfl (cl_take g p 2) (by decide +kernel) (by decide +kernel) (by decide) rfl)) (show 2 ≤ 4 by decide) NT20 rfl (cF_all (by decide +kernel)) (by decide +kernel) (show 5 < 6 by decide) (p7.app l))) (by decide) p7) p7
  refine Eq.trans (congrArg (leaveT μ) (seq_nx e8)) ?_
  exact ret_all (δ := [some (a : D), some (b : D), some (c : D), some (.loc t : D), some ((.loc r8) : D), none]) (e := (dVar 4)) g (er_var rfl R8) p8 rfl ht (by decide) NT20
theorem true__law_groups (g : Goods μ.length μ [a, b, c, d] ps) (ht : μ[t]? = some (.lst [a, b, c, d])) : d__law_groups ad [a, b, c, d, .loc t] μ = .ok (.bl true) μ := by
  have NT20 : ([a, b, c, d] : List D).length ≤ 20 := (show 4 ≤ 20 by decide)
  have p0 : Pre μ.length μ μ := .refl (Nat.le_refl _)
  unfold d__law_groups b__law_groups
  have es : slots 7 [(a : D), (b : D), (c : D), (d : D), (.loc t : D)] = [some (a : D), some (b : D), some (c : D), some (d : D), some (.loc t : D), none, none] := rfl
  rw [dDef_tree, es]
  obtain ⟨r1, m1, e1, R1, p1⟩ := asg_rows (δ := [some (a : D), some (b : D), some (c : D), some (d : D), some (.loc t : D), none, none]) (e := (dLst (dCons (dLst (dCons (dFld (cF ad) (dMake (ad "Ring") (dC_Ring ad) 2 [] (dCons (dVar 0) dNil)) "points") dNil)) (dCons (dLst (dCons (dFld (cF ad) (dMake (ad "Chain") (dC_Chain ad) 2 [] (dCons (dVar 0) dNil)) "cells") dNil)) dNil)))) (i := 5) (er_lst (ar_cons (m := 1) (fun μ2 p => flds_all (fs := ["points"]) (mk_p (ad := ad) (x := "Ring") (fs := ["points"]) (xs := @List.take D 1 [a, b, c, d]) rfl rfl (cl_take g p 1) (by decide +kernel) (by decide +kernel) (by decide) rfl) rfl (cF_all (by decide +kernel)) (by decide +kernel)) (show 1 ≤ 4 by decide) NT20 (fun μ3 p => (ar_cons (m := 1) (fun μ2 p => flds_all (fs := ["cells"]) (mk_p (ad := ad) (x := "Chain") (fs := ["cells"]) (xs := @List.take D 1 [a, b, c, d]) rfl rfl (cl_take g p 1) (by decide +kernel) (by decide +kernel) (by decide) rfl) rfl (cF_all (by decide +kernel)) (by decide +kernel)) (show 1 ≤ 4 by decide) NT20 (fun μ3 p => ar_nil) p)) p0) (by decide) p0) p0
  refine Eq.trans (congrArg (leaveT μ) (seq_nx e1)) ?_
  obtain ⟨r2, m2, e2, R2, p2⟩ := asg_rows (δ := [some (a : D), some (b : D), some (c : D), some (d : D), some (.loc t : D), some ((.loc r1) : D), none]) (e := (dOp fPlus (dVar 5) (dComp (dSeqI (dLst (dCons (dMake (ad "Piece") (dC_Piece ad) 4 [] (dCons (dVar 0) (dCons (dVar 1) (dCons (dVar 2) dNil)))) (dCons (dMakeK (ad "Piece") (dC_Piece ad) 4 3 [2, 1, 0] (dCons (dVar 2) (dCons (dVar 1) (dCons (dVar 0) dNil)))) dNil)))) (dgName 6) dYes (dLst (dCons (dFld (cF ad) (dVar 6) "points") (dCons (dFld (cF ad) (dVar 6) "ties") (dCons (dFld (cF ad) (dVar 6) "groups") dNil)))) [6]))) (i := 5) (er_plus (er_var rfl R1) (fun l => (er_comp (fs := ["points", "ties", "groups"]) (m := 3) (fun μ2 p => (mk_p (ad := ad) (x := "Piece") (fs := ["points", "ties", "groups"]) (xs := @List.take D 3 [a, b, c, d]) rfl rfl (cl_take g p 3) (by decide +kernel) (by decide +kernel) (by decide) rfl)) (fun μ2 p => (mk_k (ad := ad) (x := "Piece") (fs := ["points", "ties", "groups"]) (xs := @List.take D 3 [a, b, c, d]) rfl rfl rfl rfl (cl_take g p 3) (by decide +kernel) (by decide +kernel) (by decide) rfl)) (show 3 ≤ 4 by decide) NT20 rfl (cF_all (by decide +kernel)) (by decide +kernel) (show 6 < 7 by decide) (p1.app l))) (by decide) p1) p1
  refine Eq.trans (congrArg (leaveT μ) (seq_nx e2)) ?_
  obtain ⟨r3, m3, e3, R3, p3⟩ := asg_rows (δ := [some (a : D), some (b : D), some (c : D), some (d : D), some (.loc t : D), some ((.loc r2) : D), none]) (e := (dOp fPlus (dVar 5) (dComp (dSeqI (dLst (dCons (dMake (ad "Walk") (dC_Walk ad) 3 [] (dCons (dVar 0) (dCons (dVar 1) dNil))) (dCons (dMakeK (ad "Walk") (dC_Walk ad) 3 2 [1, 0] (dCons (dVar 1) (dCons (dVar 0) dNil))) dNil)))) (dgName 6) dYes (dLst (dCons (dFld (cF ad) (dVar 6) "points") (dCons (dFld (cF ad) (dVar 6) "groups") dNil))) [6]))) (i := 5) (er_plus (er_var rfl R2) (fun l => (er_comp (fs := ["points", "groups"]) (m := 2) (fun μ2 p => (mk_p (ad := ad) (x := "Walk") (fs := ["points", "groups"]) (xs := @List.take D 2 [a, b, c, d]) rfl rfl (cl_take g p 2) (by decide +kernel) (by decide +kernel) (by decide) rfl)) (fun μ2 p => (mk_k (ad := ad) (x := "Walk") (fs := ["points", "groups"]) (xs := @List.take D 2 [a, b, c, d]) rfl rfl rfl rfl (cl_take g p 2) (by decide +kernel) (by decide +kernel) (by decide) rfl)) (show 2 ≤ 4 by decide) NT20 rfl (cF_all (by decide +kernel)) (by decide +kernel) (show 6 < 7 by decide) (p2.app l))) (by decide) p2) p2
  refine Eq.trans (congrArg (leaveT μ) (seq_nx e3)) ?_
  refine Eq.trans (congrArg (leaveT μ) (seq_nx (asg_val (δ := [some (a : D), some (b : D), some (c : D), some (d : D), some (.loc t : D), some ((.loc r3) : D), none]) (e := (dMake (ad "Balance") (dC_Balance ad) 5 [] (dCons (dVar 0) (dCons (dVar 1) (dCons (dVar 2) (dCons (dVar 3) dNil)))))) (i := 6) (mk_p (ad := ad) (x := "Balance") (fs := ["plus", "minus", "times", "groups"]) (xs := @List.take D 4 [a, b, c, d]) rfl rfl (cl_take g p3 4) (by decide +kernel) (by decide +kernel) (by decide) rfl)))) ?_
  obtain ⟨m5, e5, R5, p5⟩ := app_rows (δ := [some (a : D), some (b : D), some (c : D), some (d : D), some (.loc t : D), some ((.loc r3) : D), some ((.ins (ad "Balance") ((["plus", "minus", "times", "groups"] : List Str).zip (@List.take D 4 [a, b, c, d]))) : D)]) (da := (dCons (dFld (cF ad) (dVar 6) "plus") (dCons (dFld (cF ad) (dVar 6) "minus") (dCons (dFld (cF ad) (dVar 6) "times") (dCons (dFld (cF ad) (dVar 6) "groups") dNil))))) (m := 4) (i := 5) rfl R3 (flds_all (fs := ["plus", "minus", "times", "groups"]) (xs := @List.take D 4 [a, b, c, d]) (e := dVar 6) (C := ad "Balance") rfl rfl (cF_all (by decide +kernel)) (by decide +kernel)) (show 4 ≤ 4 by decide) NT20 (by decide) p3
  refine Eq.trans (congrArg (leaveT μ) (seq_nx e5)) ?_
  refine Eq.trans (congrArg (leaveT μ) (seq_nx (asg_val (δ := [some (a : D), some (b : D), some (c : D), some (d : D), some (.loc t : D), some ((.loc r3) : D), some ((.ins (ad "Balance") ((["plus", "minus", "times", "groups"] : List Str).zip (@List.take D 4 [a, b, c, d]))) : D)]) (e := (dMakeK (ad "Balance") (dC_Balance ad) 5 4 [3, 2, 1, 0] (dCons (dVar 3) (dCons (dVar 2) (dCons (dVar 1) (dCons (dVar 0) dNil)))))) (i := 6) (mk_k (ad := ad) (x := "Balance") (fs := ["plus", "minus", "times", "groups"]) (xs := @List.take D 4 [a, b, c, d]) rfl rfl rfl rfl (cl_take g p5 4) (by decide +kernel) (by decide +kernel) (by decide) rfl)))) ?_
  obtain ⟨m7, e7, R7, p7⟩ := app_rows (δ := [some (a : D), some (b : D), some (c : D), some (d : D), some (.loc t : D), some ((.loc r3) : D), some ((.ins (ad "Balance") ((["plus", "minus", "times", "groups"] : List Str).zip (@List.take D 4 [a, b, c, d]))) : D)]) (da := (dCons (dFld (cF ad) (dVar 6) "plus") (dCons (dFld (cF ad) (dVar 6) "minus") (dCons (dFld (cF ad) (dVar 6) "times") (dCons (dFld (cF ad) (dVar 6) "groups") dNil))))) (m := 4) (i := 5) rfl R5 (flds_all (fs := ["plus", "minus", "times", "groups"]) (xs := @List.take D 4 [a, b, c, d]) (e := dVar 6) (C := ad "Balance") rfl rfl (cF_all (by decide +kernel)) (by decide +kernel)) (show 4 ≤ 4 by decide) NT20 (by decide) p5
  refine Eq.trans (congrArg (leaveT μ) (seq_nx e7)) ?_
  obtain ⟨r8, m8, e8, R8, p8⟩ := asg_rows (δ := [some (a : D), some (b : D), some (c : D), some (d : D), some (.loc t : D), some ((.loc r3) : D), some ((.ins (ad "Balance") ((["plus", "minus", "times", "groups"] : List Str).zip (@List.take D 4 [a, b, c, d]))) : D)]) (e := (dOp fPlus (dVar 5) (dComp (dSeqI (dLst (dCons (dMake (ad "Taken") (dC_Taken ad) 4 [] (dCons (dVar 0) (dCons (dVar 1) (dCons (dVar 2) dNil)))) (dCons (dMakeK (ad "Taken") (dC_Taken ad) 4 3 [2, 1, 0] (dCons (dVar 2) (dCons (dVar 1) (dCons (dVar 0) dNil)))) dNil)))) (dgName 6) dYes (dLst (dCons (dFld (cF ad) (dVar 6) "steps") (dCons (dFld (cF ad) (dVar 6) "turns") (dCons (dFld (cF ad) (dVar 6) "missing") dNil)))) [6]))) (i := 5) (er_plus (er_var rfl R7) (fun l => (er_comp (fs := ["steps", "turns", "missing"]) (m := 3) (fun μ2 p => (mk_p (ad := ad) (x := "Taken") (fs := ["steps", "turns", "missing"]) (xs := @List.take D 3 [a, b, c, d]) rfl rfl (cl_take g p 3) (by decide +kernel) (by decide +kernel) (by decide) rfl)) (fun μ2 p => (mk_k (ad := ad) (x := "Taken") (fs := ["steps", "turns", "missing"]) (xs := @List.take D 3 [a, b, c, d]) rfl rfl rfl rfl (cl_take g p 3) (by decide +kernel) (by decide +kernel) (by decide) rfl)) (show 3 ≤ 4 by decide) NT20 rfl (cF_all (by decide +kernel)) (by decide +kernel) (show 6 < 7 by decide) (p7.app l))) (by decide) p7) p7
  refine Eq.trans (congrArg (leaveT μ) (seq_nx e8)) ?_
  obtain ⟨r9, m9, e9, R9, p9⟩ := asg_rows (δ := [some (a : D), some (b : D), some (c : D), some (d : D), some (.loc t : D), some ((.loc r8) : D), some ((.ins (ad "Balance") ((["plus", "minus", "times", "groups"] : List Str).zip (@List.take D 4 [a, b, c, d]))) : D)]) (e := (dOp fPlus (dVar 5) (dComp (dSeqI (dLst (dCons (dMake (ad "Solved") (dC_Solved ad) 3 [] (dCons (dVar 0) (dCons (dVar 1) dNil))) (dCons (dMakeK (ad "Solved") (dC_Solved ad) 3 2 [1, 0] (dCons (dVar 1) (dCons (dVar 0) dNil))) dNil)))) (dgName 6) dYes (dLst (dCons (dFld (cF ad) (dVar 6) "steps") (dCons (dFld (cF ad) (dVar 6) "letters") dNil))) [6]))) (i := 5) (er_plus (er_var rfl R8) (fun l => (er_comp (fs := ["steps", "letters"]) (m := 2) (fun μ2 p => (mk_p (ad := ad) (x := "Solved") (fs := ["steps", "letters"]) (xs := @List.take D 2 [a, b, c, d]) rfl rfl (cl_take g p 2) (by decide +kernel) (by decide +kernel) (by decide) rfl)) (fun μ2 p => (mk_k (ad := ad) (x := "Solved") (fs := ["steps", "letters"]) (xs := @List.take D 2 [a, b, c, d]) rfl rfl rfl rfl (cl_take g p 2) (by decide +kernel) (by decide +kernel) (by decide) rfl)) (show 2 ≤ 4 by decide) NT20 rfl (cF_all (by decide +kernel)) (by decide +kernel) (show 6 < 7 by decide) (p8.app l))) (by decide) p8) p8
  refine Eq.trans (congrArg (leaveT μ) (seq_nx e9)) ?_
  obtain ⟨r10, m10, e10, R10, p10⟩ := asg_rows (δ := [some (a : D), some (b : D), some (c : D), some (d : D), some (.loc t : D), some ((.loc r9) : D), some ((.ins (ad "Balance") ((["plus", "minus", "times", "groups"] : List Str).zip (@List.take D 4 [a, b, c, d]))) : D)]) (e := (dOp fPlus (dVar 5) (dComp (dSeqI (dLst (dCons (dMake (ad "Ladder") (dC_Ladder ad) 5 [] (dCons (dVar 0) (dCons (dVar 1) (dCons (dVar 2) (dCons (dVar 3) dNil))))) (dCons (dMakeK (ad "Ladder") (dC_Ladder ad) 5 4 [3, 2, 1, 0] (dCons (dVar 3) (dCons (dVar 2) (dCons (dVar 1) (dCons (dVar 0) dNil))))) dNil)))) (dgName 6) dYes (dLst (dCons (dFld (cF ad) (dVar 6) "read") (dCons (dFld (cF ad) (dVar 6) "taken") (dCons (dFld (cF ad) (dVar 6) "solved") (dCons (dFld (cF ad) (dVar 6) "told") dNil))))) [6]))) (i := 5) (er_plus (er_var rfl R9) (fun l => (er_comp (fs := ["read", "taken", "solved", "told"]) (m := 4) (fun μ2 p => (mk_p (ad := ad) (x := "Ladder") (fs := ["read", "taken", "solved", "told"]) (xs := @List.take D 4 [a, b, c, d]) rfl rfl (cl_take g p 4) (by decide +kernel) (by decide +kernel) (by decide) rfl)) (fun μ2 p => (mk_k (ad := ad) (x := "Ladder") (fs := ["read", "taken", "solved", "told"]) (xs := @List.take D 4 [a, b, c, d]) rfl rfl rfl rfl (cl_take g p 4) (by decide +kernel) (by decide +kernel) (by decide) rfl)) (show 4 ≤ 4 by decide) NT20 rfl (cF_all (by decide +kernel)) (by decide +kernel) (show 6 < 7 by decide) (p9.app l))) (by decide) p9) p9
  refine Eq.trans (congrArg (leaveT μ) (seq_nx e10)) ?_
  obtain ⟨r11, m11, e11, R11, p11⟩ := asg_rows (δ := [some (a : D), some (b : D), some (c : D), some (d : D), some (.loc t : D), some ((.loc r10) : D), some ((.ins (ad "Balance") ((["plus", "minus", "times", "groups"] : List Str).zip (@List.take D 4 [a, b, c, d]))) : D)]) (e := (dOp fPlus (dVar 5) (dComp (dSeqI (dLst (dCons (dMake (ad "Core") (dC_Core ad) 3 [] (dCons (dVar 0) (dCons (dVar 1) dNil))) (dCons (dMakeK (ad "Core") (dC_Core ad) 3 2 [1, 0] (dCons (dVar 1) (dCons (dVar 0) dNil))) dNil)))) (dgName 6) dYes (dLst (dCons (dFld (cF ad) (dVar 6) "strikes") (dCons (dFld (cF ad) (dVar 6) "cells") dNil))) [6]))) (i := 5) (er_plus (er_var rfl R10) (fun l => (er_comp (fs := ["strikes", "cells"]) (m := 2) (fun μ2 p => (mk_p (ad := ad) (x := "Core") (fs := ["strikes", "cells"]) (xs := @List.take D 2 [a, b, c, d]) rfl rfl (cl_take g p 2) (by decide +kernel) (by decide +kernel) (by decide) rfl)) (fun μ2 p => (mk_k (ad := ad) (x := "Core") (fs := ["strikes", "cells"]) (xs := @List.take D 2 [a, b, c, d]) rfl rfl rfl rfl (cl_take g p 2) (by decide +kernel) (by decide +kernel) (by decide) rfl)) (show 2 ≤ 4 by decide) NT20 rfl (cF_all (by decide +kernel)) (by decide +kernel) (show 6 < 7 by decide) (p10.app l))) (by decide) p10) p10
  refine Eq.trans (congrArg (leaveT μ) (seq_nx e11)) ?_
  refine Eq.trans (congrArg (leaveT μ) (seq_nx (asg_val (δ := [some (a : D), some (b : D), some (c : D), some (d : D), some (.loc t : D), some ((.loc r11) : D), some ((.ins (ad "Balance") ((["plus", "minus", "times", "groups"] : List Str).zip (@List.take D 4 [a, b, c, d]))) : D)]) (e := (dMake (ad "Block") (dC_Block ad) 5 [] (dCons (dVar 0) (dCons (dVar 1) (dCons (dVar 2) (dCons (dVar 3) dNil)))))) (i := 6) (mk_p (ad := ad) (x := "Block") (fs := ["rows", "columns", "places", "most"]) (xs := @List.take D 4 [a, b, c, d]) rfl rfl (cl_take g p11 4) (by decide +kernel) (by decide +kernel) (by decide) rfl)))) ?_
  obtain ⟨m13, e13, R13, p13⟩ := app_rows (δ := [some (a : D), some (b : D), some (c : D), some (d : D), some (.loc t : D), some ((.loc r11) : D), some ((.ins (ad "Block") ((["rows", "columns", "places", "most"] : List Str).zip (@List.take D 4 [a, b, c, d]))) : D)]) (da := (dCons (dFld (cF ad) (dVar 6) "rows") (dCons (dFld (cF ad) (dVar 6) "columns") (dCons (dFld (cF ad) (dVar 6) "places") (dCons (dFld (cF ad) (dVar 6) "most") dNil))))) (m := 4) (i := 5) rfl R11 (flds_all (fs := ["rows", "columns", "places", "most"]) (xs := @List.take D 4 [a, b, c, d]) (e := dVar 6) (C := ad "Block") rfl rfl (cF_all (by decide +kernel)) (by decide +kernel)) (show 4 ≤ 4 by decide) NT20 (by decide) p11
  refine Eq.trans (congrArg (leaveT μ) (seq_nx e13)) ?_
  refine Eq.trans (congrArg (leaveT μ) (seq_nx (asg_val (δ := [some (a : D), some (b : D), some (c : D), some (d : D), some (.loc t : D), some ((.loc r11) : D), some ((.ins (ad "Block") ((["rows", "columns", "places", "most"] : List Str).zip (@List.take D 4 [a, b, c, d]))) : D)]) (e := (dMakeK (ad "Block") (dC_Block ad) 5 4 [3, 2, 1, 0] (dCons (dVar 3) (dCons (dVar 2) (dCons (dVar 1) (dCons (dVar 0) dNil)))))) (i := 6) (mk_k (ad := ad) (x := "Block") (fs := ["rows", "columns", "places", "most"]) (xs := @List.take D 4 [a, b, c, d]) rfl rfl rfl rfl (cl_take g p13 4) (by decide +kernel) (by decide +kernel) (by decide) rfl)))) ?_
  obtain ⟨m15, e15, R15, p15⟩ := app_rows (δ := [some (a : D), some (b : D), some (c : D), some (d : D), some (.loc t : D), some ((.loc r11) : D), some ((.ins (ad "Block") ((["rows", "columns", "places", "most"] : List Str).zip (@List.take D 4 [a, b, c, d]))) : D)]) (da := (dCons (dFld (cF ad) (dVar 6) "rows") (dCons (dFld (cF ad) (dVar 6) "columns") (dCons (dFld (cF ad) (dVar 6) "places") (dCons (dFld (cF ad) (dVar 6) "most") dNil))))) (m := 4) (i := 5) rfl R13 (flds_all (fs := ["rows", "columns", "places", "most"]) (xs := @List.take D 4 [a, b, c, d]) (e := dVar 6) (C := ad "Block") rfl rfl (cF_all (by decide +kernel)) (by decide +kernel)) (show 4 ≤ 4 by decide) NT20 (by decide) p13
  refine Eq.trans (congrArg (leaveT μ) (seq_nx e15)) ?_
  refine Eq.trans (congrArg (leaveT μ) (seq_nx (asg_val (δ := [some (a : D), some (b : D), some (c : D), some (d : D), some (.loc t : D), some ((.loc r11) : D), some ((.ins (ad "Block") ((["rows", "columns", "places", "most"] : List Str).zip (@List.take D 4 [a, b, c, d]))) : D)]) (e := (dMake (ad "LeastBoth") (dC_LeastBoth ad) 4 [] (dCons (dVar 0) (dCons (dVar 1) (dCons (dVar 2) dNil))))) (i := 6) (mk_p (ad := ad) (x := "LeastBoth") (fs := ["row_groups", "column_groups", "many"]) (xs := @List.take D 3 [a, b, c, d]) rfl rfl (cl_take g p15 3) (by decide +kernel) (by decide +kernel) (by decide) rfl)))) ?_
  obtain ⟨m17, e17, R17, p17⟩ := app_rows (δ := [some (a : D), some (b : D), some (c : D), some (d : D), some (.loc t : D), some ((.loc r11) : D), some ((.ins (ad "LeastBoth") ((["row_groups", "column_groups", "many"] : List Str).zip (@List.take D 3 [a, b, c, d]))) : D)]) (da := (dCons (dFld (cF ad) (dVar 6) "row_groups") (dCons (dFld (cF ad) (dVar 6) "column_groups") (dCons (dFld (cF ad) (dVar 6) "many") dNil)))) (m := 3) (i := 5) rfl R15 (flds_all (fs := ["row_groups", "column_groups", "many"]) (xs := @List.take D 3 [a, b, c, d]) (e := dVar 6) (C := ad "LeastBoth") rfl rfl (cF_all (by decide +kernel)) (by decide +kernel)) (show 3 ≤ 4 by decide) NT20 (by decide) p15
  refine Eq.trans (congrArg (leaveT μ) (seq_nx e17)) ?_
  exact ret_all (δ := [some (a : D), some (b : D), some (c : D), some (d : D), some (.loc t : D), some ((.loc r11) : D), some ((.ins (ad "LeastBoth") ((["row_groups", "column_groups", "many"] : List Str).zip (@List.take D 3 [a, b, c, d]))) : D)]) (e := (dVar 5)) g (er_var rfl R17) p17 rfl ht (by decide) NT20
theorem true__law_bounds (g : Goods μ.length μ [a, b, c, d] ps) (ht : μ[t]? = some (.lst [a, b, c, d])) : d__law_bounds ad [a, b, c, d, .loc t] μ = .ok (.bl true) μ := by
  have NT20 : ([a, b, c, d] : List D).length ≤ 20 := (show 4 ≤ 20 by decide)
  have p0 : Pre μ.length μ μ := .refl (Nat.le_refl _)
  unfold d__law_bounds b__law_bounds
  have es : slots 8 [(a : D), (b : D), (c : D), (d : D), (.loc t : D)] = [some (a : D), some (b : D), some (c : D), some (d : D), some (.loc t : D), none, none, none] := rfl
  rw [dDef_tree, es]
  obtain ⟨u7, q7⟩ := goods7 g
  obtain ⟨u6, q6⟩ := goods6 g
  refine Eq.trans (congrArg (leaveT μ) (seq_nx (asg_two (δ := [some (a : D), some (b : D), some (c : D), some (d : D), some (.loc t : D), none, none, none]) (e1 := (dMake (ad "Bounds") (dC_Bounds ad) 8 [] (dCons (dVar 0) (dCons (dVar 1) (dCons (dVar 2) (dCons (dVar 3) (dCons (dVar 0) (dCons (dVar 1) (dCons (dVar 2) dNil))))))))) (e2 := (dMakeK (ad "Bounds") (dC_Bounds ad) 8 7 [6, 5, 4, 3, 2, 1, 0] (dCons (dVar 2) (dCons (dVar 1) (dCons (dVar 0) (dCons (dVar 3) (dCons (dVar 2) (dCons (dVar 1) (dCons (dVar 0) dNil))))))))) (i := 5) (mk_p (ad := ad) (x := "Bounds") (fs := ["low", "low_budget", "blocks", "high", "high_budget", "cored", "cored_budget"]) (xs := ([a, b, c, d, a, b, c] : List D)) rfl rfl (clos_mono p0.1 q7.clos) (by decide +kernel) (by decide +kernel) (by decide) rfl) (mk_k (ad := ad) (x := "Bounds") (fs := ["low", "low_budget", "blocks", "high", "high_budget", "cored", "cored_budget"]) (xs := ([a, b, c, d, a, b, c] : List D)) rfl rfl rfl rfl (clos_mono p0.1 q7.clos) (by decide +kernel) (by decide +kernel) (by decide) rfl)))) ?_
  have p1 := p0.app [.lst [.ins (ad "Bounds") ((["low", "low_budget", "blocks", "high", "high_budget", "cored", "cored_budget"] : List Str).zip [a, b, c, d, a, b, c]), .ins (ad "Bounds") ((["low", "low_budget", "blocks", "high", "high_budget", "cored", "cored_budget"] : List Str).zip [a, b, c, d, a, b, c])]]
  generalize hM1 : μ ++ [M.lst [.ins (ad "Bounds") ((["low", "low_budget", "blocks", "high", "high_budget", "cored", "cored_budget"] : List Str).zip ([a, b, c, d, a, b, c] : List D)), .ins (ad "Bounds") ((["low", "low_budget", "blocks", "high", "high_budget", "cored", "cored_budget"] : List Str).zip [a, b, c, d, a, b, c])]] = M1 at *
  have gr1 : M1[(μ).length]? = some (.lst [.ins (ad "Bounds") ((["low", "low_budget", "blocks", "high", "high_budget", "cored", "cored_budget"] : List Str).zip ([a, b, c, d, a, b, c] : List D)), .ins (ad "Bounds") ((["low", "low_budget", "blocks", "high", "high_budget", "cored", "cored_budget"] : List Str).zip [a, b, c, d, a, b, c])]) := by rw [← hM1]; exact get_last
  obtain ⟨l2, e2⟩ := loop_two (cf := cF ad) (C := ad "Bounds") (fs := ["low", "low_budget", "blocks", "high", "high_budget", "cored", "cored_budget"]) (δ := [some (a : D), some (b : D), some (c : D), some (d : D), some (.loc t : D), some ((.loc μ.length) : D), none, none]) (i := 5) (j := 6) (vs := (dCons (dVar 0) (dCons (dVar 1) (dCons (dVar 2) (dCons (dVar 3) (dCons (dVar 0) (dCons (dVar 1) (dCons (dVar 2) dNil)))))))) q7 p1 rfl gr1 (show 6 < 8 by decide) (fun _ => rfl) rfl (cF_all (by decide +kernel)) (by decide +kernel) (show 7 ≤ 20 by decide)
  refine Eq.trans (congrArg (leaveT μ) (seq_nx e2)) ?_
  have p2 := p1.app l2
  generalize hM2 : M1 ++ l2 = M2 at *
  refine Eq.trans (congrArg (leaveT μ) (seq_nx (asg_two (δ := [some (a : D), some (b : D), some (c : D), some (d : D), some (.loc t : D), some ((.loc μ.length) : D), some ((.ins (ad "Bounds") ((["low", "low_budget", "blocks", "high", "high_budget", "cored", "cored_budget"] : List Str).zip ([a, b, c, d, a, b, c] : List D))) : D), none]) (e1 := (dMake (ad "Bent") (dC_Bent ad) 7 [] (dCons (dVar 0) (dCons (dVar 1) (dCons (dVar 2) (dCons (dVar 3) (dCons (dVar 0) (dCons (dVar 1) dNil)))))))) (e2 := (dMakeK (ad "Bent") (dC_Bent ad) 7 6 [5, 4, 3, 2, 1, 0] (dCons (dVar 1) (dCons (dVar 0) (dCons (dVar 3) (dCons (dVar 2) (dCons (dVar 1) (dCons (dVar 0) dNil)))))))) (i := 5) (mk_p (ad := ad) (x := "Bent") (fs := ["spots", "along", "back", "bends", "answer", "products"]) (xs := ([a, b, c, d, a, b] : List D)) rfl rfl (clos_mono p2.1 q6.clos) (by decide +kernel) (by decide +kernel) (by decide) rfl) (mk_k (ad := ad) (x := "Bent") (fs := ["spots", "along", "back", "bends", "answer", "products"]) (xs := ([a, b, c, d, a, b] : List D)) rfl rfl rfl rfl (clos_mono p2.1 q6.clos) (by decide +kernel) (by decide +kernel) (by decide) rfl)))) ?_
  have p3 := p2.app [.lst [.ins (ad "Bent") ((["spots", "along", "back", "bends", "answer", "products"] : List Str).zip [a, b, c, d, a, b]), .ins (ad "Bent") ((["spots", "along", "back", "bends", "answer", "products"] : List Str).zip [a, b, c, d, a, b])]]
  generalize hM3 : M2 ++ [M.lst [.ins (ad "Bent") ((["spots", "along", "back", "bends", "answer", "products"] : List Str).zip ([a, b, c, d, a, b] : List D)), .ins (ad "Bent") ((["spots", "along", "back", "bends", "answer", "products"] : List Str).zip [a, b, c, d, a, b])]] = M3 at *
  have gr3 : M3[(M2).length]? = some (.lst [.ins (ad "Bent") ((["spots", "along", "back", "bends", "answer", "products"] : List Str).zip ([a, b, c, d, a, b] : List D)), .ins (ad "Bent") ((["spots", "along", "back", "bends", "answer", "products"] : List Str).zip [a, b, c, d, a, b])]) := by rw [← hM3]; exact get_last
  obtain ⟨l4, e4⟩ := loop_two (cf := cF ad) (C := ad "Bent") (fs := ["spots", "along", "back", "bends", "answer", "products"]) (δ := [some (a : D), some (b : D), some (c : D), some (d : D), some (.loc t : D), some ((.loc M2.length) : D), some ((.ins (ad "Bounds") ((["low", "low_budget", "blocks", "high", "high_budget", "cored", "cored_budget"] : List Str).zip ([a, b, c, d, a, b, c] : List D))) : D), none]) (i := 5) (j := 6) (vs := (dCons (dVar 0) (dCons (dVar 1) (dCons (dVar 2) (dCons (dVar 3) (dCons (dVar 0) (dCons (dVar 1) dNil))))))) q6 p3 rfl gr3 (show 6 < 8 by decide) (fun _ => rfl) rfl (cF_all (by decide +kernel)) (by decide +kernel) (show 6 ≤ 20 by decide)
  refine Eq.trans (congrArg (leaveT μ) (seq_nx e4)) ?_
  have p4 := p3.app l4
  generalize hM4 : M3 ++ l4 = M4 at *
  obtain ⟨r5, m5, e5, R5, p5⟩ := asg_rows (δ := [some (a : D), some (b : D), some (c : D), some (d : D), some (.loc t : D), some ((.loc M2.length) : D), some ((.ins (ad "Bent") ((["spots", "along", "back", "bends", "answer", "products"] : List Str).zip ([a, b, c, d, a, b] : List D))) : D), none]) (e := (dComp (dSeqI (dLst (dCons (dMake (ad "Run") (dC_Run ad) 5 [] (dCons (dVar 0) (dCons (dVar 1) (dCons (dVar 2) (dCons (dVar 3) dNil))))) (dCons (dMakeK (ad "Run") (dC_Run ad) 5 4 [3, 2, 1, 0] (dCons (dVar 3) (dCons (dVar 2) (dCons (dVar 1) (dCons (dVar 0) dNil))))) dNil)))) (dgName 6) dYes (dLst (dCons (dFld (cF ad) (dVar 6) "spots") (dCons (dFld (cF ad) (dVar 6) "slopes") (dCons (dFld (cF ad) (dVar 6) "answer") (dCons (dFld (cF ad) (dVar 6) "products") dNil))))) [6])) (i := 7) (er_comp (fs := ["spots", "slopes", "answer", "products"]) (m := 4) (fun μ2 p => (mk_p (ad := ad) (x := "Run") (fs := ["spots", "slopes", "answer", "products"]) (xs := @List.take D 4 [a, b, c, d]) rfl rfl (cl_take g p 4) (by decide +kernel) (by decide +kernel) (by decide) rfl)) (fun μ2 p => (mk_k (ad := ad) (x := "Run") (fs := ["spots", "slopes", "answer", "products"]) (xs := @List.take D 4 [a, b, c, d]) rfl rfl rfl rfl (cl_take g p 4) (by decide +kernel) (by decide +kernel) (by decide) rfl)) (show 4 ≤ 4 by decide) NT20 rfl (cF_all (by decide +kernel)) (by decide +kernel) (show 6 < 8 by decide) p4) p4
  refine Eq.trans (congrArg (leaveT μ) (seq_nx e5)) ?_
  obtain ⟨r6, m6, e6, R6, p6⟩ := asg_rows (δ := [some (a : D), some (b : D), some (c : D), some (d : D), some (.loc t : D), some ((.loc M2.length) : D), some ((.ins (ad "Bent") ((["spots", "along", "back", "bends", "answer", "products"] : List Str).zip ([a, b, c, d, a, b] : List D))) : D), some ((.loc r5) : D)]) (e := (dOp fPlus (dVar 7) (dComp (dSeqI (dLst (dCons (dMake (ad "RunTable") (dC_RunTable ad) 3 [] (dCons (dVar 0) (dCons (dVar 1) dNil))) (dCons (dMakeK (ad "RunTable") (dC_RunTable ad) 3 2 [1, 0] (dCons (dVar 1) (dCons (dVar 0) dNil))) dNil)))) (dgName 6) dYes (dLst (dCons (dFld (cF ad) (dVar 6) "rows") (dCons (dFld (cF ad) (dVar 6) "products") dNil))) [6]))) (i := 7) (er_plus (er_var rfl R5) (fun l => (er_comp (fs := ["rows", "products"]) (m := 2) (fun μ2 p => (mk_p (ad := ad) (x := "RunTable") (fs := ["rows", "products"]) (xs := @List.take D 2 [a, b, c, d]) rfl rfl (cl_take g p 2) (by decide +kernel) (by decide +kernel) (by decide) rfl)) (fun μ2 p => (mk_k (ad := ad) (x := "RunTable") (fs := ["rows", "products"]) (xs := @List.take D 2 [a, b, c, d]) rfl rfl rfl rfl (cl_take g p 2) (by decide +kernel) (by decide +kernel) (by decide) rfl)) (show 2 ≤ 4 by decide) NT20 rfl (cF_all (by decide +kernel)) (by decide +kernel) (show 6 < 8 by decide) (p5.app l))) (by decide) p5) p5
  refine Eq.trans (congrArg (leaveT μ) (seq_nx e6)) ?_
  obtain ⟨r7, m7, e7, R7, p7⟩ := asg_rows (δ := [some (a : D), some (b : D), some (c : D), some (d : D), some (.loc t : D), some ((.loc M2.length) : D), some ((.ins (ad "Bent") ((["spots", "along", "back", "bends", "answer", "products"] : List Str).zip ([a, b, c, d, a, b] : List D))) : D), some ((.loc r6) : D)]) (e := (dOp fPlus (dVar 7) (dComp (dSeqI (dLst (dCons (dMake (ad "Parts") (dC_Parts ad) 3 [] (dCons (dVar 0) (dCons (dVar 1) dNil))) (dCons (dMakeK (ad "Parts") (dC_Parts ad) 3 2 [1, 0] (dCons (dVar 1) (dCons (dVar 0) dNil))) dNil)))) (dgName 6) dYes (dLst (dCons (dFld (cF ad) (dVar 6) "base") (dCons (dFld (cF ad) (dVar 6) "lots") dNil))) [6]))) (i := 7) (er_plus (er_var rfl R6) (fun l => (er_comp (fs := ["base", "lots"]) (m := 2) (fun μ2 p => (mk_p (ad := ad) (x := "Parts") (fs := ["base", "lots"]) (xs := @List.take D 2 [a, b, c, d]) rfl rfl (cl_take g p 2) (by decide +kernel) (by decide +kernel) (by decide) rfl)) (fun μ2 p => (mk_k (ad := ad) (x := "Parts") (fs := ["base", "lots"]) (xs := @List.take D 2 [a, b, c, d]) rfl rfl rfl rfl (cl_take g p 2) (by decide +kernel) (by decide +kernel) (by decide) rfl)) (show 2 ≤ 4 by decide) NT20 rfl (cF_all (by decide +kernel)) (by decide +kernel) (show 6 < 8 by decide) (p6.app l))) (by decide) p6) p6
  refine Eq.trans (congrArg (leaveT μ) (seq_nx e7)) ?_
  exact ret_all (δ := [some (a : D), some (b : D), some (c : D), some (d : D), some (.loc t : D), some ((.loc M2.length) : D), some ((.ins (ad "Bent") ((["spots", "along", "back", "bends", "answer", "products"] : List Str).zip ([a, b, c, d, a, b] : List D))) : D), some ((.loc r7) : D)]) (e := (dOp fPlus (dVar 7) (dLst (dCons (dLst (dCons (dFld (cF ad) (dMake (ad "Apart") (dC_Apart ad) 2 [] (dCons (dVar 0) dNil)) "terms") dNil)) dNil)))) g (er_plus (er_var rfl R7) (fun l => (er_lst (ar_cons (m := 1) (fun μ2 p => flds_all (fs := ["terms"]) (mk_p (ad := ad) (x := "Apart") (fs := ["terms"]) (xs := @List.take D 1 [a, b, c, d]) rfl rfl (cl_take g p 1) (by decide +kernel) (by decide +kernel) (by decide) rfl) rfl (cF_all (by decide +kernel)) (by decide +kernel)) (show 1 ≤ 4 by decide) NT20 (fun μ3 p => ar_nil) (p7.app l)) (by decide) (p7.app l))) (by decide) p7) p7 rfl ht (by decide) NT20
theorem true__law_plans (g : Goods μ.length μ [a, b, c, d] ps) (ht : μ[t]? = some (.lst [a, b, c, d])) : d__law_plans ad [a, b, c, d, .loc t] μ = .ok (.bl true) μ := by
  have NT20 : ([a, b, c, d] : List D).length ≤ 20 := (show 4 ≤ 20 by decide)
  have p0 : Pre μ.length μ μ := .refl (Nat.le_refl _)
  unfold d__law_plans b__law_plans
  have es : slots 7 [(a : D), (b : D), (c : D), (d : D), (.loc t : D)] = [some (a : D), some (b : D), some (c : D), some (d : D), some (.loc t : D), none, none] := rfl
  rw [dDef_tree, es]
  obtain ⟨r1, m1, e1, R1, p1⟩ := asg_rows (δ := [some (a : D), some (b : D), some (c : D), some (d : D), some (.loc t : D), none, none]) (e := (dComp (dSeqI (dLst (dCons (dMake (ad "FewestGroups") (dC_FewestGroups ad) 4 [] (dCons (dVar 0) (dCons (dVar 1) (dCons (dVar 2) dNil)))) (dCons (dMakeK (ad "FewestGroups") (dC_FewestGroups ad) 4 3 [2, 1, 0] (dCons (dVar 2) (dCons (dVar 1) (dCons (dVar 0) dNil)))) dNil)))) (dgName 6) dYes (dLst (dCons (dFld (cF ad) (dVar 6) "groups") (dCons (dFld (cF ad) (dVar 6) "first") (dCons (dFld (cF ad) (dVar 6) "many") dNil)))) [6])) (i := 5) (er_comp (fs := ["groups", "first", "many"]) (m := 3) (fun μ2 p => (mk_p (ad := ad) (x := "FewestGroups") (fs := ["groups", "first", "many"]) (xs := @List.take D 3 [a, b, c, d]) rfl rfl (cl_take g p 3) (by decide +kernel) (by decide +kernel) (by decide) rfl)) (fun μ2 p => (mk_k (ad := ad) (x := "FewestGroups") (fs := ["groups", "first", "many"]) (xs := @List.take D 3 [a, b, c, d]) rfl rfl rfl rfl (cl_take g p 3) (by decide +kernel) (by decide +kernel) (by decide) rfl)) (show 3 ≤ 4 by decide) NT20 rfl (cF_all (by decide +kernel)) (by decide +kernel) (show 6 < 7 by decide) p0) p0
  refine Eq.trans (congrArg (leaveT μ) (seq_nx e1)) ?_
  obtain ⟨r2, m2, e2, R2, p2⟩ := asg_rows (δ := [some (a : D), some (b : D), some (c : D), some (d : D), some (.loc t : D), some ((.loc r1) : D), none]) (e := (dOp fPlus (dVar 5) (dComp (dSeqI (dLst (dCons (dMake (ad "SideLot") (dC_SideLot ad) 4 [] (dCons (dVar 0) (dCons (dVar 1) (dCons (dVar 2) dNil)))) (dCons (dMakeK (ad "SideLot") (dC_SideLot ad) 4 3 [2, 1, 0] (dCons (dVar 2) (dCons (dVar 1) (dCons (dVar 0) dNil)))) dNil)))) (dgName 6) dYes (dLst (dCons (dFld (cF ad) (dVar 6) "points") (dCons (dFld (cF ad) (dVar 6) "ties") (dCons (dFld (cF ad) (dVar 6) "most") dNil)))) [6]))) (i := 5) (er_plus (er_var rfl R1) (fun l => (er_comp (fs := ["points", "ties", "most"]) (m := 3) (fun μ2 p => (mk_p (ad := ad) (x := "SideLot") (fs := ["points", "ties", "most"]) (xs := @List.take D 3 [a, b, c, d]) rfl rfl (cl_take g p 3) (by decide +kernel) (by decide +kernel) (by decide) rfl)) (fun μ2 p => (mk_k (ad := ad) (x := "SideLot") (fs := ["points", "ties", "most"]) (xs := @List.take D 3 [a, b, c, d]) rfl rfl rfl rfl (cl_take g p 3) (by decide +kernel) (by decide +kernel) (by decide) rfl)) (show 3 ≤ 4 by decide) NT20 rfl (cF_all (by decide +kernel)) (by decide +kernel) (show 6 < 7 by decide) (p1.app l))) (by decide) p1) p1
  refine Eq.trans (congrArg (leaveT μ) (seq_nx e2)) ?_
  obtain ⟨r3, m3, e3, R3, p3⟩ := asg_rows (δ := [some (a : D), some (b : D), some (c : D), some (d : D), some (.loc t : D), some ((.loc r2) : D), none]) (e := (dOp fPlus (dVar 5) (dComp (dSeqI (dLst (dCons (dMake (ad "WebCore") (dC_WebCore ad) 3 [] (dCons (dVar 0) (dCons (dVar 1) dNil))) (dCons (dMakeK (ad "WebCore") (dC_WebCore ad) 3 2 [1, 0] (dCons (dVar 1) (dCons (dVar 0) dNil))) dNil)))) (dgName 6) dYes (dLst (dCons (dFld (cF ad) (dVar 6) "strikes") (dCons (dFld (cF ad) (dVar 6) "ties") dNil))) [6]))) (i := 5) (er_plus (er_var rfl R2) (fun l => (er_comp (fs := ["strikes", "ties"]) (m := 2) (fun μ2 p => (mk_p (ad := ad) (x := "WebCore") (fs := ["strikes", "ties"]) (xs := @List.take D 2 [a, b, c, d]) rfl rfl (cl_take g p 2) (by decide +kernel) (by decide +kernel) (by decide) rfl)) (fun μ2 p => (mk_k (ad := ad) (x := "WebCore") (fs := ["strikes", "ties"]) (xs := @List.take D 2 [a, b, c, d]) rfl rfl rfl rfl (cl_take g p 2) (by decide +kernel) (by decide +kernel) (by decide) rfl)) (show 2 ≤ 4 by decide) NT20 rfl (cF_all (by decide +kernel)) (by decide +kernel) (show 6 < 7 by decide) (p2.app l))) (by decide) p2) p2
  refine Eq.trans (congrArg (leaveT μ) (seq_nx e3)) ?_
  obtain ⟨r4, m4, e4, R4, p4⟩ := asg_rows (δ := [some (a : D), some (b : D), some (c : D), some (d : D), some (.loc t : D), some ((.loc r3) : D), none]) (e := (dOp fPlus (dVar 5) (dComp (dSeqI (dLst (dCons (dMake (ad "SideBounds") (dC_SideBounds ad) 5 [] (dCons (dVar 0) (dCons (dVar 1) (dCons (dVar 2) (dCons (dVar 3) dNil))))) (dCons (dMakeK (ad "SideBounds") (dC_SideBounds ad) 5 4 [3, 2, 1, 0] (dCons (dVar 3) (dCons (dVar 2) (dCons (dVar 1) (dCons (dVar 0) dNil))))) dNil)))) (dgName 6) dYes (dLst (dCons (dFld (cF ad) (dVar 6) "low") (dCons (dFld (cF ad) (dVar 6) "bars") (dCons (dFld (cF ad) (dVar 6) "high") (dCons (dFld (cF ad) (dVar 6) "book") dNil))))) [6]))) (i := 5) (er_plus (er_var rfl R3) (fun l => (er_comp (fs := ["low", "bars", "high", "book"]) (m := 4) (fun μ2 p => (mk_p (ad := ad) (x := "SideBounds") (fs := ["low", "bars", "high", "book"]) (xs := @List.take D 4 [a, b, c, d]) rfl rfl (cl_take g p 4) (by decide +kernel) (by decide +kernel) (by decide) rfl)) (fun μ2 p => (mk_k (ad := ad) (x := "SideBounds") (fs := ["low", "bars", "high", "book"]) (xs := @List.take D 4 [a, b, c, d]) rfl rfl rfl rfl (cl_take g p 4) (by decide +kernel) (by decide +kernel) (by decide) rfl)) (show 4 ≤ 4 by decide) NT20 rfl (cF_all (by decide +kernel)) (by decide +kernel) (show 6 < 7 by decide) (p3.app l))) (by decide) p3) p3
  refine Eq.trans (congrArg (leaveT μ) (seq_nx e4)) ?_
  obtain ⟨r5, m5, e5, R5, p5⟩ := asg_rows (δ := [some (a : D), some (b : D), some (c : D), some (d : D), some (.loc t : D), some ((.loc r4) : D), none]) (e := (dOp fPlus (dVar 5) (dComp (dSeqI (dLst (dCons (dMake (ad "Played") (dC_Played ad) 3 [] (dCons (dVar 0) (dCons (dVar 1) dNil))) (dCons (dMakeK (ad "Played") (dC_Played ad) 3 2 [1, 0] (dCons (dVar 1) (dCons (dVar 0) dNil))) dNil)))) (dgName 6) dYes (dLst (dCons (dFld (cF ad) (dVar 6) "path") (dCons (dFld (cF ad) (dVar 6) "answers") dNil))) [6]))) (i := 5) (er_plus (er_var rfl R4) (fun l => (er_comp (fs := ["path", "answers"]) (m := 2) (fun μ2 p => (mk_p (ad := ad) (x := "Played") (fs := ["path", "answers"]) (xs := @List.take D 2 [a, b, c, d]) rfl rfl (cl_take g p 2) (by decide +kernel) (by decide +kernel) (by decide) rfl)) (fun μ2 p => (mk_k (ad := ad) (x := "Played") (fs := ["path", "answers"]) (xs := @List.take D 2 [a, b, c, d]) rfl rfl rfl rfl (cl_take g p 2) (by decide +kernel) (by decide +kernel) (by decide) rfl)) (show 2 ≤ 4 by decide) NT20 rfl (cF_all (by decide +kernel)) (by decide +kernel) (show 6 < 7 by decide) (p4.app l))) (by decide) p4) p4
  refine Eq.trans (congrArg (leaveT μ) (seq_nx e5)) ?_
  obtain ⟨r6, m6, e6, R6, p6⟩ := asg_rows (δ := [some (a : D), some (b : D), some (c : D), some (d : D), some (.loc t : D), some ((.loc r5) : D), none]) (e := (dOp fPlus (dVar 5) (dComp (dSeqI (dLst (dCons (dMake (ad "Come") (dC_Come ad) 4 [] (dCons (dVar 0) (dCons (dVar 1) (dCons (dVar 2) dNil)))) (dCons (dMakeK (ad "Come") (dC_Come ad) 4 3 [2, 1, 0] (dCons (dVar 2) (dCons (dVar 1) (dCons (dVar 0) dNil)))) dNil)))) (dgName 6) dYes (dLst (dCons (dFld (cF ad) (dVar 6) "path") (dCons (dFld (cF ad) (dVar 6) "book") (dCons (dFld (cF ad) (dVar 6) "filling") dNil)))) [6]))) (i := 5) (er_plus (er_var rfl R5) (fun l => (er_comp (fs := ["path", "book", "filling"]) (m := 3) (fun μ2 p => (mk_p (ad := ad) (x := "Come") (fs := ["path", "book", "filling"]) (xs := @List.take D 3 [a, b, c, d]) rfl rfl (cl_take g p 3) (by decide +kernel) (by decide +kernel) (by decide) rfl)) (fun μ2 p => (mk_k (ad := ad) (x := "Come") (fs := ["path", "book", "filling"]) (xs := @List.take D 3 [a, b, c, d]) rfl rfl rfl rfl (cl_take g p 3) (by decide +kernel) (by decide +kernel) (by decide) rfl)) (show 3 ≤ 4 by decide) NT20 rfl (cF_all (by decide +kernel)) (by decide +kernel) (show 6 < 7 by decide) (p5.app l))) (by decide) p5) p5
  refine Eq.trans (congrArg (leaveT μ) (seq_nx e6)) ?_
  obtain ⟨r7, m7, e7, R7, p7⟩ := asg_rows (δ := [some (a : D), some (b : D), some (c : D), some (d : D), some (.loc t : D), some ((.loc r6) : D), none]) (e := (dOp fPlus (dVar 5) (dComp (dSeqI (dLst (dCons (dMake (ad "Never") (dC_Never ad) 4 [] (dCons (dVar 0) (dCons (dVar 1) (dCons (dVar 2) dNil)))) (dCons (dMakeK (ad "Never") (dC_Never ad) 4 3 [2, 1, 0] (dCons (dVar 2) (dCons (dVar 1) (dCons (dVar 0) dNil)))) dNil)))) (dgName 6) dYes (dLst (dCons (dFld (cF ad) (dVar 6) "path") (dCons (dFld (cF ad) (dVar 6) "answer") (dCons (dFld (cF ad) (dVar 6) "weights") dNil)))) [6]))) (i := 5) (er_plus (er_var rfl R6) (fun l => (er_comp (fs := ["path", "answer", "weights"]) (m := 3) (fun μ2 p => (mk_p (ad := ad) (x := "Never") (fs := ["path", "answer", "weights"]) (xs := @List.take D 3 [a, b, c, d]) rfl rfl (cl_take g p 3) (by decide +kernel) (by decide +kernel) (by decide) rfl)) (fun μ2 p => (mk_k (ad := ad) (x := "Never") (fs := ["path", "answer", "weights"]) (xs := @List.take D 3 [a, b, c, d]) rfl rfl rfl rfl (cl_take g p 3) (by decide +kernel) (by decide +kernel) (by decide) rfl)) (show 3 ≤ 4 by decide) NT20 rfl (cF_all (by decide +kernel)) (by decide +kernel) (show 6 < 7 by decide) (p6.app l))) (by decide) p6) p6
  refine Eq.trans (congrArg (leaveT μ) (seq_nx e7)) ?_
  obtain ⟨r8, m8, e8, R8, p8⟩ := asg_rows (δ := [some (a : D), some (b : D), some (c : D), some (d : D), some (.loc t : D), some ((.loc r7) : D), none]) (e := (dOp fPlus (dVar 5) (dComp (dSeqI (dLst (dCons (dMake (ad "Untold") (dC_Untold ad) 4 [] (dCons (dVar 0) (dCons (dVar 1) (dCons (dVar 2) dNil)))) (dCons (dMakeK (ad "Untold") (dC_Untold ad) 4 3 [2, 1, 0] (dCons (dVar 2) (dCons (dVar 1) (dCons (dVar 0) dNil)))) dNil)))) (dgName 6) dYes (dLst (dCons (dFld (cF ad) (dVar 6) "path") (dCons (dFld (cF ad) (dVar 6) "filling") (dCons (dFld (cF ad) (dVar 6) "hidden") dNil)))) [6]))) (i := 5) (er_plus (er_var rfl R7) (fun l => (er_comp (fs := ["path", "filling", "hidden"]) (m := 3) (fun μ2 p => (mk_p (ad := ad) (x := "Untold") (fs := ["path", "filling", "hidden"]) (xs := @List.take D 3 [a, b, c, d]) rfl rfl (cl_take g p 3) (by decide +kernel) (by decide +kernel) (by decide) rfl)) (fun μ2 p => (mk_k (ad := ad) (x := "Untold") (fs := ["path", "filling", "hidden"]) (xs := @List.take D 3 [a, b, c, d]) rfl rfl rfl rfl (cl_take g p 3) (by decide +kernel) (by decide +kernel) (by decide) rfl)) (show 3 ≤ 4 by decide) NT20 rfl (cF_all (by decide +kernel)) (by decide +kernel) (show 6 < 7 by decide) (p7.app l))) (by decide) p7) p7
  refine Eq.trans (congrArg (leaveT μ) (seq_nx e8)) ?_
  obtain ⟨r9, m9, e9, R9, p9⟩ := asg_rows (δ := [some (a : D), some (b : D), some (c : D), some (d : D), some (.loc t : D), some ((.loc r8) : D), none]) (e := (dOp fPlus (dVar 5) (dComp (dSeqI (dLst (dCons (dMake (ad "Lost") (dC_Lost ad) 3 [] (dCons (dVar 0) (dCons (dVar 1) dNil))) (dCons (dMakeK (ad "Lost") (dC_Lost ad) 3 2 [1, 0] (dCons (dVar 1) (dCons (dVar 0) dNil))) dNil)))) (dgName 6) dYes (dLst (dCons (dFld (cF ad) (dVar 6) "answers") (dCons (dFld (cF ad) (dVar 6) "numbers") dNil))) [6]))) (i := 5) (er_plus (er_var rfl R8) (fun l => (er_comp (fs := ["answers", "numbers"]) (m := 2) (fun μ2 p => (mk_p (ad := ad) (x := "Lost") (fs := ["answers", "numbers"]) (xs := @List.take D 2 [a, b, c, d]) rfl rfl (cl_take g p 2) (by decide +kernel) (by decide +kernel) (by decide) rfl)) (fun μ2 p => (mk_k (ad := ad) (x := "Lost") (fs := ["answers", "numbers"]) (xs := @List.take D 2 [a, b, c, d]) rfl rfl rfl rfl (cl_take g p 2) (by decide +kernel) (by decide +kernel) (by decide) rfl)) (show 2 ≤ 4 by decide) NT20 rfl (cF_all (by decide +kernel)) (by decide +kernel) (show 6 < 7 by decide) (p8.app l))) (by decide) p8) p8
  refine Eq.trans (congrArg (leaveT μ) (seq_nx e9)) ?_
  obtain ⟨r10, m10, e10, R10, p10⟩ := asg_rows (δ := [some (a : D), some (b : D), some (c : D), some (d : D), some (.loc t : D), some ((.loc r9) : D), none]) (e := (dOp fPlus (dVar 5) (dComp (dSeqI (dLst (dCons (dMake (ad "Mended") (dC_Mended ad) 4 [] (dCons (dVar 0) (dCons (dVar 1) (dCons (dVar 2) dNil)))) (dCons (dMakeK (ad "Mended") (dC_Mended ad) 4 3 [2, 1, 0] (dCons (dVar 2) (dCons (dVar 1) (dCons (dVar 0) dNil)))) dNil)))) (dgName 6) dYes (dLst (dCons (dFld (cF ad) (dVar 6) "wrong") (dCons (dFld (cF ad) (dVar 6) "answers") (dCons (dFld (cF ad) (dVar 6) "numbers") dNil)))) [6]))) (i := 5) (er_plus (er_var rfl R9) (fun l => (er_comp (fs := ["wrong", "answers", "numbers"]) (m := 3) (fun μ2 p => (mk_p (ad := ad) (x := "Mended") (fs := ["wrong", "answers", "numbers"]) (xs := @List.take D 3 [a, b, c, d]) rfl rfl (cl_take g p 3) (by decide +kernel) (by decide +kernel) (by decide) rfl)) (fun μ2 p => (mk_k (ad := ad) (x := "Mended") (fs := ["wrong", "answers", "numbers"]) (xs := @List.take D 3 [a, b, c, d]) rfl rfl rfl rfl (cl_take g p 3) (by decide +kernel) (by decide +kernel) (by decide) rfl)) (show 3 ≤ 4 by decide) NT20 rfl (cF_all (by decide +kernel)) (by decide +kernel) (show 6 < 7 by decide) (p9.app l))) (by decide) p9) p9
  refine Eq.trans (congrArg (leaveT μ) (seq_nx e10)) ?_
  obtain ⟨r11, m11, e11, R11, p11⟩ := asg_rows (δ := [some (a : D), some (b : D), some (c : D), some (d : D), some (.loc t : D), some ((.loc r10) : D), none]) (e := (dOp fPlus (dVar 5) (dComp (dSeqI (dLst (dCons (dMake (ad "Unseen") (dC_Unseen ad) 3 [] (dCons (dVar 0) (dCons (dVar 1) dNil))) (dCons (dMakeK (ad "Unseen") (dC_Unseen ad) 3 2 [1, 0] (dCons (dVar 1) (dCons (dVar 0) dNil))) dNil)))) (dgName 6) dYes (dLst (dCons (dFld (cF ad) (dVar 6) "numbers") (dCons (dFld (cF ad) (dVar 6) "strangers") dNil))) [6]))) (i := 5) (er_plus (er_var rfl R10) (fun l => (er_comp (fs := ["numbers", "strangers"]) (m := 2) (fun μ2 p => (mk_p (ad := ad) (x := "Unseen") (fs := ["numbers", "strangers"]) (xs := @List.take D 2 [a, b, c, d]) rfl rfl (cl_take g p 2) (by decide +kernel) (by decide +kernel) (by decide) rfl)) (fun μ2 p => (mk_k (ad := ad) (x := "Unseen") (fs := ["numbers", "strangers"]) (xs := @List.take D 2 [a, b, c, d]) rfl rfl rfl rfl (cl_take g p 2) (by decide +kernel) (by decide +kernel) (by decide) rfl)) (show 2 ≤ 4 by decide) NT20 rfl (cF_all (by decide +kernel)) (by decide +kernel) (show 6 < 7 by decide) (p10.app l))) (by decide) p10) p10
  refine Eq.trans (congrArg (leaveT μ) (seq_nx e11)) ?_
  obtain ⟨r12, m12, e12, R12, p12⟩ := asg_rows (δ := [some (a : D), some (b : D), some (c : D), some (d : D), some (.loc t : D), some ((.loc r11) : D), none]) (e := (dOp fPlus (dVar 5) (dComp (dSeqI (dLst (dCons (dMake (ad "Filled") (dC_Filled ad) 3 [] (dCons (dVar 0) (dCons (dVar 1) dNil))) (dCons (dMakeK (ad "Filled") (dC_Filled ad) 3 2 [1, 0] (dCons (dVar 1) (dCons (dVar 0) dNil))) dNil)))) (dgName 6) dYes (dLst (dCons (dFld (cF ad) (dVar 6) "numbers") (dCons (dFld (cF ad) (dVar 6) "strangers") dNil))) [6]))) (i := 5) (er_plus (er_var rfl R11) (fun l => (er_comp (fs := ["numbers", "strangers"]) (m := 2) (fun μ2 p => (mk_p (ad := ad) (x := "Filled") (fs := ["numbers", "strangers"]) (xs := @List.take D 2 [a, b, c, d]) rfl rfl (cl_take g p 2) (by decide +kernel) (by decide +kernel) (by decide) rfl)) (fun μ2 p => (mk_k (ad := ad) (x := "Filled") (fs := ["numbers", "strangers"]) (xs := @List.take D 2 [a, b, c, d]) rfl rfl rfl rfl (cl_take g p 2) (by decide +kernel) (by decide +kernel) (by decide) rfl)) (show 2 ≤ 4 by decide) NT20 rfl (cF_all (by decide +kernel)) (by decide +kernel) (show 6 < 7 by decide) (p11.app l))) (by decide) p11) p11
  refine Eq.trans (congrArg (leaveT μ) (seq_nx e12)) ?_
  obtain ⟨r13, m13, e13, R13, p13⟩ := asg_rows (δ := [some (a : D), some (b : D), some (c : D), some (d : D), some (.loc t : D), some ((.loc r12) : D), none]) (e := (dOp fPlus (dVar 5) (dComp (dSeqI (dLst (dCons (dMake (ad "Twice") (dC_Twice ad) 3 [] (dCons (dVar 0) (dCons (dVar 1) dNil))) (dCons (dMakeK (ad "Twice") (dC_Twice ad) 3 2 [1, 0] (dCons (dVar 1) (dCons (dVar 0) dNil))) dNil)))) (dgName 6) dYes (dLst (dCons (dFld (cF ad) (dVar 6) "first") (dCons (dFld (cF ad) (dVar 6) "second") dNil))) [6]))) (i := 5) (er_plus (er_var rfl R12) (fun l => (er_comp (fs := ["first", "second"]) (m := 2) (fun μ2 p => (mk_p (ad := ad) (x := "Twice") (fs := ["first", "second"]) (xs := @List.take D 2 [a, b, c, d]) rfl rfl (cl_take g p 2) (by decide +kernel) (by decide +kernel) (by decide) rfl)) (fun μ2 p => (mk_k (ad := ad) (x := "Twice") (fs := ["first", "second"]) (xs := @List.take D 2 [a, b, c, d]) rfl rfl rfl rfl (cl_take g p 2) (by decide +kernel) (by decide +kernel) (by decide) rfl)) (show 2 ≤ 4 by decide) NT20 rfl (cF_all (by decide +kernel)) (by decide +kernel) (show 6 < 7 by decide) (p12.app l))) (by decide) p12) p12
  refine Eq.trans (congrArg (leaveT μ) (seq_nx e13)) ?_
  obtain ⟨r14, m14, e14, R14, p14⟩ := asg_rows (δ := [some (a : D), some (b : D), some (c : D), some (d : D), some (.loc t : D), some ((.loc r13) : D), none]) (e := (dOp fPlus (dVar 5) (dComp (dSeqI (dLst (dCons (dMake (ad "Explained") (dC_Explained ad) 3 [] (dCons (dVar 0) (dCons (dVar 1) dNil))) (dCons (dMakeK (ad "Explained") (dC_Explained ad) 3 2 [1, 0] (dCons (dVar 1) (dCons (dVar 0) dNil))) dNil)))) (dgName 6) dYes (dLst (dCons (dFld (cF ad) (dVar 6) "strangers") (dCons (dFld (cF ad) (dVar 6) "numbers") dNil))) [6]))) (i := 5) (er_plus (er_var rfl R13) (fun l => (er_comp (fs := ["strangers", "numbers"]) (m := 2) (fun μ2 p => (mk_p (ad := ad) (x := "Explained") (fs := ["strangers", "numbers"]) (xs := @List.take D 2 [a, b, c, d]) rfl rfl (cl_take g p 2) (by decide +kernel) (by decide +kernel) (by decide) rfl)) (fun μ2 p => (mk_k (ad := ad) (x := "Explained") (fs := ["strangers", "numbers"]) (xs := @List.take D 2 [a, b, c, d]) rfl rfl rfl rfl (cl_take g p 2) (by decide +kernel) (by decide +kernel) (by decide) rfl)) (show 2 ≤ 4 by decide) NT20 rfl (cF_all (by decide +kernel)) (by decide +kernel) (show 6 < 7 by decide) (p13.app l))) (by decide) p13) p13
  refine Eq.trans (congrArg (leaveT μ) (seq_nx e14)) ?_
  exact ret_all (δ := [some (a : D), some (b : D), some (c : D), some (d : D), some (.loc t : D), some ((.loc r14) : D), none]) (e := (dOp fPlus (dVar 5) (dLst (dCons (dLst (dCons (dFld (cF ad) (dMake (ad "Worse") (dC_Worse ad) 2 [] (dCons (dVar 0) dNil)) "most") dNil)) dNil)))) g (er_plus (er_var rfl R14) (fun l => (er_lst (ar_cons (m := 1) (fun μ2 p => flds_all (fs := ["most"]) (mk_p (ad := ad) (x := "Worse") (fs := ["most"]) (xs := @List.take D 1 [a, b, c, d]) rfl rfl (cl_take g p 1) (by decide +kernel) (by decide +kernel) (by decide) rfl) rfl (cF_all (by decide +kernel)) (by decide +kernel)) (show 1 ≤ 4 by decide) NT20 (fun μ3 p => ar_nil) (p14.app l)) (by decide) (p14.app l))) (by decide) p14) p14 rfl ht (by decide) NT20
end
end K77
set_option Elab.async false
set_option linter.all false
set_option maxRecDepth 100000
set_option maxHeartbeats 2000000
/-! K77l: the law is True. -/
namespace K77
open PySem PySem.Spec PyProof.Rows L2 Gk Dn DnH
/-! ### the things that are put in -/
def Small (n : Int) : Prop := n.natAbs < 10 ^ 12
def Leaf (y : D) : Prop := y = .non ∨ (∃ n, Small n ∧ y = .int n) ∨ ∃ n m, Small n ∧ Small m ∧ y = .tup [.int n, .int m]
def ItemC (c : Nat) (μ : List M) (x : D) : Prop := Leaf x ∨ ∃ (k : Nat) (ds : List D), x = .loc k ∧ 2 ≤ k ∧ μ[k]? = some (.lst ds) ∧ ds.length ≤ c ∧ ∀ y ∈ ds, Leaf y
abbrev Item (μ : List M) (x : D) : Prop := ItemC 3 μ x
theorem Leaf.data {y : D} (h : Leaf y) : ∃ p, (∀ look, pyB look y = some p) ∧ Fine 1 3 p ∧ ∀ n, clo n y = true := by
  rcases h with rfl | ⟨n, hn, rfl⟩ | ⟨n, m, hn, hm, rfl⟩
  · exact ⟨.none, fun l => by rw [pyB], fine_none.up (by decide) (by decide), fun n => rfl⟩
  · exact ⟨.int n, fun l => by rw [pyB], (fine_int hn).up (by decide) (by decide), fun n => rfl⟩
  · refine ⟨.tuple [.int n, .int m], fun l => by rw [pyB, pyBs, pyBs, pyBs, pyB, pyB]; rfl, (fine_tuple (ds := [.int n, .int m]) (n := 0) (k := 0) (m := 2) (fun d hd => ?_) (show (0 + 1) * 2 ≤ 2 by decide)).up (by decide) (by decide), fun n => rfl⟩
    rcases List.mem_cons.mp hd with q | q
    · rw [q]; exact fine_int hn
    · rw [List.mem_singleton.mp q]; exact fine_int hm
theorem leaves_data : ∀ {ds : List D}, (∀ y ∈ ds, Leaf y) → ∃ ps, (∀ look, pyBs look ds = some ps) ∧ ps.length = ds.length ∧ (∀ p ∈ ps, Fine 1 3 p)
  | [], _ => ⟨[], fun l => by rw [pyBs], rfl, fun p h => absurd h List.not_mem_nil⟩
  | d :: ds, h => by
    obtain ⟨p, h1, h2, _⟩ := (h d List.mem_cons_self).data
    obtain ⟨ps, h3, h4, h5⟩ := leaves_data fun y hy => h y (List.mem_cons_of_mem _ hy)
    refine ⟨p :: ps, fun l => by rw [pyBs, h1, h3]; rfl, by rw [List.length_cons, List.length_cons, h4], fun q hq => ?_⟩
    rcases List.mem_cons.mp hq with e | e
    · rw [e]; exact h2
    · exact h5 q e
theorem Item.good {c : Nat} {μ : List M} {x : D} (hc : c ≤ 4) (h : ItemC c μ x) : ∃ p, Good μ.length μ x p := by
  rcases h with h | ⟨k, ds, rfl, _, hk, hl, hd⟩
  · obtain ⟨p, h1, h2, h3⟩ := h.data
    exact ⟨p, h3 _, fun μ' _ f => h1 _, h2.up (by decide) (by decide)⟩
  · obtain ⟨ps, h3, h4, h5⟩ := leaves_data hd
    refine ⟨.list ps, decide_eq_true (get_lt hk), fun μ' e f => ?_, (fine_list (m := 20) h5 (by omega)).up (by decide) (by decide)⟩
    rw [pyB]
    show pyL μ' ((f + 1) + 1) k = _
    rw [pyL, e.2 k (get_lt hk), hk]
    show (pyBs _ ds).map _ = _
    rw [h3]
    rfl
theorem items_goods {c : Nat} {μ : List M} (hc : c ≤ 4) : ∀ {T : List D}, (∀ x ∈ T, ItemC c μ x) → ∃ ps, Goods μ.length μ T ps
  | [], _ => ⟨[], trivial⟩
  | x :: T, h => by
    obtain ⟨p, h1⟩ := Item.good hc (h x List.mem_cons_self)
    obtain ⟨ps, h2⟩ := items_goods hc fun y hy => h y (List.mem_cons_of_mem _ hy)
    exact ⟨p :: ps, h1, h2⟩
/-- from place 2 on the store keeps what it holds -/
def Far (μ μ' : List M) : Prop := ∀ k m, 2 ≤ k → μ[k]? = some m → μ'[k]? = some m
theorem Item.far {c : Nat} {μ μ' : List M} {x : D} (f : Far μ μ') (h : ItemC c μ x) : ItemC c μ' x := by
  rcases h with h | ⟨k, ds, e, h2, hk, r⟩
  · exact .inl h
  · exact .inr ⟨k, ds, e, h2, f k _ h2 hk, r⟩
theorem Item.put {μ : List M} {x : D} {k : Nat} {ds : List D} (h : Item μ x) (h2 : 2 ≤ k) (hk : μ[k]? = some (.lst ds)) (h3 : ds.length ≤ 3) (hd : ∀ y ∈ ds, Leaf y) : ItemC 4 (μ.set k (.lst (ds ++ [.int 7]))) x := by
  rcases h with h | ⟨j, es, rfl, j2, hj, j3, he⟩
  · exact .inl h
  · by_cases e : j = k
    · subst e
      refine .inr ⟨j, _, rfl, j2, List.getElem?_set_self (get_lt hk), by rw [List.length_append]; exact Nat.succ_le_succ h3, fun y hy => ?_⟩
      rcases List.mem_append.mp hy with q | q
      · exact hd y q
      · rw [List.mem_singleton.mp q]
        exact .inr (.inl ⟨7, by unfold Small; decide, rfl⟩)
    · exact .inr ⟨j, es, rfl, j2, by rw [List.getElem?_set_ne (fun z => e z.symm)]; exact hj, Nat.le_succ_of_le j3, he⟩
theorem Item.up {μ : List M} {x : D} (h : Item μ x) : ItemC 4 μ x := by
  rcases h with h | ⟨j, es, rfl, j2, hj, j3, he⟩
  · exact .inl h
  · exact .inr ⟨j, es, rfl, j2, hj, Nat.le_succ_of_le j3, he⟩
theorem Far.trans {μ μ1 μ2 : List M} (a : Far μ μ1) (b : Far μ1 μ2) : Far μ μ2 := fun k m hk h => b k m hk (a k m hk h)
theorem Far.app {μ : List M} (l : List M) : Far μ (μ ++ l) := fun k m hk h => get_app h
theorem append_gr {k : Nat} {ds ds2 : List D} {x : D} {i : Nat} {da : DAn} {δ : VS} {μ μ2 : List M} (h : δ[i]? = some (some (.loc k))) (hk : μ[k]? = some (.lst ds2)) (ha : da δ μ = .ok [x] μ2) (hk2 : μ2[k]? = some (.lst ds)) (hz : ds.length < 5000) :
    dAppend (dVar i) da δ μ = .ok .non (μ2.set k (.lst (ds ++ [x]))) := by
  unfold dAppend lstS
  rw [dVar_eq, h, getV_some, bind_ok]
  dsimp only
  rw [hk]
  dsimp only
  rw [ha, bind_ok]
  unfold fAppend
  dsimp only
  rw [hk2]
  dsimp only
  rw [if_pos (Nat.lt_of_lt_of_le hz size_big)]
theorem take_at {i : Nat} {m : Int} {e : DEn} {δ : VS} {μ : List M} (h : δ[i]? = some (some (.loc 0))) (he : e δ μ = .ok (.int m) μ) (H : HandM μ 0) (m0 : 0 < m) (m1 : m.natAbs.log2 < 9000) :
    ∃ n μ', 0 ≤ n ∧ n < m ∧ dCall d__law_take 2 [] (dCons (dVar i) (dCons e dNil)) δ μ = .ok (.int n) μ' ∧ HandM μ' 0 ∧ μ'.length = μ.length ∧ ∀ k, k ≠ 0 → μ'[k]? = μ[k]? := by
  have q : K77.d__law_take = DnH.d__law_take := rfl
  obtain ⟨n, μ', a1, a2, a3, a4, a5, a6⟩ := DnH.take_ok H m0 m1
  refine ⟨n, μ', a1, a2, ?_, a4, a5, a6⟩
  rw [dCall_eq, dCons_eq, dVar_eq, h, getV_some, bind_ok, dCons_eq, he, bind_ok, dNil_eq, bind_ok, bind_ok, bind_ok]
  refine (if_pos rfl).trans ?_
  rw [q]
  exact a3
theorem pick_thing {n j : Int} {μ : List M} (hn : Small n) (h0 : 0 ≤ j) (h4 : j < 4) (h2 : 2 ≤ μ.length) {δ : VS} (v5 : δ[5]? = some (some (.int n))) (v4 : δ[4]? = some (some (.int j))) :
    ∃ x l, (dOp fIx (dLst (dCons (dVar 5) (dCons (dLst (dCons (dVar 5) dNil)) (dCons (dTup (dCons (dVar 5) (dCons (dNeg (dC (.int 1))) dNil))) (dCons (dLst (dCons (dTup (dCons (dVar 5) (dCons (dC (.int 1)) dNil))) (dCons (dC .non) dNil))) dNil))))) (dVar 4)) δ μ = .ok x (μ ++ l) ∧ Item (μ ++ l) x := by
  have s1 : (1 : Nat) ≤ sizeLine := Nat.le_trans (by decide) size_big
  have s2 : (2 : Nat) ≤ sizeLine := Nat.le_trans (by decide) size_big
  have s4 : (4 : Nat) ≤ sizeLine := Nat.le_trans (by decide) size_big
  have a1 : ∀ μ, dVar 5 δ μ = .ok (.int n) μ := fun μ => by rw [dVar_eq, v5, getV_some]
  have a2 : ∀ μ, dLst (dCons (dVar 5) dNil) δ μ = .ok (.loc μ.length) (μ ++ [.lst [.int n]]) := fun μ => by
    unfold dLst
    rw [dCons_eq, a1, bind_ok, dNil_eq, bind_ok, bind_ok]
    exact if_pos s1
  have a3 : ∀ μ, dTup (dCons (dVar 5) (dCons (dNeg (dC (.int 1))) dNil)) δ μ = .ok (.tup [.int n, .int (-1)]) μ := fun μ => by
    have an : dNeg (dC (.int 1)) δ μ = .ok (.int (-1)) μ := rfl
    unfold dTup
    rw [dCons_eq, a1, bind_ok, dCons_eq, an, bind_ok, dNil_eq, bind_ok, bind_ok, bind_ok]
    exact if_pos s2
  have a4 : ∀ μ, dTup (dCons (dVar 5) (dCons (dC (.int 1)) dNil)) δ μ = .ok (.tup [.int n, .int 1]) μ := fun μ => by
    unfold dTup
    rw [dCons_eq, a1, bind_ok, dCons_eq, dC_eq, bind_ok, dNil_eq, bind_ok, bind_ok, bind_ok]
    exact if_pos s2
  have a5 : ∀ μ, dLst (dCons (dTup (dCons (dVar 5) (dCons (dC (.int 1)) dNil))) (dCons (dC .non) dNil)) δ μ = .ok (.loc μ.length) (μ ++ [.lst [.tup [.int n, .int 1], .non]]) := fun μ => by
    unfold dLst
    rw [dCons_eq, a4, bind_ok, dCons_eq, dC_eq, bind_ok, dNil_eq, bind_ok, bind_ok, bind_ok]
    exact if_pos s2
  have e : dLst (dCons (dVar 5) (dCons (dLst (dCons (dVar 5) dNil)) (dCons (dTup (dCons (dVar 5) (dCons (dNeg (dC (.int 1))) dNil))) (dCons (dLst (dCons (dTup (dCons (dVar 5) (dCons (dC (.int 1)) dNil))) (dCons (dC .non) dNil))) dNil)))) δ μ =
      .ok (.loc (μ ++ [M.lst [D.int n]] ++ [M.lst [D.tup [.int n, .int 1], .non]]).length) (μ ++ [.lst [.int n]] ++ [.lst [.tup [.int n, .int 1], .non]] ++ [.lst [.int n, .loc μ.length, .tup [.int n, .int (-1)], .loc (μ ++ [M.lst [D.int n]]).length]]) := by
    rw [dLst.eq_def]
    rw [dCons_eq, a1, bind_ok, dCons_eq, a2, bind_ok, dCons_eq, a3, bind_ok, dCons_eq, a5, bind_ok, dNil_eq, bind_ok, bind_ok, bind_ok, bind_ok, bind_ok]
    exact if_pos s4
  have lk : ∀ x, atI [D.int n, .loc μ.length, .tup [.int n, .int (-1)], .loc (μ ++ [M.lst [D.int n]]).length] j = some x →
      (dOp fIx (dLst (dCons (dVar 5) (dCons (dLst (dCons (dVar 5) dNil)) (dCons (dTup (dCons (dVar 5) (dCons (dNeg (dC (.int 1))) dNil))) (dCons (dLst (dCons (dTup (dCons (dVar 5) (dCons (dC (.int 1)) dNil))) (dCons (dC .non) dNil))) dNil))))) (dVar 4)) δ μ =
      .ok x (μ ++ ([.lst [.int n]] ++ [.lst [.tup [.int n, .int 1], .non]] ++ [.lst [.int n, .loc μ.length, .tup [.int n, .int (-1)], .loc (μ ++ [M.lst [D.int n]]).length]])) := fun x hx => by
    rw [dOp_eq, e, bind_ok, dVar_eq, v4, getV_some, bind_ok]
    unfold fIx
    dsimp only
    have q : seqS (μ ++ [.lst [.int n]] ++ [.lst [.tup [.int n, .int 1], .non]] ++ [.lst [.int n, .loc μ.length, .tup [.int n, .int (-1)], .loc (μ ++ [M.lst [D.int n]]).length]]) (.loc (μ ++ [M.lst [D.int n]] ++ [M.lst [D.tup [.int n, .int 1], .non]]).length) =
        some [.int n, .loc μ.length, .tup [.int n, .int (-1)], .loc (μ ++ [M.lst [D.int n]]).length] := by rw [seqS, get_last]
    rw [q]
    dsimp only
    rw [hx]
    dsimp only
    rw [List.append_assoc, List.append_assoc, List.append_assoc]
  have l1 : Leaf (.int n) := .inr (.inl ⟨n, hn, rfl⟩)
  have j4 : j = 0 ∨ j = 1 ∨ j = 2 ∨ j = 3 := by omega
  rcases j4 with rfl | rfl | rfl | rfl
  · exact ⟨_, _, lk _ rfl, .inl l1⟩
  · refine ⟨_, _, lk _ rfl, .inr ⟨μ.length, [.int n], rfl, h2, ?_, show 1 ≤ 3 by decide, fun y hy => by rw [List.mem_singleton.mp hy]; exact l1⟩⟩
    rw [List.getElem?_append_right (Nat.le_refl _), Nat.sub_self]
    rfl
  · exact ⟨_, _, lk _ rfl, .inl (.inr (.inr ⟨n, -1, hn, by unfold Small; decide, rfl⟩))⟩
  · refine ⟨_, _, lk _ rfl, .inr ⟨(μ ++ [M.lst [D.int n]]).length, [.tup [.int n, .int 1], .non], rfl, by rw [List.length_append]; omega, ?_, show 2 ≤ 3 by decide, fun y hy => ?_⟩⟩
    · rw [← List.append_assoc, ← List.append_assoc]
      exact get_app get_last
    · rcases List.mem_cons.mp hy with q | q
      · rw [q]; exact .inr (.inr ⟨n, 1, hn, by unfold Small; decide, rfl⟩)
      · rw [List.mem_singleton.mp q]; exact .inl rfl
end K77
set_option Elab.async false
set_option linter.all false
set_option maxRecDepth 100000
set_option maxHeartbeats 2000000
/-! K77p: the whole law. -/
namespace K77
open PySem PySem.Spec PyProof.Rows L2 Gk Dn DnH
section
variable {scr : D}
/-- the slots while things are put in -/
abbrev sl (scr : D) (u3 u4 u5 : Option D) : VS := [some scr, some (.loc 0), some (.loc 1), u3, u4, u5, none, none, none, none, none]
/-- what holds between two turns -/
def Js (scr : D) (xs : List D) (δ : VS) (μ : List M) : Prop := ∃ (T : List D) (u3 u4 u5 : Option D), δ = sl scr u3 u4 u5 ∧ xs.length + T.length = 4 ∧ (∀ x ∈ xs, ∃ j : Int, x = .int j ∧ 0 ≤ j ∧ j < 4) ∧ HandM μ 0 ∧ μ[1]? = some (.lst T) ∧ ∀ x ∈ T, Item μ x
theorem turn_ok {x : D} {xs : List D} {δ : VS} {μ : List M} (h : Js scr (x :: xs) δ μ) : ∃ δ1 μ1, dgName 3 x δ μ = .nx δ1 μ1 ∧ Dn.Turn (Js scr xs) (fun o => ∃ δ μ, o = .nx δ μ ∧ Js scr [] δ μ)
    ((dSeq (dAsg (dCall d__law_take 2 [] (dCons (dVar 1) (dCons (dC (.int 4)) dNil))) (dgName 4))
  (dSeq (dAsg (dOp fPlus (dOp fTimes (dC (.int 10)) (dCall d__law_take 2 [] (dCons (dVar 1) (dCons (dOp fPow (dC (.int 10)) (dC (.int 6))) dNil)))) (dVar 3)) (dgName 5))
  (dDrop (dAppend (dVar 2) (dCons (dOp fIx (dLst (dCons (dVar 5) (dCons (dLst (dCons (dVar 5) dNil)) (dCons (dTup (dCons (dVar 5) (dCons (dNeg (dC (.int 1))) dNil))) (dCons (dLst (dCons (dTup (dCons (dVar 5) (dCons (dC (.int 1)) dNil))) (dCons (dC .non) dNil))) dNil))))) (dVar 4)) dNil))))) δ1 μ1) := by
  obtain ⟨T, u3, u4, u5, rfl, hl, hx, hH, hT, hi⟩ := h
  obtain ⟨j, rfl, j0, j4⟩ := hx x List.mem_cons_self
  refine ⟨sl scr (some (.int j)) u4 u5, μ, rfl, ?_⟩
  obtain ⟨k, μ1, k0, k4, e1, H1, l1, f1⟩ := take_at (i := 1) (m := 4) (e := dC (.int 4)) (δ := sl scr (some (.int j)) u4 u5) rfl rfl hH (by decide) (by decide +kernel)
  have s1 : dAsg (dCall d__law_take 2 [] (dCons (dVar 1) (dCons (dC (.int 4)) dNil))) (dgName 4) (sl scr (some (.int j)) u4 u5) μ = .nx (sl scr (some (.int j)) (some (.int k)) u5) μ1 := by
    rw [dAsg_eq, e1, thenS_ok]
    rfl
  obtain ⟨n, μ2, n0, n6, e2, H2, l2, f2⟩ := take_at (i := 1) (m := 1000000) (e := dOp fPow (dC (.int 10)) (dC (.int 6))) (δ := sl scr (some (.int j)) (some (.int k)) u5) rfl rfl H1 (by decide) (by decide +kernel)
  have c1 : (10 : Int).natAbs.log2 = 3 := by decide +kernel
  have ln : n.natAbs.log2 < 64 := log2_lt (by omega) (by decide)
  have s2 : dAsg (dOp fPlus (dOp fTimes (dC (.int 10)) (dCall d__law_take 2 [] (dCons (dVar 1) (dCons (dOp fPow (dC (.int 10)) (dC (.int 6))) dNil)))) (dVar 3)) (dgName 5) (sl scr (some (.int j)) (some (.int k)) u5) μ1 =
      .nx (sl scr (some (.int j)) (some (.int k)) (some (.int (10 * n + j)))) μ2 := by
    have v3 : dVar 3 (sl scr (some (.int j)) (some (.int k)) u5) μ2 = .ok (.int j) μ2 := rfl
    rw [dAsg_eq, dOp_eq, dOp_eq, dC_eq, bind_ok, e2, bind_ok, fTimes_int (by omega), bind_ok, v3, bind_ok, fPlus_int, thenS_ok]
    rfl
  have lμ : 2 ≤ μ.length := Nat.succ_le_of_lt (get_lt hT)
  have far : Far μ μ2 := fun q m hq h => by rw [f2 q (by omega), f1 q (by omega)]; exact h
  have hT2 : μ2[1]? = some (.lst T) := by rw [f2 1 (by decide), f1 1 (by decide)]; exact hT
  obtain ⟨y, l, e3, hy⟩ := pick_thing (n := 10 * n + j) (j := k) (μ := μ2) (δ := sl scr (some (.int j)) (some (.int k)) (some (.int (10 * n + j)))) (by unfold Small; omega) k0 k4 (by omega) rfl rfl
  have e4 : dCons (dOp fIx (dLst (dCons (dVar 5) (dCons (dLst (dCons (dVar 5) dNil)) (dCons (dTup (dCons (dVar 5) (dCons (dNeg (dC (.int 1))) dNil))) (dCons (dLst (dCons (dTup (dCons (dVar 5) (dCons (dC (.int 1)) dNil))) (dCons (dC .non) dNil))) dNil))))) (dVar 4)) dNil (sl scr (some (.int j)) (some (.int k)) (some (.int (10 * n + j)))) μ2 = .ok [y] (μ2 ++ l) := by
    rw [dCons_eq, e3, bind_ok, dNil_eq, bind_ok]
  have e5 := append_gr (i := 2) (k := 1) (δ := sl scr (some (.int j)) (some (.int k)) (some (.int (10 * n + j)))) rfl hT2 e4 (get_app hT2) (by simp at hl; omega)
  have far3 : Far (μ2 ++ l) ((μ2 ++ l).set 1 (.lst (T ++ [y]))) := fun q m hq h => by rw [List.getElem?_set_ne (by omega)]; exact h
  have s3 := (dSeq_eq).trans ((congrArg (fun o => SO.thn o _) s1).trans (thn_nx.trans ((dSeq_eq).trans ((congrArg (fun o => SO.thn o _) s2).trans (thn_nx.trans ((dDrop_eq).trans ((congrArg (fun o => Out.thenS o _ _) e5).trans thenS_ok)))))))
  refine Eq.mpr (congrArg (Dn.Turn _ _) s3) ?_
  refine ⟨T ++ [y], _, _, _, rfl, by simp at hl ⊢; omega, fun x hm => hx x (List.mem_cons_of_mem _ hm), ?_, ?_, fun x hm => ?_⟩
  · obtain ⟨cs, i, r, t, h1, h2⟩ := H2
    exact ⟨cs, i, r, t, by rw [List.getElem?_set_ne (by decide)]; exact get_app h1, h2⟩
  · rw [List.getElem?_set_self (by rw [List.length_append]; omega)]
  · rcases List.mem_append.mp hm with q | q
    · exact Item.far far3 (Item.far (Far.app l) (Item.far far (hi x q)))
    · rw [List.mem_singleton.mp q]
      exact Item.far far3 hy
theorem not_list {x : D} {μ : List M} (h : Leaf x) : fIsT ["list"] x μ = .ok (.bl false) μ := by
  rcases h with rfl | ⟨n, _, rfl⟩ | ⟨n, m, _, _, rfl⟩ <;> (unfold fIsT tyS; rfl)
theorem is_list {k : Nat} {ds : List D} {μ : List M} (h : μ[k]? = some (.lst ds)) : fIsT ["list"] (.loc k) μ = .ok (.bl true) μ := by
  have e : tyS μ (.loc k) = some "list" := by rw [tyS, h]
  unfold fIsT
  rw [e]
  rfl
theorem tru_true {e : DEn} {δ : VS} {μ : List M} {b : Bool} (h : e δ μ = .ok (.bl b) μ) : dTru e δ μ = .ok b μ := by
  unfold dTru
  rw [h, bind_ok]
  rfl
theorem gate_ok {e1 e2 : DEn} {δ : VS} {μ : List M} {g : DSn} (h1 : e1 δ μ = .ok (.bl true) μ) (h2 : e2 δ μ = .ok (.bl true) μ) : dIfS (dOr (dNot (dTru e1)) (dNot (dTru e2))) g dNext δ μ = .nx δ μ := by
  rw [dIfS_eq, dOr_eq, dNot_eq, tru_true h1, bind_ok, bind_ok, if_neg (by decide), dNot_eq, tru_true h2, bind_ok, thenT_ok, if_neg (by decide)]
  rfl
theorem call4 {ad : Str → Addr} {den : Den} {i1 i2 i3 i4 : Nat} {a b c t : D} {δ : VS} {μ : List M} {r : Out D} (h1 : δ[i1]? = some (some a)) (h2 : δ[i2]? = some (some b)) (h3 : δ[i3]? = some (some c)) (h4 : δ[i4]? = some (some t)) (e : den [a, b, c, t] μ = r) :
    dCall den 4 [] (dCons (dVar i1) (dCons (dVar i2) (dCons (dVar i3) (dCons (dVar i4) dNil)))) δ μ = r := by
  simp only [dCall_eq, dCons_eq, dNil_eq, dVar_eq, h1, h2, h3, h4, getV_some, bind_ok]
  exact (if_pos rfl).trans e
theorem call5 {ad : Str → Addr} {den : Den} {i1 i2 i3 i4 i5 : Nat} {a b c d t : D} {δ : VS} {μ : List M} {r : Out D} (h1 : δ[i1]? = some (some a)) (h2 : δ[i2]? = some (some b)) (h3 : δ[i3]? = some (some c)) (h4 : δ[i4]? = some (some d)) (h5 : δ[i5]? = some (some t)) (e : den [a, b, c, d, t] μ = r) :
    dCall den 5 [] (dCons (dVar i1) (dCons (dVar i2) (dCons (dVar i3) (dCons (dVar i4) (dCons (dVar i5) dNil))))) δ μ = r := by
  simp only [dCall_eq, dCons_eq, dNil_eq, dVar_eq, h1, h2, h3, h4, h5, getV_some, bind_ok]
  exact (if_pos rfl).trans e
/-- what is held shows the things that were put in -/
theorem end_ok {ad : Str → Addr} {a b : D} {δ : VS} {μ : List M} (ha : ItemC 4 μ a) (hb : ItemC 4 μ b) (v6 : δ[6]? = some (some a)) (v7 : δ[7]? = some (some b)) (v10 : δ[10]? = some (some (.ins (ad "Recovered") ((["numbers", "filling"] : List Str).zip [a, b])))) :
    ∃ μ', dRet (dOp (fEq false) (dCB (f1 fRepr) (dCons (dLst (dCons (dFld (cF ad) (dVar 10) "numbers") (dCons (dFld (cF ad) (dVar 10) "filling") dNil))) dNil)) (dCB (f1 fRepr) (dCons (dLst (dCons (dVar 6) (dCons (dVar 7) dNil))) dNil))) δ μ = .ret (.bl true) μ' := by
  have s2 : (2 : Nat) ≤ sizeLine := Nat.le_trans (by decide) size_big
  obtain ⟨ps, g⟩ := items_goods (c := 4) (Nat.le_refl _) (μ := μ) (T := [a, b]) (fun x hx => by
    rcases List.mem_cons.mp hx with q | q
    · rw [q]; exact ha
    · rw [List.mem_singleton.mp q]; exact hb)
  have f1' : dLst (dCons (dFld (cF ad) (dVar 10) "numbers") (dCons (dFld (cF ad) (dVar 10) "filling") dNil)) δ μ = .ok (.loc μ.length) (μ ++ [.lst [a, b]]) := by
    have q : (dCons (dFld (cF ad) (dVar 10) "numbers") (dCons (dFld (cF ad) (dVar 10) "filling") dNil)) δ μ = .ok [a, b] μ :=
      flds_all (c := cF ad) (e := dVar 10) (C := ad "Recovered") (fs := ["numbers", "filling"]) (xs := [a, b]) (by rw [dVar_eq, v10, getV_some]) rfl (cF_all (by decide +kernel)) (by decide +kernel)
    unfold dLst
    rw [q, bind_ok]
    exact if_pos s2
  have f2' : ∀ μ, dLst (dCons (dVar 6) (dCons (dVar 7) dNil)) δ μ = .ok (.loc μ.length) (μ ++ [.lst [a, b]]) := fun μ => by
    unfold dLst
    rw [dCons_eq, dVar_eq, v6, getV_some, bind_ok, dCons_eq, dVar_eq, v7, getV_some, bind_ok, dNil_eq, bind_ok, bind_ok, bind_ok]
    exact if_pos s2
  have p0 : Pre μ.length μ μ := .refl (Nat.le_refl _)
  have hq : ps.length ≤ 20 := by rw [g.len]; exact (show 2 ≤ 20 by decide)
  have r1 := repr_at (k := μ.length) g (p0.app [.lst [a, b]]) get_last hq
  have r2 := repr_at (k := (μ ++ [M.lst [a, b]]).length) g ((p0.app [.lst [a, b]]).app [.lst [a, b]]) get_last hq
  refine ⟨μ ++ [M.lst [a, b]] ++ [M.lst [a, b]], ?_⟩
  rw [dRet_eq, dOp_eq, dCB_eq, dCons_eq, f1', bind_ok, dNil_eq, bind_ok, bind_ok, f1_eq, r1, bind_ok, dCB_eq, dCons_eq, f2', bind_ok, dNil_eq, bind_ok, bind_ok, f1_eq, r2, bind_ok, eq_str, beq_self_eq_true, thenS_ok]
  rfl
theorem law_true (ad : Str → Addr) (ns : List Int) (h : ns.length ≤ 63) : ∃ μ, d_law ad [.lst (ns.map D.int)] [] = .ok (.bl true) μ := by
  obtain ⟨m, eh, H⟩ := hand_ok ns h []
  have qh : K77.d__law_hand = DnH.d__law_hand := rfl
  have e0 : slots 11 [D.lst (ns.map D.int)] = [some (.lst (ns.map D.int)), none, none, none, none, none, none, none, none, none, none] := rfl
  unfold d_law b_law
  rw [dDef_tree, e0]
  have s1 : dAsg (dCall d__law_hand 1 [] (dCons (dVar 0) dNil)) (dgName 1) [some (D.lst (ns.map D.int)), none, none, none, none, none, none, none, none, none, none] [] = .nx [some (.lst (ns.map D.int)), some (.loc 0), none, none, none, none, none, none, none, none, none] [m] := by
    have q : dCall d__law_hand 1 [] (dCons (dVar 0) dNil) [some (D.lst (ns.map D.int)), none, none, none, none, none, none, none, none, none, none] [] = .ok (.loc 0) [m] := by
      show (if ([D.lst (ns.map D.int)] ++ []).length = 1 then d__law_hand ([D.lst (ns.map D.int)] ++ []) [] else .bad) = _
      refine (if_pos rfl).trans ?_
      rw [qh]
      exact eh
    rw [dAsg_eq, q, thenS_ok]
    rfl
  have s2 : dAsg (dLst dNil) (dgName 2) [some (D.lst (ns.map D.int)), some (.loc 0), none, none, none, none, none, none, none, none, none] [m] = .nx (sl (.lst (ns.map D.int)) none none none) [m, .lst []] := rfl
  obtain ⟨δ3, μ3, s3, J3⟩ := dFor_loop (W := fun o => ∃ δ μ, o = .nx δ μ ∧ Js (.lst (ns.map D.int)) [] δ μ) (J := Js (.lst (ns.map D.int))) (it := dRng1 (dCons (dC (.int 4)) dNil)) (b := dgName 3) (δ := sl (.lst (ns.map D.int)) none none none) (μ := [m, .lst []])
    (I := ⟨rangeD 0 4, fun _ => true⟩) rfl (fun _ _ _ _ => rfl) (fun x xs δ μ hJ => turn_ok hJ) (fun δ μ hJ => ⟨δ, μ, rfl, hJ⟩)
    ⟨[], none, none, none, rfl, rfl, fun x hx => by
      obtain ⟨i, hi, rfl⟩ := List.mem_map.mp hx
      exact ⟨_, rfl, by omega, by have := List.mem_range.mp hi; omega⟩, by
      obtain ⟨cs, i, r, t, h1, h2⟩ := H
      exact ⟨cs, i, r, t, h1, h2⟩, rfl, fun x hx => absurd hx List.not_mem_nil⟩
  obtain ⟨T, u3, u4, u5, rfl, hl, _, H3, hT, hi⟩ := J3
  match T, hl with
  | [a, b, c, d], _ =>
  obtain ⟨ps, g⟩ := items_goods (by decide) hi
  have s4 : dAsg (dVar 2) (dgAny 4 (dgCons (dgName 6) (dgCons (dgName 7) (dgCons (dgName 8) (dgCons (dgName 9) dgNil))))) (sl (.lst (ns.map D.int)) u3 u4 u5) μ3 =
      .nx [some (.lst (ns.map D.int)), some (.loc 0), some (.loc 1), u3, u4, u5, some a, some b, some c, some d, none] μ3 := by
    have q : dVar 2 (sl (.lst (ns.map D.int)) u3 u4 u5) μ3 = .ok (.loc 1) μ3 := rfl
    rw [dAsg_eq, q, thenS_ok]
    unfold dgAny
    have q2 : seqS μ3 (.loc 1) = some [a, b, c, d] := by rw [seqS, hT]
    rw [q2]
    rfl
  have cl2 : clos μ3.length [a, b] = true := (g.take 2).clos
  have s5 : dAsg (dMake (ad "Recovered") (dC_Recovered ad) 3 [] (dCons (dVar 6) (dCons (dVar 7) dNil))) (dgName 10) [some (.lst (ns.map D.int)), some (.loc 0), some (.loc 1), u3, u4, u5, some a, some b, some c, some d, none] μ3 =
      .nx [some (.lst (ns.map D.int)), some (.loc 0), some (.loc 1), u3, u4, u5, some a, some b, some c, some d, some (.ins (ad "Recovered") ((["numbers", "filling"] : List Str).zip [a, b]))] μ3 :=
    asg_val (mk_p (ad := ad) (x := "Recovered") (fs := ["numbers", "filling"]) (xs := [a, b]) rfl rfl cl2 (by decide +kernel) (by decide +kernel) (by decide) rfl)
  refine ⟨[], ?_⟩
  refine Eq.trans (congrArg (leaveT []) (seq_nx s1)) ?_
  refine Eq.trans (congrArg (leaveT []) (seq_nx s2)) ?_
  refine Eq.trans (congrArg (leaveT []) (seq_nx s3)) ?_
  refine Eq.trans (congrArg (leaveT []) (seq_nx s4)) ?_
  refine Eq.trans (congrArg (leaveT []) (seq_nx s5)) ?_
  refine Eq.trans (congrArg (leaveT []) (seq_nx (gate_ok (call4 (ad := ad) rfl rfl rfl rfl (true__law_answers g hT)) (call5 (ad := ad) rfl rfl rfl rfl rfl (true__law_groups g hT))))) ?_
  refine Eq.trans (congrArg (leaveT []) (seq_nx (gate_ok (call5 (ad := ad) rfl rfl rfl rfl rfl (true__law_bounds g hT)) (call5 (ad := ad) rfl rfl rfl rfl rfl (true__law_plans g hT))))) ?_
  have ia := hi a (by simp)
  have ib := hi b (by simp)
  have fin : ∀ μ4, ItemC 4 μ4 a → ItemC 4 μ4 b → leaveT [] (dRet (dOp (fEq false) (dCB (f1 fRepr) (dCons (dLst (dCons (dFld (cF ad) (dVar 10) "numbers") (dCons (dFld (cF ad) (dVar 10) "filling") dNil))) dNil)) (dCB (f1 fRepr) (dCons (dLst (dCons (dVar 6) (dCons (dVar 7) dNil))) dNil)))
      [some (.lst (ns.map D.int)), some (.loc 0), some (.loc 1), u3, u4, u5, some a, some b, some c, some d, some (.ins (ad "Recovered") ((["numbers", "filling"] : List Str).zip [a, b]))] μ4) = .ok (.bl true) [] := fun μ4 xa xb => by
    obtain ⟨μ5, e⟩ := end_ok (ad := ad) (δ := [some (.lst (ns.map D.int)), some (.loc 0), some (.loc 1), u3, u4, u5, some a, some b, some c, some d, some (.ins (ad "Recovered") ((["numbers", "filling"] : List Str).zip [a, b]))]) xa xb rfl rfl rfl
    rw [e]
    exact leave_clo (μ := []) ⟨Nat.zero_le _, fun k hk => absurd hk (Nat.not_lt_zero k)⟩ rfl
  have v7 : ∀ μ, dVar 7 [some (D.lst (ns.map D.int)), some (.loc 0), some (.loc 1), u3, u4, u5, some a, some b, some c, some d, some (.ins (ad "Recovered") ((["numbers", "filling"] : List Str).zip [a, b]))] μ = .ok b μ := fun _ => rfl
  rcases ib with hb | ⟨k, ds, rfl, h2, hk, h3, hd⟩
  · refine Eq.trans (congrArg (leaveT []) (seq_nx (δ2 := [some (.lst (ns.map D.int)), some (.loc 0), some (.loc 1), u3, u4, u5, some a, some b, some c, some d, some (.ins (ad "Recovered") ((["numbers", "filling"] : List Str).zip [a, b]))]) (μ2 := μ3) ?_)) (fin μ3 ia.up (.inl hb))
    have q : dIsT ["list"] (dVar 7) [some (D.lst (ns.map D.int)), some (.loc 0), some (.loc 1), u3, u4, u5, some a, some b, some c, some d, some (.ins (ad "Recovered") ((["numbers", "filling"] : List Str).zip [a, b]))] μ3 = .ok (.bl false) μ3 := by
      unfold dIsT
      rw [v7, bind_ok]
      exact not_list hb
    rw [dIfS_eq, tru_true q, thenT_ok, if_neg (by decide)]
    rfl
  · have ib : Item μ3 (.loc k) := .inr ⟨k, ds, rfl, h2, hk, h3, hd⟩
    have q : dIsT ["list"] (dVar 7) [some (D.lst (ns.map D.int)), some (.loc 0), some (.loc 1), u3, u4, u5, some a, some (.loc k), some c, some d, some (.ins (ad "Recovered") ((["numbers", "filling"] : List Str).zip [a, .loc k]))] μ3 = .ok (.bl true) μ3 := by
      unfold dIsT
      rw [v7, bind_ok]
      exact is_list hk
    have e5 := append_gr (i := 7) (k := k) (x := .int 7) (da := dCons (dC (.int 7)) dNil) (δ := [some (D.lst (ns.map D.int)), some (.loc 0), some (.loc 1), u3, u4, u5, some a, some (.loc k), some c, some d, some (.ins (ad "Recovered") ((["numbers", "filling"] : List Str).zip [a, .loc k]))]) rfl hk rfl hk (by omega)
    refine Eq.trans (congrArg (leaveT []) (seq_nx (δ2 := [some (.lst (ns.map D.int)), some (.loc 0), some (.loc 1), u3, u4, u5, some a, some (.loc k), some c, some d, some (.ins (ad "Recovered") ((["numbers", "filling"] : List Str).zip [a, .loc k]))]) (μ2 := μ3.set k (.lst (ds ++ [.int 7]))) ?_)) (fin _ (ia.put h2 hk h3 hd) (ib.put h2 hk h3 hd))
    rw [dIfS_eq, tru_true q, thenT_ok, if_pos rfl, dDrop_eq, e5, thenS_ok]
end
end K77
set_option Elab.async false
set_option linter.all false
set_option maxRecDepth 100000
set_option maxHeartbeats 1000000
namespace K77
open PySem PySem.Spec PyProof.Rows L2 Gk Dn
section
variable {P : Program} {w : World} {K : PySem.W.Frag} {mg : Str → Option Value} {base : Heap} {ad : Str → Addr}
theorem okL_law {a : Addr} {fd : FuncData} (F : Fun K "law" "law" st_law a fd) (T : TB mg) (Sy : SysK K) (h__law_answers : GnAt P w K mg base 3 "_law_answers" 4 (d__law_answers ad)) (h__law_bounds : GnAt P w K mg base 3 "_law_bounds" 5 (d__law_bounds ad)) (h__law_groups : GnAt P w K mg base 3 "_law_groups" 5 (d__law_groups ad)) (h__law_hand : FnAt P w K mg base 1 "_law_hand" 1 [] d__law_hand) (h__law_plans : GnAt P w K mg base 3 "_law_plans" 5 (d__law_plans ad)) (h__law_take : FnAt P w K mg base 2 "_law_take" 2 [] d__law_take) (hF : ∀ C f, cF ad C f = true → Cls K C ∧ NoAttr K C f) (h_Recovered : ClAt P w K mg base 1 "Recovered" "Recovered.__init__" stC_Recovered (ad "Recovered") psC_Recovered [] (dC_Recovered ad)) : GOk P w K mg base (L2.CX P w) 4 a fd ps_law (spD K (d_law ad) 1) :=
  gn_den (N := N_law) (own := false) (g := b_law ad) (k := 3) F sc_law fun cdv A outer s H E qa hr => ⟨_, (pss_cons (ps_set (i := 1) sc_law.nd rfl (.inl rfl) (pe_at (dd := []) h__law_hand 0 (by decide) (hr.mono (by decide)) (by rfl) (takes_of rfl rfl rfl rfl) (pa_cons (pv 0) pa_nil)))
      (pss_cons (ps_set (i := 2) sc_law.nd rfl (.inl rfl) (pe_lst pa_nil))
      (pss_cons (ps_for (passes_of rfl) rfl (pi_range1 (by rfl) T.range (pa_cons pe_int pa_nil)) (pg_name (i := 3) sc_law.nd rfl (.inl rfl)) (pss_cons (ps_set (i := 4) sc_law.nd rfl (.inl rfl) (pe_at (dd := []) h__law_take 0 (by decide) (hr.mono (by decide)) (by rfl) (takes_of rfl rfl rfl rfl) (pa_cons (pv 1) (pa_cons pe_int pa_nil))))
      (pss_cons (ps_set (i := 5) sc_law.nd rfl (.inl rfl) (pe_op op_plus (pe_op op_times pe_int (pe_at (dd := []) h__law_take 0 (by decide) (hr.mono (by decide)) (by rfl) (takes_of rfl rfl rfl rfl) (pa_cons (pv 1) (pa_cons (pe_op op_pow pe_int pe_int) pa_nil)))) (pv 3)))
      (pss_one (ps_expr (pe_bm PySem.F.plainAttrs_list PySem.F.slot_list_append PySem.F.type_list_append mt_append (pv 2) (pa_cons (pe_ix ix_seq (pe_lst (pa_cons (pv 5) (pa_cons (pe_lst (pa_cons (pv 5) pa_nil)) (pa_cons (pe_tup (pa_cons (pv 5) (pa_cons (pe_un un_neg pe_int) pa_nil))) (pa_cons (pe_lst (pa_cons (pe_tup (pa_cons (pv 5) (pa_cons pe_int pa_nil))) (pa_cons pe_non pa_nil))) pa_nil))))) (pv 4) (fun _ _ => rfl)) pa_nil)))))))
      (pss_cons (ps_asg (pv 2) (pg_any rfl (pgs_cons (pg_name (i := 6) sc_law.nd rfl (.inl rfl)) (pgs_cons (pg_name (i := 7) sc_law.nd rfl (.inl rfl)) (pgs_cons (pg_name (i := 8) sc_law.nd rfl (.inl rfl)) (pgs_cons (pg_name (i := 9) sc_law.nd rfl (.inl rfl)) pgs_nil))))))
      (pss_cons (ps_set (i := 10) sc_law.nd rfl (.inl rfl) (pe_mkat h_Recovered 0 (by decide) (hr.mono (by decide)) (by rfl) (takes_of rfl rfl rfl rfl) (pa_cons (pv 6) (pa_cons (pv 7) pa_nil))))
      (pss_cons (ps_if (PW.pt (pw_or (pt_not (pt_truth (pe_gat h__law_answers qa.dp (hr.mono (by decide)) (by rfl) (takes_of rfl rfl rfl rfl) (pa_cons (pv 6) (pa_cons (pv 7) (pa_cons (pv 8) (pa_cons (pv 2) pa_nil))))) (by intro _; rfl))) (pw_or1 (pt_not (pt_truth (pe_gat h__law_groups qa.dp (hr.mono (by decide)) (by rfl) (takes_of rfl rfl rfl rfl) (pa_cons (pv 6) (pa_cons (pv 7) (pa_cons (pv 8) (pa_cons (pv 9) (pa_cons (pv 2) pa_nil)))))) (by intro _; rfl)))))) (pss_one (ps_ret pe_bl)) pss_nil)
      (pss_cons (ps_if (PW.pt (pw_or (pt_not (pt_truth (pe_gat h__law_bounds qa.dp (hr.mono (by decide)) (by rfl) (takes_of rfl rfl rfl rfl) (pa_cons (pv 6) (pa_cons (pv 7) (pa_cons (pv 8) (pa_cons (pv 9) (pa_cons (pv 2) pa_nil)))))) (by intro _; rfl))) (pw_or1 (pt_not (pt_truth (pe_gat h__law_plans qa.dp (hr.mono (by decide)) (by rfl) (takes_of rfl rfl rfl rfl) (pa_cons (pv 6) (pa_cons (pv 7) (pa_cons (pv 8) (pa_cons (pv 9) (pa_cons (pv 2) pa_nil)))))) (by intro _; rfl)))))) (pss_one (ps_ret pe_bl)) pss_nil)
      (pss_cons (ps_if (pt_truth (pe_callB call_isi (by rfl) T.isinstance (by decide +kernel) (pa_cons (pv 7) (pa_cons (pe_bltn (v := .ty "list") (u := .type "list") (by rfl) T.list (by decide +kernel) rfl) pa_nil))) (by intro _; rfl)) (pss_one (ps_expr (pe_bm PySem.F.plainAttrs_list PySem.F.slot_list_append PySem.F.type_list_append mt_append (pv 7) (pa_cons pe_int pa_nil)))) pss_nil)
      (pss_one (ps_ret (pe_cmpR (op_eqP (Room.units hr)) (pe_callB (call_reprD Sy qa.dp (Room.units hr)) (by rfl) T.repr (by decide +kernel) (pa_cons (pe_lst (pa_cons (pe_fld (pv 10) rfl) (pa_cons (pe_fld (pv 10) rfl) pa_nil))) pa_nil)) (pe_callB (call_reprD Sy qa.dp (Room.units hr)) (by rfl) T.repr (by decide +kernel) (pa_cons (pe_lst (pa_cons (pv 6) (pa_cons (pv 7) pa_nil))) pa_nil)) (nomark _)))))))))))), (ss_cons (ss_asg (se_call (fun _ _ => .nil) (sa_cons se_var sa_nil)) tg_name)
      (ss_cons (ss_asg (se_lst sa_nil) tg_name)
      (ss_cons (ss_for (si_rng1 (sa_cons se_int sa_nil)) tg_name (ss_cons (ss_asg (se_call (fun _ _ => .nil) (sa_cons se_var (sa_cons se_int sa_nil))) tg_name)
      (ss_cons (ss_asg (se_op od_plus (se_op od_times se_int (se_call (fun _ _ => .nil) (sa_cons se_var (sa_cons (se_op od_pow se_int se_int) sa_nil)))) se_var) tg_name)
      (ss_drop (se_append se_var (sa_cons (se_op od_ix (se_lst (sa_cons se_var (sa_cons (se_lst (sa_cons se_var sa_nil)) (sa_cons (se_tup (sa_cons se_var (sa_cons (se_neg se_int) sa_nil))) (sa_cons (se_lst (sa_cons (se_tup (sa_cons se_var (sa_cons se_int sa_nil))) (sa_cons se_non sa_nil))) sa_nil))))) se_var) sa_nil))))))
      (ss_cons (ss_asg se_var (tg_any (tgs_cons tg_name (tgs_cons tg_name (tgs_cons tg_name (tgs_cons tg_name tgs_nil))))))
      (ss_cons (ss_asg (se_make (fun _ _ => .nil) (sa_cons se_var (sa_cons se_var sa_nil))) tg_name)
      (ss_cons (ss_if (st_or (st_not (st_tru (se_call (fun _ _ => .nil) (sa_cons se_var (sa_cons se_var (sa_cons se_var (sa_cons se_var sa_nil))))))) (st_not (st_tru (se_call (fun _ _ => .nil) (sa_cons se_var (sa_cons se_var (sa_cons se_var (sa_cons se_var (sa_cons se_var sa_nil))))))))) (ss_ret se_bl) ss_nil)
      (ss_cons (ss_if (st_or (st_not (st_tru (se_call (fun _ _ => .nil) (sa_cons se_var (sa_cons se_var (sa_cons se_var (sa_cons se_var (sa_cons se_var sa_nil)))))))) (st_not (st_tru (se_call (fun _ _ => .nil) (sa_cons se_var (sa_cons se_var (sa_cons se_var (sa_cons se_var (sa_cons se_var sa_nil))))))))) (ss_ret se_bl) ss_nil)
      (ss_cons (ss_if (st_tru (se_is1 (T := "list") se_var)) (ss_drop (se_append se_var (sa_cons se_int sa_nil))) ss_nil)
      (ss_ret (se_op od_eq (se_cb cd_repr (sa_cons (se_lst (sa_cons (se_fld (f := "numbers") (fun C => hF C "numbers") se_var) (sa_cons (se_fld (f := "filling") (fun C => hF C "filling") se_var) sa_nil))) sa_nil)) (se_cb cd_repr (sa_cons (se_lst (sa_cons se_var (sa_cons se_var sa_nil))) sa_nil))))))))))))⟩
end
end K77
set_option Elab.async false
set_option linter.all false
set_option maxRecDepth 100000
set_option maxHeartbeats 1000000
namespace K77
open PySem PySem.Spec PyProof.Rows L2 Gk Dn He
theorem sys_ok {K : PySem.W.Frag} (h : Hx.sysB K = true) : SysK K := by
  unfold Hx.sysB at h
  cases e : K.lookup sysModules with
  | none =>
    rw [e] at h
    cases h
  | some o =>
    rw [e] at h
    exact ⟨o, e, of_decide_eq_true h⟩
theorem tab_in : ∀ p ∈ tabF, Fa.cls p.1 ∈ Hx.fa ∧ ∀ f ∈ p.2, Fa.noat p.1 f ∈ Hx.fa := fun p hp => by
  have e : tabF = Hx.tab := rfl
  rw [e] at hp
  have m : ∀ x, x ∈ (Fa.cls p.1 :: p.2.map (Fa.noat p.1)) → x ∈ Hx.fa := fun x hx =>
    List.mem_append_right _ (List.mem_append_right _ (List.mem_append_right _ (List.mem_flatMap.mpr ⟨p, hp, hx⟩)))
  exact ⟨m _ List.mem_cons_self, fun f hf => m _ (List.mem_cons_of_mem _ (List.mem_map.mpr ⟨f, hf, rfl⟩))⟩
theorem facts {P : Program} {w : World} {K : PySem.W.Frag} {h : Heap} {mg : Str → Option Value} {fa : Addr} (KX : K.In h) (G : h.Ns mainGlobals mg) (hmg : mg ("law" : Str) = some (.ref fa)) (c : Hx.SaysH K) :
    ∃ fd : FuncData, (∀ (s : Shared) (u : Value), BindsTo s fd ⟨[u], []⟩ [("_law_script", u)]) ∧ ∀ base : Heap, K.In base → base.Ns mainGlobals mg → GOk P w K mg base (L2.CX P w) 4 fa fd ["_law_script"] (spD K (d_law (ga K)) 1) := by
  obtain ⟨cd, cs⟩ := c
  have Sy := sys_ok cs
  have hF : ∀ C f, cF (ga K) C f = true → Cls K C ∧ NoAttr K C f := hF_of cd tab_in
  obtain ⟨fd0, hf0⟩ := fun_of (x := "_law_hand") (stm := topS 73) (cd.def_ 0 (d := Hx.dFn "_law_hand" 73) rfl)
  have D_law_hand : DefAt K mg "_law_hand" st__law_hand := ⟨_, fd0, hf0, glo_ok KX G (cd.fact 0 (f := .glo "_law_hand") rfl)⟩
  obtain ⟨fd1, hf1⟩ := fun_of (x := "_law_mixed") (stm := topS 74) (cd.def_ 1 (d := Hx.dFn "_law_mixed" 74) rfl)
  have D_law_mixed : DefAt K mg "_law_mixed" st__law_mixed := ⟨_, fd1, hf1, glo_ok KX G (cd.fact 1 (f := .glo "_law_mixed") rfl)⟩
  obtain ⟨fd2, hf2⟩ := fun_of (x := "_law_take") (stm := topS 75) (cd.def_ 2 (d := Hx.dFn "_law_take" 75) rfl)
  have D_law_take : DefAt K mg "_law_take" st__law_take := ⟨_, fd2, hf2, glo_ok KX G (cd.fact 2 (f := .glo "_law_take") rfl)⟩
  obtain ⟨fd3, hf3⟩ := fun_of (x := "_law_all") (stm := topS 76) (cd.def_ 3 (d := Hx.dFn "_law_all" 76) rfl)
  have D_law_all : DefAt K mg "_law_all" st__law_all := ⟨_, fd3, hf3, glo_ok KX G (cd.fact 3 (f := .glo "_law_all") rfl)⟩
  obtain ⟨fd4, hf4⟩ := fun_of (x := "_law_answers") (stm := topS 77) (cd.def_ 4 (d := Hx.dFn "_law_answers" 77) rfl)
  have D_law_answers : DefAt K mg "_law_answers" st__law_answers := ⟨_, fd4, hf4, glo_ok KX G (cd.fact 4 (f := .glo "_law_answers") rfl)⟩
  obtain ⟨fd5, hf5⟩ := fun_of (x := "_law_groups") (stm := topS 78) (cd.def_ 5 (d := Hx.dFn "_law_groups" 78) rfl)
  have D_law_groups : DefAt K mg "_law_groups" st__law_groups := ⟨_, fd5, hf5, glo_ok KX G (cd.fact 5 (f := .glo "_law_groups") rfl)⟩
  obtain ⟨fd6, hf6⟩ := fun_of (x := "_law_bounds") (stm := topS 79) (cd.def_ 6 (d := Hx.dFn "_law_bounds" 79) rfl)
  have D_law_bounds : DefAt K mg "_law_bounds" st__law_bounds := ⟨_, fd6, hf6, glo_ok KX G (cd.fact 6 (f := .glo "_law_bounds") rfl)⟩
  obtain ⟨fd7, hf7⟩ := fun_of (x := "_law_plans") (stm := topS 80) (cd.def_ 7 (d := Hx.dFn "_law_plans" 80) rfl)
  have D_law_plans : DefAt K mg "_law_plans" st__law_plans := ⟨_, fd7, hf7, glo_ok KX G (cd.fact 7 (f := .glo "_law_plans") rfl)⟩
  obtain ⟨fdL, hL, bL⟩ := law_of (stm := topS 81) (fun _ _ _ _ _ _ _ => rfl) (cd.def_ 8 (d := Hx.dFn "law" 81) rfl)
  have gl := glo_ok KX G (cd.fact 8 (f := .glo "law") rfl)
  have e := hmg.symm.trans gl
  cases e
  have n_abs := free_ok KX G (cd.fact 54 (f := .free "abs") rfl)
  have n_int := free_ok KX G (cd.fact 55 (f := .free "int") rfl)
  have n_isinstance := free_ok KX G (cd.fact 56 (f := .free "isinstance") rfl)
  have n_len := free_ok KX G (cd.fact 57 (f := .free "len") rfl)
  have n_list := free_ok KX G (cd.fact 58 (f := .free "list") rfl)
  have n_range := free_ok KX G (cd.fact 59 (f := .free "range") rfl)
  have n_repr := free_ok KX G (cd.fact 60 (f := .free "repr") rfl)
  have T : TB mg := ⟨n_abs, n_int, n_isinstance, n_len, n_list, n_range, n_repr⟩
  obtain ⟨gd0, hg0⟩ := init_of (ql := "Weights.__init__") (stm := inClass (topS 1) 0) (cd.def_ 9 (d := Hx.dIn "Weights" "Weights.__init__" 1) rfl)
  have C_Weights : ClsAt K mg "Weights" "Weights.__init__" stC_Weights (ga K "Weights") := ⟨_, gd0, mkr_ok (cd.fact 61 (f := .mkr "Weights") rfl), hg0, glo_ok KX G (cd.fact 9 (f := .glo "Weights") rfl)⟩
  obtain ⟨gd1, hg1⟩ := init_of (ql := "Hidden.__init__") (stm := inClass (topS 3) 0) (cd.def_ 10 (d := Hx.dIn "Hidden" "Hidden.__init__" 3) rfl)
  have C_Hidden : ClsAt K mg "Hidden" "Hidden.__init__" stC_Hidden (ga K "Hidden") := ⟨_, gd1, mkr_ok (cd.fact 62 (f := .mkr "Hidden") rfl), hg1, glo_ok KX G (cd.fact 10 (f := .glo "Hidden") rfl)⟩
  obtain ⟨gd2, hg2⟩ := init_of (ql := "Missing.__init__") (stm := inClass (topS 5) 0) (cd.def_ 11 (d := Hx.dIn "Missing" "Missing.__init__" 5) rfl)
  have C_Missing : ClsAt K mg "Missing" "Missing.__init__" stC_Missing (ga K "Missing") := ⟨_, gd2, mkr_ok (cd.fact 63 (f := .mkr "Missing") rfl), hg2, glo_ok KX G (cd.fact 11 (f := .glo "Missing") rfl)⟩
  obtain ⟨gd3, hg3⟩ := init_of (ql := "Meeting.__init__") (stm := inClass (topS 6) 0) (cd.def_ 12 (d := Hx.dIn "Meeting" "Meeting.__init__" 6) rfl)
  have C_Meeting : ClsAt K mg "Meeting" "Meeting.__init__" stC_Meeting (ga K "Meeting") := ⟨_, gd3, mkr_ok (cd.fact 64 (f := .mkr "Meeting") rfl), hg3, glo_ok KX G (cd.fact 12 (f := .glo "Meeting") rfl)⟩
  obtain ⟨gd4, hg4⟩ := init_of (ql := "Core.__init__") (stm := inClass (topS 8) 0) (cd.def_ 13 (d := Hx.dIn "Core" "Core.__init__" 8) rfl)
  have C_Core : ClsAt K mg "Core" "Core.__init__" stC_Core (ga K "Core") := ⟨_, gd4, mkr_ok (cd.fact 65 (f := .mkr "Core") rfl), hg4, glo_ok KX G (cd.fact 13 (f := .glo "Core") rfl)⟩
  obtain ⟨gd5, hg5⟩ := init_of (ql := "Block.__init__") (stm := inClass (topS 10) 0) (cd.def_ 14 (d := Hx.dIn "Block" "Block.__init__" 10) rfl)
  have C_Block : ClsAt K mg "Block" "Block.__init__" stC_Block (ga K "Block") := ⟨_, gd5, mkr_ok (cd.fact 66 (f := .mkr "Block") rfl), hg5, glo_ok KX G (cd.fact 14 (f := .glo "Block") rfl)⟩
  obtain ⟨gd6, hg6⟩ := init_of (ql := "Fewest.__init__") (stm := inClass (topS 12) 0) (cd.def_ 15 (d := Hx.dIn "Fewest" "Fewest.__init__" 12) rfl)
  have C_Fewest : ClsAt K mg "Fewest" "Fewest.__init__" stC_Fewest (ga K "Fewest") := ⟨_, gd6, mkr_ok (cd.fact 67 (f := .mkr "Fewest") rfl), hg6, glo_ok KX G (cd.fact 15 (f := .glo "Fewest") rfl)⟩
  obtain ⟨gd7, hg7⟩ := init_of (ql := "Dependent.__init__") (stm := inClass (topS 13) 0) (cd.def_ 16 (d := Hx.dIn "Dependent" "Dependent.__init__" 13) rfl)
  have C_Dependent : ClsAt K mg "Dependent" "Dependent.__init__" stC_Dependent (ga K "Dependent") := ⟨_, gd7, mkr_ok (cd.fact 68 (f := .mkr "Dependent") rfl), hg7, glo_ok KX G (cd.fact 16 (f := .glo "Dependent") rfl)⟩
  obtain ⟨gd8, hg8⟩ := init_of (ql := "Recovered.__init__") (stm := inClass (topS 15) 0) (cd.def_ 17 (d := Hx.dIn "Recovered" "Recovered.__init__" 15) rfl)
  have C_Recovered : ClsAt K mg "Recovered" "Recovered.__init__" stC_Recovered (ga K "Recovered") := ⟨_, gd8, mkr_ok (cd.fact 69 (f := .mkr "Recovered") rfl), hg8, glo_ok KX G (cd.fact 17 (f := .glo "Recovered") rfl)⟩
  obtain ⟨gd9, hg9⟩ := init_of (ql := "Clash.__init__") (stm := inClass (topS 16) 0) (cd.def_ 18 (d := Hx.dIn "Clash" "Clash.__init__" 16) rfl)
  have C_Clash : ClsAt K mg "Clash" "Clash.__init__" stC_Clash (ga K "Clash") := ⟨_, gd9, mkr_ok (cd.fact 70 (f := .mkr "Clash") rfl), hg9, glo_ok KX G (cd.fact 18 (f := .glo "Clash") rfl)⟩
  obtain ⟨gd10, hg10⟩ := init_of (ql := "Given.__init__") (stm := inClass (topS 17) 0) (cd.def_ 19 (d := Hx.dIn "Given" "Given.__init__" 17) rfl)
  have C_Given : ClsAt K mg "Given" "Given.__init__" stC_Given (ga K "Given") := ⟨_, gd10, mkr_ok (cd.fact 71 (f := .mkr "Given") rfl), hg10, glo_ok KX G (cd.fact 19 (f := .glo "Given") rfl)⟩
  obtain ⟨gd11, hg11⟩ := init_of (ql := "Parted.__init__") (stm := inClass (topS 18) 0) (cd.def_ 20 (d := Hx.dIn "Parted" "Parted.__init__" 18) rfl)
  have C_Parted : ClsAt K mg "Parted" "Parted.__init__" stC_Parted (ga K "Parted") := ⟨_, gd11, mkr_ok (cd.fact 72 (f := .mkr "Parted") rfl), hg11, glo_ok KX G (cd.fact 20 (f := .glo "Parted") rfl)⟩
  obtain ⟨gd12, hg12⟩ := init_of (ql := "Bounds.__init__") (stm := inClass (topS 20) 0) (cd.def_ 21 (d := Hx.dIn "Bounds" "Bounds.__init__" 20) rfl)
  have C_Bounds : ClsAt K mg "Bounds" "Bounds.__init__" stC_Bounds (ga K "Bounds") := ⟨_, gd12, mkr_ok (cd.fact 73 (f := .mkr "Bounds") rfl), hg12, glo_ok KX G (cd.fact 21 (f := .glo "Bounds") rfl)⟩
  obtain ⟨gd13, hg13⟩ := init_of (ql := "Chain.__init__") (stm := inClass (topS 22) 0) (cd.def_ 22 (d := Hx.dIn "Chain" "Chain.__init__" 22) rfl)
  have C_Chain : ClsAt K mg "Chain" "Chain.__init__" stC_Chain (ga K "Chain") := ⟨_, gd13, mkr_ok (cd.fact 74 (f := .mkr "Chain") rfl), hg13, glo_ok KX G (cd.fact 22 (f := .glo "Chain") rfl)⟩
  obtain ⟨gd14, hg14⟩ := init_of (ql := "LeastBoth.__init__") (stm := inClass (topS 24) 0) (cd.def_ 23 (d := Hx.dIn "LeastBoth" "LeastBoth.__init__" 24) rfl)
  have C_LeastBoth : ClsAt K mg "LeastBoth" "LeastBoth.__init__" stC_LeastBoth (ga K "LeastBoth") := ⟨_, gd14, mkr_ok (cd.fact 75 (f := .mkr "LeastBoth") rfl), hg14, glo_ok KX G (cd.fact 23 (f := .glo "LeastBoth") rfl)⟩
  obtain ⟨gd15, hg15⟩ := init_of (ql := "Played.__init__") (stm := inClass (topS 26) 0) (cd.def_ 24 (d := Hx.dIn "Played" "Played.__init__" 26) rfl)
  have C_Played : ClsAt K mg "Played" "Played.__init__" stC_Played (ga K "Played") := ⟨_, gd15, mkr_ok (cd.fact 76 (f := .mkr "Played") rfl), hg15, glo_ok KX G (cd.fact 24 (f := .glo "Played") rfl)⟩
  obtain ⟨gd16, hg16⟩ := init_of (ql := "Come.__init__") (stm := inClass (topS 28) 0) (cd.def_ 25 (d := Hx.dIn "Come" "Come.__init__" 28) rfl)
  have C_Come : ClsAt K mg "Come" "Come.__init__" stC_Come (ga K "Come") := ⟨_, gd16, mkr_ok (cd.fact 77 (f := .mkr "Come") rfl), hg16, glo_ok KX G (cd.fact 25 (f := .glo "Come") rfl)⟩
  obtain ⟨gd17, hg17⟩ := init_of (ql := "Never.__init__") (stm := inClass (topS 29) 0) (cd.def_ 26 (d := Hx.dIn "Never" "Never.__init__" 29) rfl)
  have C_Never : ClsAt K mg "Never" "Never.__init__" stC_Never (ga K "Never") := ⟨_, gd17, mkr_ok (cd.fact 78 (f := .mkr "Never") rfl), hg17, glo_ok KX G (cd.fact 26 (f := .glo "Never") rfl)⟩
  obtain ⟨gd18, hg18⟩ := init_of (ql := "Untold.__init__") (stm := inClass (topS 30) 0) (cd.def_ 27 (d := Hx.dIn "Untold" "Untold.__init__" 30) rfl)
  have C_Untold : ClsAt K mg "Untold" "Untold.__init__" stC_Untold (ga K "Untold") := ⟨_, gd18, mkr_ok (cd.fact 79 (f := .mkr "Untold") rfl), hg18, glo_ok KX G (cd.fact 27 (f := .glo "Untold") rfl)⟩
  obtain ⟨gd19, hg19⟩ := init_of (ql := "Piece.__init__") (stm := inClass (topS 32) 0) (cd.def_ 28 (d := Hx.dIn "Piece" "Piece.__init__" 32) rfl)
  have C_Piece : ClsAt K mg "Piece" "Piece.__init__" stC_Piece (ga K "Piece") := ⟨_, gd19, mkr_ok (cd.fact 80 (f := .mkr "Piece") rfl), hg19, glo_ok KX G (cd.fact 28 (f := .glo "Piece") rfl)⟩
  obtain ⟨gd20, hg20⟩ := init_of (ql := "Walk.__init__") (stm := inClass (topS 34) 0) (cd.def_ 29 (d := Hx.dIn "Walk" "Walk.__init__" 34) rfl)
  have C_Walk : ClsAt K mg "Walk" "Walk.__init__" stC_Walk (ga K "Walk") := ⟨_, gd20, mkr_ok (cd.fact 81 (f := .mkr "Walk") rfl), hg20, glo_ok KX G (cd.fact 29 (f := .glo "Walk") rfl)⟩
  obtain ⟨gd21, hg21⟩ := init_of (ql := "Balance.__init__") (stm := inClass (topS 36) 0) (cd.def_ 30 (d := Hx.dIn "Balance" "Balance.__init__" 36) rfl)
  have C_Balance : ClsAt K mg "Balance" "Balance.__init__" stC_Balance (ga K "Balance") := ⟨_, gd21, mkr_ok (cd.fact 82 (f := .mkr "Balance") rfl), hg21, glo_ok KX G (cd.fact 30 (f := .glo "Balance") rfl)⟩
  obtain ⟨gd22, hg22⟩ := init_of (ql := "FewestGroups.__init__") (stm := inClass (topS 38) 0) (cd.def_ 31 (d := Hx.dIn "FewestGroups" "FewestGroups.__init__" 38) rfl)
  have C_FewestGroups : ClsAt K mg "FewestGroups" "FewestGroups.__init__" stC_FewestGroups (ga K "FewestGroups") := ⟨_, gd22, mkr_ok (cd.fact 83 (f := .mkr "FewestGroups") rfl), hg22, glo_ok KX G (cd.fact 31 (f := .glo "FewestGroups") rfl)⟩
  obtain ⟨gd23, hg23⟩ := init_of (ql := "SideLot.__init__") (stm := inClass (topS 40) 0) (cd.def_ 32 (d := Hx.dIn "SideLot" "SideLot.__init__" 40) rfl)
  have C_SideLot : ClsAt K mg "SideLot" "SideLot.__init__" stC_SideLot (ga K "SideLot") := ⟨_, gd23, mkr_ok (cd.fact 84 (f := .mkr "SideLot") rfl), hg23, glo_ok KX G (cd.fact 32 (f := .glo "SideLot") rfl)⟩
  obtain ⟨gd24, hg24⟩ := init_of (ql := "WebCore.__init__") (stm := inClass (topS 41) 0) (cd.def_ 33 (d := Hx.dIn "WebCore" "WebCore.__init__" 41) rfl)
  have C_WebCore : ClsAt K mg "WebCore" "WebCore.__init__" stC_WebCore (ga K "WebCore") := ⟨_, gd24, mkr_ok (cd.fact 85 (f := .mkr "WebCore") rfl), hg24, glo_ok KX G (cd.fact 33 (f := .glo "WebCore") rfl)⟩
  obtain ⟨gd25, hg25⟩ := init_of (ql := "Run.__init__") (stm := inClass (topS 43) 0) (cd.def_ 34 (d := Hx.dIn "Run" "Run.__init__" 43) rfl)
  have C_Run : ClsAt K mg "Run" "Run.__init__" stC_Run (ga K "Run") := ⟨_, gd25, mkr_ok (cd.fact 86 (f := .mkr "Run") rfl), hg25, glo_ok KX G (cd.fact 34 (f := .glo "Run") rfl)⟩
  obtain ⟨gd26, hg26⟩ := init_of (ql := "RunTable.__init__") (stm := inClass (topS 45) 0) (cd.def_ 35 (d := Hx.dIn "RunTable" "RunTable.__init__" 45) rfl)
  have C_RunTable : ClsAt K mg "RunTable" "RunTable.__init__" stC_RunTable (ga K "RunTable") := ⟨_, gd26, mkr_ok (cd.fact 87 (f := .mkr "RunTable") rfl), hg26, glo_ok KX G (cd.fact 35 (f := .glo "RunTable") rfl)⟩
  obtain ⟨gd27, hg27⟩ := init_of (ql := "Apart.__init__") (stm := inClass (topS 46) 0) (cd.def_ 36 (d := Hx.dIn "Apart" "Apart.__init__" 46) rfl)
  have C_Apart : ClsAt K mg "Apart" "Apart.__init__" stC_Apart (ga K "Apart") := ⟨_, gd27, mkr_ok (cd.fact 88 (f := .mkr "Apart") rfl), hg27, glo_ok KX G (cd.fact 36 (f := .glo "Apart") rfl)⟩
  obtain ⟨gd28, hg28⟩ := init_of (ql := "Lost.__init__") (stm := inClass (topS 48) 0) (cd.def_ 37 (d := Hx.dIn "Lost" "Lost.__init__" 48) rfl)
  have C_Lost : ClsAt K mg "Lost" "Lost.__init__" stC_Lost (ga K "Lost") := ⟨_, gd28, mkr_ok (cd.fact 89 (f := .mkr "Lost") rfl), hg28, glo_ok KX G (cd.fact 37 (f := .glo "Lost") rfl)⟩
  obtain ⟨gd29, hg29⟩ := init_of (ql := "Mended.__init__") (stm := inClass (topS 49) 0) (cd.def_ 38 (d := Hx.dIn "Mended" "Mended.__init__" 49) rfl)
  have C_Mended : ClsAt K mg "Mended" "Mended.__init__" stC_Mended (ga K "Mended") := ⟨_, gd29, mkr_ok (cd.fact 90 (f := .mkr "Mended") rfl), hg29, glo_ok KX G (cd.fact 38 (f := .glo "Mended") rfl)⟩
  obtain ⟨gd30, hg30⟩ := init_of (ql := "Worse.__init__") (stm := inClass (topS 50) 0) (cd.def_ 39 (d := Hx.dIn "Worse" "Worse.__init__" 50) rfl)
  have C_Worse : ClsAt K mg "Worse" "Worse.__init__" stC_Worse (ga K "Worse") := ⟨_, gd30, mkr_ok (cd.fact 91 (f := .mkr "Worse") rfl), hg30, glo_ok KX G (cd.fact 39 (f := .glo "Worse") rfl)⟩
  obtain ⟨gd31, hg31⟩ := init_of (ql := "Whole.__init__") (stm := inClass (topS 52) 0) (cd.def_ 40 (d := Hx.dIn "Whole" "Whole.__init__" 52) rfl)
  have C_Whole : ClsAt K mg "Whole" "Whole.__init__" stC_Whole (ga K "Whole") := ⟨_, gd31, mkr_ok (cd.fact 92 (f := .mkr "Whole") rfl), hg31, glo_ok KX G (cd.fact 40 (f := .glo "Whole") rfl)⟩
  obtain ⟨gd32, hg32⟩ := init_of (ql := "RestWeights.__init__") (stm := inClass (topS 54) 0) (cd.def_ 41 (d := Hx.dIn "RestWeights" "RestWeights.__init__" 54) rfl)
  have C_RestWeights : ClsAt K mg "RestWeights" "RestWeights.__init__" stC_RestWeights (ga K "RestWeights") := ⟨_, gd32, mkr_ok (cd.fact 93 (f := .mkr "RestWeights") rfl), hg32, glo_ok KX G (cd.fact 41 (f := .glo "RestWeights") rfl)⟩
  obtain ⟨gd33, hg33⟩ := init_of (ql := "RestHidden.__init__") (stm := inClass (topS 55) 0) (cd.def_ 42 (d := Hx.dIn "RestHidden" "RestHidden.__init__" 55) rfl)
  have C_RestHidden : ClsAt K mg "RestHidden" "RestHidden.__init__" stC_RestHidden (ga K "RestHidden") := ⟨_, gd33, mkr_ok (cd.fact 94 (f := .mkr "RestHidden") rfl), hg33, glo_ok KX G (cd.fact 42 (f := .glo "RestHidden") rfl)⟩
  obtain ⟨gd34, hg34⟩ := init_of (ql := "Bent.__init__") (stm := inClass (topS 57) 0) (cd.def_ 43 (d := Hx.dIn "Bent" "Bent.__init__" 57) rfl)
  have C_Bent : ClsAt K mg "Bent" "Bent.__init__" stC_Bent (ga K "Bent") := ⟨_, gd34, mkr_ok (cd.fact 95 (f := .mkr "Bent") rfl), hg34, glo_ok KX G (cd.fact 43 (f := .glo "Bent") rfl)⟩
  obtain ⟨gd35, hg35⟩ := init_of (ql := "Parts.__init__") (stm := inClass (topS 58) 0) (cd.def_ 44 (d := Hx.dIn "Parts" "Parts.__init__" 58) rfl)
  have C_Parts : ClsAt K mg "Parts" "Parts.__init__" stC_Parts (ga K "Parts") := ⟨_, gd35, mkr_ok (cd.fact 96 (f := .mkr "Parts") rfl), hg35, glo_ok KX G (cd.fact 44 (f := .glo "Parts") rfl)⟩
  obtain ⟨gd36, hg36⟩ := init_of (ql := "SideBounds.__init__") (stm := inClass (topS 60) 0) (cd.def_ 45 (d := Hx.dIn "SideBounds" "SideBounds.__init__" 60) rfl)
  have C_SideBounds : ClsAt K mg "SideBounds" "SideBounds.__init__" stC_SideBounds (ga K "SideBounds") := ⟨_, gd36, mkr_ok (cd.fact 97 (f := .mkr "SideBounds") rfl), hg36, glo_ok KX G (cd.fact 45 (f := .glo "SideBounds") rfl)⟩
  obtain ⟨gd37, hg37⟩ := init_of (ql := "Taken.__init__") (stm := inClass (topS 62) 0) (cd.def_ 46 (d := Hx.dIn "Taken" "Taken.__init__" 62) rfl)
  have C_Taken : ClsAt K mg "Taken" "Taken.__init__" stC_Taken (ga K "Taken") := ⟨_, gd37, mkr_ok (cd.fact 98 (f := .mkr "Taken") rfl), hg37, glo_ok KX G (cd.fact 46 (f := .glo "Taken") rfl)⟩
  obtain ⟨gd38, hg38⟩ := init_of (ql := "Solved.__init__") (stm := inClass (topS 64) 0) (cd.def_ 47 (d := Hx.dIn "Solved" "Solved.__init__" 64) rfl)
  have C_Solved : ClsAt K mg "Solved" "Solved.__init__" stC_Solved (ga K "Solved") := ⟨_, gd38, mkr_ok (cd.fact 99 (f := .mkr "Solved") rfl), hg38, glo_ok KX G (cd.fact 47 (f := .glo "Solved") rfl)⟩
  obtain ⟨gd39, hg39⟩ := init_of (ql := "Ladder.__init__") (stm := inClass (topS 65) 0) (cd.def_ 48 (d := Hx.dIn "Ladder" "Ladder.__init__" 65) rfl)
  have C_Ladder : ClsAt K mg "Ladder" "Ladder.__init__" stC_Ladder (ga K "Ladder") := ⟨_, gd39, mkr_ok (cd.fact 100 (f := .mkr "Ladder") rfl), hg39, glo_ok KX G (cd.fact 48 (f := .glo "Ladder") rfl)⟩
  obtain ⟨gd40, hg40⟩ := init_of (ql := "Ring.__init__") (stm := inClass (topS 66) 0) (cd.def_ 49 (d := Hx.dIn "Ring" "Ring.__init__" 66) rfl)
  have C_Ring : ClsAt K mg "Ring" "Ring.__init__" stC_Ring (ga K "Ring") := ⟨_, gd40, mkr_ok (cd.fact 101 (f := .mkr "Ring") rfl), hg40, glo_ok KX G (cd.fact 49 (f := .glo "Ring") rfl)⟩
  obtain ⟨gd41, hg41⟩ := init_of (ql := "Unseen.__init__") (stm := inClass (topS 68) 0) (cd.def_ 50 (d := Hx.dIn "Unseen" "Unseen.__init__" 68) rfl)
  have C_Unseen : ClsAt K mg "Unseen" "Unseen.__init__" stC_Unseen (ga K "Unseen") := ⟨_, gd41, mkr_ok (cd.fact 102 (f := .mkr "Unseen") rfl), hg41, glo_ok KX G (cd.fact 50 (f := .glo "Unseen") rfl)⟩
  obtain ⟨gd42, hg42⟩ := init_of (ql := "Filled.__init__") (stm := inClass (topS 69) 0) (cd.def_ 51 (d := Hx.dIn "Filled" "Filled.__init__" 69) rfl)
  have C_Filled : ClsAt K mg "Filled" "Filled.__init__" stC_Filled (ga K "Filled") := ⟨_, gd42, mkr_ok (cd.fact 103 (f := .mkr "Filled") rfl), hg42, glo_ok KX G (cd.fact 51 (f := .glo "Filled") rfl)⟩
  obtain ⟨gd43, hg43⟩ := init_of (ql := "Twice.__init__") (stm := inClass (topS 70) 0) (cd.def_ 52 (d := Hx.dIn "Twice" "Twice.__init__" 70) rfl)
  have C_Twice : ClsAt K mg "Twice" "Twice.__init__" stC_Twice (ga K "Twice") := ⟨_, gd43, mkr_ok (cd.fact 104 (f := .mkr "Twice") rfl), hg43, glo_ok KX G (cd.fact 52 (f := .glo "Twice") rfl)⟩
  obtain ⟨gd44, hg44⟩ := init_of (ql := "Explained.__init__") (stm := inClass (topS 71) 0) (cd.def_ 53 (d := Hx.dIn "Explained" "Explained.__init__" 71) rfl)
  have C_Explained : ClsAt K mg "Explained" "Explained.__init__" stC_Explained (ga K "Explained") := ⟨_, gd44, mkr_ok (cd.fact 105 (f := .mkr "Explained") rfl), hg44, glo_ok KX G (cd.fact 53 (f := .glo "Explained") rfl)⟩
  refine ⟨fdL, bL, fun base _ _ => ?_⟩
  have O__law_hand := ok__law_hand (P := P) (w := w) (base := base) D_law_hand T
  have O__law_mixed := ok__law_mixed (P := P) (w := w) (base := base) D_law_mixed T
  have O__law_take := ok__law_take (P := P) (w := w) (base := base) D_law_take T O__law_mixed
  have O__law_all := ok__law_all (P := P) (w := w) (base := base) D_law_all T Sy
  have K_Clash := okC_Clash (P := P) (w := w) (base := base) hF C_Clash
  have K_Dependent := okC_Dependent (P := P) (w := w) (base := base) hF C_Dependent
  have K_Fewest := okC_Fewest (P := P) (w := w) (base := base) hF C_Fewest
  have K_Given := okC_Given (P := P) (w := w) (base := base) hF C_Given
  have K_Hidden := okC_Hidden (P := P) (w := w) (base := base) hF C_Hidden
  have K_Meeting := okC_Meeting (P := P) (w := w) (base := base) hF C_Meeting
  have K_Missing := okC_Missing (P := P) (w := w) (base := base) hF C_Missing
  have K_Parted := okC_Parted (P := P) (w := w) (base := base) hF C_Parted
  have K_Recovered := okC_Recovered (P := P) (w := w) (base := base) hF C_Recovered
  have K_RestHidden := okC_RestHidden (P := P) (w := w) (base := base) hF C_RestHidden
  have K_RestWeights := okC_RestWeights (P := P) (w := w) (base := base) hF C_RestWeights
  have K_Weights := okC_Weights (P := P) (w := w) (base := base) hF C_Weights
  have K_Whole := okC_Whole (P := P) (w := w) (base := base) hF C_Whole
  have O__law_answers := ok__law_answers (P := P) (w := w) (base := base) D_law_answers T Sy O__law_all hF K_Clash K_Dependent K_Fewest K_Given K_Hidden K_Meeting K_Missing K_Parted K_Recovered K_RestHidden K_RestWeights K_Weights K_Whole
  have K_Balance := okC_Balance (P := P) (w := w) (base := base) hF C_Balance
  have K_Block := okC_Block (P := P) (w := w) (base := base) hF C_Block
  have K_Chain := okC_Chain (P := P) (w := w) (base := base) hF C_Chain
  have K_Core := okC_Core (P := P) (w := w) (base := base) hF C_Core
  have K_Ladder := okC_Ladder (P := P) (w := w) (base := base) hF C_Ladder
  have K_LeastBoth := okC_LeastBoth (P := P) (w := w) (base := base) hF C_LeastBoth
  have K_Piece := okC_Piece (P := P) (w := w) (base := base) hF C_Piece
  have K_Ring := okC_Ring (P := P) (w := w) (base := base) hF C_Ring
  have K_Solved := okC_Solved (P := P) (w := w) (base := base) hF C_Solved
  have K_Taken := okC_Taken (P := P) (w := w) (base := base) hF C_Taken
  have K_Walk := okC_Walk (P := P) (w := w) (base := base) hF C_Walk
  have O__law_groups := ok__law_groups (P := P) (w := w) (base := base) D_law_groups T Sy O__law_all hF K_Balance K_Block K_Chain K_Core K_Ladder K_LeastBoth K_Piece K_Ring K_Solved K_Taken K_Walk
  have K_Apart := okC_Apart (P := P) (w := w) (base := base) hF C_Apart
  have K_Bent := okC_Bent (P := P) (w := w) (base := base) hF C_Bent
  have K_Bounds := okC_Bounds (P := P) (w := w) (base := base) hF C_Bounds
  have K_Parts := okC_Parts (P := P) (w := w) (base := base) hF C_Parts
  have K_Run := okC_Run (P := P) (w := w) (base := base) hF C_Run
  have K_RunTable := okC_RunTable (P := P) (w := w) (base := base) hF C_RunTable
  have O__law_bounds := ok__law_bounds (P := P) (w := w) (base := base) D_law_bounds T Sy O__law_all hF K_Apart K_Bent K_Bounds K_Parts K_Run K_RunTable
  have K_Come := okC_Come (P := P) (w := w) (base := base) hF C_Come
  have K_Explained := okC_Explained (P := P) (w := w) (base := base) hF C_Explained
  have K_FewestGroups := okC_FewestGroups (P := P) (w := w) (base := base) hF C_FewestGroups
  have K_Filled := okC_Filled (P := P) (w := w) (base := base) hF C_Filled
  have K_Lost := okC_Lost (P := P) (w := w) (base := base) hF C_Lost
  have K_Mended := okC_Mended (P := P) (w := w) (base := base) hF C_Mended
  have K_Never := okC_Never (P := P) (w := w) (base := base) hF C_Never
  have K_Played := okC_Played (P := P) (w := w) (base := base) hF C_Played
  have K_SideBounds := okC_SideBounds (P := P) (w := w) (base := base) hF C_SideBounds
  have K_SideLot := okC_SideLot (P := P) (w := w) (base := base) hF C_SideLot
  have K_Twice := okC_Twice (P := P) (w := w) (base := base) hF C_Twice
  have K_Unseen := okC_Unseen (P := P) (w := w) (base := base) hF C_Unseen
  have K_Untold := okC_Untold (P := P) (w := w) (base := base) hF C_Untold
  have K_WebCore := okC_WebCore (P := P) (w := w) (base := base) hF C_WebCore
  have K_Worse := okC_Worse (P := P) (w := w) (base := base) hF C_Worse
  have O__law_plans := ok__law_plans (P := P) (w := w) (base := base) D_law_plans T Sy O__law_all hF K_Come K_Explained K_FewestGroups K_Filled K_Lost K_Mended K_Never K_Played K_SideBounds K_SideLot K_Twice K_Unseen K_Untold K_WebCore K_Worse
  exact okL_law hL T Sy O__law_answers O__law_bounds O__law_groups O__law_hand O__law_plans O__law_take hF K_Recovered
end K77
open PySem PySem.W PySem.Calls PyProof.Rows
theorem PySem.Challenge.cw_thinslopes_k77_all_results_keep_their_th_holds : PySem.Challenge.rw_thinslopes_k77_all_results_keep_their_th.Holds := by
  w_on; o_law
  refine HandSHeadRun.head_any (r := OpenLaw.row PySem.Challenge.rw_thinslopes_k77_all_results_keep_their_th) (q := HandSHeadRun.qR) (H := Hx.hk) (ob := Hx.ob) (M := 21396) (loose := []) (d := HandSHeadRun.topDef (OpenLaw.row PySem.Challenge.rw_thinslopes_k77_all_results_keep_their_th).prog 81) (kwd := []) Hx.ob_eq
    (by kernel_rfl) (fun s => by kernel_rfl) HandSHeadRun.runR (by kernel_rfl) (by kernel_rfl) (by kernel_rfl) (by rfl) (by first | assumption | decide +kernel) (by decide +kernel) ⟨rfl, rfl, rfl, rfl, rfl, by decide +kernel⟩ ?hw ?hc
  case hw => w_witness2
  case hc =>
    refine Dn.walk_E (l := PySem.Challenge.rw_thinslopes_k77_all_results_keep_their_th) (n := 63) (k := 4) (x := "_law_script") rfl (by decide) (by kernel_rfl) ⟨rfl, by decide, by decide⟩ ?F
    intro w mg fa h Y G hmg0
    obtain ⟨K, KX, c⟩ := Y
    have hmg : mg ("law" : PySem.Str) = some (.ref fa) := by
      have e : (HandSHeadRun.topDef (OpenLaw.row PySem.Challenge.rw_thinslopes_k77_all_results_keep_their_th).prog 81).name = ("law" : PySem.Str) := by kernel_rfl
      rw [← e]
      exact hmg0
    obtain ⟨fd, hb, hF⟩ := K77.facts (P := (PySem.Challenge.rw_thinslopes_k77_all_results_keep_their_th).prog) (w := w) KX G hmg c
    exact ⟨K, Dn.spD K (K77.d_law (He.ga K)) 1, fd, KX, hb, fun H a ns hl _ _ hS => Dn.spd_start hS (K77.law_true _ ns hl), hF⟩
